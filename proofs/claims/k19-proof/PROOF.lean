import PyProof.Rows.All
import Wide.All
import OpenK.AllK
import Wide.FinOn
import PySem.Challenge.RW_rootsabove_k19_whole_outside_roots
import HandS.ForMost
import HandS.Wide
import HandS.WideBits
import HandS.Gcd
import HandS.More
import HandS.IsInst
import HandS.Zip
import HandS.SortKw
import HandS.NoneIn
import HandS.Style
import KE.GoesEnum
import HandS.AnyAll
import HandS.Conv
import KE.KEqDeep
import HandS.Comp
import HandS.Words
import KE.KStateDown
import HandS.Defaults
import HandS.Head0
import HandS.Head1
import HandS.Head2
import HandS.Head3
import HandS.HeadEnd
import HandS.HeadHook1
import HandS.HeadHook2
import HandS.HeadHook3
import HandS.HeadHook4
import HandS.HeadWalk
import HandS.EndTab
import HandS.NestedK
set_option Elab.async false
set_option linter.all false
set_option maxRecDepth 100000
set_option maxHeartbeats 2100000
/-! Words of this verifier's own over the hand layer: data that lasts, a def by its name, enumerate of a tuple, lcm. -/
namespace V3
open PySem.Spec PySem L2 PyProof.Rows

/-! ### what stands, stands -/
theorem sameT {K : PySem.W.Frag} {H H' : Hp} {a : Addr} {xs : List V} (e : Same H H') (h : SqT K H a xs) : SqT K H' a xs := by
  (rcases h with (h | ⟨o, h⟩) | h)
  · exact .inl (.inl (e _ _ h))
  · (exact .inl (.inr ⟨o, e _ _ h⟩))
  · exact .inr h
theorem same_upd {o : HO} {p : Addr} {H : Hp} (new : H p = none) : Same H (upd H p o) := fun at_ it stood => by
  rw [upd_ne (ne_of_none stood new)]
  exact stood
mutual
theorem Dp.same {K : PySem.W.Frag} {H H' : Hp} (e : Same H H') : ∀ {v : V} {d : PyData}, Dp K H v d → Dp K H' v d
  | _, _, .non => .non
  | _, _, .bl b => .bl b
  | _, _, .int i => .int i
  | _, _, .str x => .str x
  | _, _, .lst h a => .lst (e.seq h) (DpAll.same e a)
  | _, _, .tup h a => .tup (sameT e h) (DpAll.same e a)
theorem DpAll.same {K : PySem.W.Frag} {H H' : Hp} (e : Same H H') : ∀ {vs : List V} {ds : List PyData}, DpAll K H vs ds → DpAll K H' vs ds
  | _, _, .nil => .nil
  | _, _, .cons a b => .cons (Dp.same e a) (DpAll.same e b)
end

/-! ### a def by its name -/
structure At (K : PySem.W.Frag) (mg : Str → Option Value) (x : Str) (st : Stmt) : Prop where
  ex : ∃ (f : Addr) (fd : FuncData), mg x = some (.ref f) ∧ Fun K x x st f fd
structure Df (P : Program) (w : World) (K : PySem.W.Frag) (mg : Str → Option Value) (base : Heap) (x : Str) (k : Nat) (ps : List Str) (sp : Sp) : Prop where
  ex : ∃ (f : Addr) (fd : FuncData), mg x = some (.ref f) ∧ PySem.W.keepIn K (.ref f) = true ∧ Binds K fd ps [] ∧ FnOk P w K mg base CX0 k f fd ps sp ∧ ∃ (oc : Value) (od : Option Addr) (osl : Array (Option Value)), K.lookup f = some ⟨oc, od, .func fd, osl⟩
def tFn (sp : Sp) (t : TA) : TE := fun σ H Q => t σ H fun vs H1 => sp vs H1 Q E0
section
variable {X : Cx}
theorem pe_fn {x : Str} {p pos : Pos} {e : Expr} {es : List Expr} {t : TA} {k k0 : Nat} {ps : List Str} {sp : Sp} (D : Df X.prog X.w X.K X.mg X.base x k ps sp) (hk : k ≤ k0) (hr : Room k0 X.A) (ha : PA X (e :: es) t)
    (hg : Gl X x := by rfl) (hdb : (x == ("__debug__" : Str)) = false := by decide) (he : starEach (e :: es) X.env = (false, eval e X.env) :: starEach es X.env := by rfl) (hpl : (backTo pos (starEach es X.env)).any (·.1) = false := by rfl) :
    PE X (.Call (.Name x p) (e :: es) [] pos) (tFn sp t) := by
  obtain ⟨f, fd, g, kp, b, G, _⟩ := D.ex
  have h := pe_call (pos := pos) (p := p) G (hr.mono hk) hg g kp b .nil pass0 ha hdb he hpl
  refine ⟨fun pins s σ H Q I q => h.run pins s σ H Q I ?_⟩
  show t σ H fun vs H1 => sp (vs ++ []) H1 Q E0
  have e0 : (fun vs H1 => sp (vs ++ []) H1 Q E0) = fun vs H1 => sp vs H1 Q E0 := by
    funext vs H1
    rw [List.append_nil]
  rw [e0]
  exact q
end
section
variable {mg : Str → Option Value} {base : Heap} {K : PySem.W.Frag} {P : Program} {w : World}
theorem Df.mk' {x : Str} {st : Stmt} {N ps : List Str} {k : Nat} {sp : Sp} (F : At K mg x st) (S : FnScope N ps (defScope st)) (len : ∀ vs H Q E, sp vs H Q E → vs.length = ps.length)
    (hb : ∀ (kV doc pm : Value) (an : Option Addr) (cdv ct : Value) (us : List Value), us.length = ps.length → bindArgs (PySem.W.fnOf x x (defArgs st) (defBody st) (defScope st) .none kV doc pm an cdv ct) ⟨us, []⟩ = pure (ps.zip us))
    (hbody : ∀ (f : Addr) (cdv : Value) (A : Around) (outer : List Env) (s : Shared) (H : Hp) (vs : List V) (Q : VK) (E : XK), Room k (A.deeper (envOfC x (defScope st) s.heap.objs.size f cdv)) → sp vs H Q E →
      ∃ t, PSs (cxOf CX0 P w K mg base N x (defScope st) f cdv A outer s H E).nox (defBody st) t ∧ t { nx := fun _ H' => Q .non H', rt := Q } (start N vs) H) : Df P w K mg base x (k + 1) ps sp := by
  obtain ⟨f, fd, g, F⟩ := F.ex
  refine ⟨f, fd, g, F.kp, F.binds hb, F.ok S len fun cdv A outer s H vs Q E hr h => hbody f cdv A outer s H vs Q E hr h, ?_⟩
  obtain ⟨oc, od, kV, doc, pm, an, cdv, ct, osl, e, lk, _⟩ := F.ex
  exact ⟨oc, od, osl, lk⟩
theorem Df.mono {x : Str} {ps : List Str} {j k : Nat} {sp : Sp} (D : Df P w K mg base x j ps sp) (h : j ≤ k) : Df P w K mg base x k ps sp := by
  obtain ⟨f, fd, g, kp, b, G, l⟩ := D.ex
  exact ⟨f, fd, g, kp, b, G.mono h, l⟩
theorem Df.imp {x : Str} {ps : List Str} {k : Nat} {sp sp' : Sp} (D : Df P w K mg base x k ps sp) (h : ∀ vs H Q E, sp' vs H Q E → sp vs H Q E) : Df P w K mg base x k ps sp' := by
  obtain ⟨f, fd, g, kp, b, G, l⟩ := D.ex
  exact ⟨f, fd, g, kp, b, G.imp h, l⟩
end

/-! ### two keywords, the last parameter first -/
structure DfK (P : Program) (w : World) (K : PySem.W.Frag) (mg : Str → Option Value) (base : Heap) (x : Str) (k : Nat) (p1 p2 : Str) (sp : Sp) : Prop where
  ex : ∃ (f : Addr) (fd : FuncData), mg x = some (.ref f) ∧ PySem.W.keepIn K (.ref f) = true ∧ KBinds K fd [p1, p2] [p2, p1] (fun us ws => us ++ us ++ us ++ ws.reverse) (fun us ws => us ++ us ++ us ++ ws.reverse) ∧ FnOk P w K mg base CX0 k f fd [p1, p2] sp
theorem Vals.rev : ∀ {zs : List V} {ws : List Value}, Vals zs ws → Vals zs.reverse ws.reverse := fun {zs ws} h => by
  induction h with
  | nil => exact .nil
  | cons a b ih =>
    (rw [List.reverse_cons, List.reverse_cons])
    exact ih.append (.cons a .nil)
theorem Df.kw {P : Program} {w : World} {K : PySem.W.Frag} {mg : Str → Option Value} {base : Heap} {x p1 p2 : Str} {st : Stmt} {k : Nat} {sp : Sp} (D : Df P w K mg base x k [p1, p2] sp) (F : At K mg x st)
    (hb : ∀ (kV doc pm : Value) (an : Option Addr) (cdv ct : Value) (u1 u2 : Value), bindArgs (PySem.W.fnOf x x (defArgs st) (defBody st) (defScope st) .none kV doc pm an cdv ct) ⟨[], [(p2, u2), (p1, u1)]⟩ = pure [(p1, u1), (p2, u2)]) : DfK P w K mg base x k p1 p2 sp := by
  obtain ⟨f, fd, g, kp, b, G, oc, od, osl, lk⟩ := D.ex
  obtain ⟨f', fd', g', F'⟩ := F.ex
  rw [g] at g'
  cases g'
  obtain ⟨oc', od', kV, doc, pm, an, cdv, ct, osl', e, lk', _⟩ := F'.ex
  rw [lk] at lk'
  cases lk'
  refine ⟨f, fd, g, kp, ⟨fun s us ws hk hl => ?_, fun r1 r2 => ((r1.append r1).append r1).append (Vals.rev r2)⟩, G⟩
  simp only [List.length_append, List.length_reverse, List.length_cons, List.length_nil] at hl
  have hu : us = [] := by
    cases us with
    | nil => rfl
    | cons a r =>
      simp only [List.length_cons] at hl
      omega
  subst hu
  match ws, hl with
  | [u2, u1], _ =>
    subst e
    exact .of_eq (hb kV doc pm an cdv ct u1 u2)
def tFnK (sp : Sp) (tk : TA) : TE := fun σ H Q => tk σ H fun zs H1 => sp zs.reverse H1 Q E0
theorem pe_fnK {X : Cx} {x p1 p2 : Str} {p pos : Pos} {kws : List Keyword} {tk : TA} {k k0 : Nat} {sp : Sp} (D : DfK X.prog X.w X.K X.mg X.base x k p1 p2 sp) (hk0 : k ≤ k0) (hr : Room k0 X.A) (hkw : PK X kws tk)
    (hg : Gl X x := by rfl) (hdb : (x == ("__debug__" : Str)) = false := by decide) (hall : (backToKw pos (keywordEach kws X.env)).all (·.1.isSome) = true := by rfl) (hks : (backToKw pos (keywordEach kws X.env)).filterMap (·.1) = [p2, p1] := by rfl)
    (plain : ((backTo pos (starEach [] X.env)).any (·.1) || (backToKw pos (keywordEach kws X.env)).any (·.1.isNone)) = false := by rfl) :
    PE X (.Call (.Name x p) [] kws pos) (tFnK sp tk) := by
  obtain ⟨f, fd, hm, hk, hb, F⟩ := D.ex
  (refine ⟨fun pins s σ H Q I h => ?_⟩)
  (refine wpAny_Call_Name_kw (ld_glob I hg hm ?_ hdb))
  refine PySem.W.callWith_KW0 (h₀ := X.base) I.ok.mod.kin hk hall (thn (hkw.run pos pins s σ H _ I h) fun ws s2 ⟨zs, H2, I2, rz, q2⟩ => ⟨I2.kIn, ?_⟩) plain
  rw [hks]
  exact run_fnk (us := []) (vs := []) F (hr.mono hk0) hb pass0 I2 .nil rz q2

/-! ### math.lcm -/
def rLcm : List V → Hp → VK → Prop := fun vs H Q => ∃ a b : Int, vs = [.int a, .int b] ∧ a.natAbs < 2 ^ 9000 ∧ b.natAbs < 2 ^ 9000 ∧ Q (.int ((Nat.lcm a.natAbs b.natAbs : Nat) : Int)) H
theorem lcm_log {a : Int} (h : a.natAbs < 2 ^ 9000) (c : Nat) (hc : c < 2 ^ 9000) : ¬ (max c a.natAbs).log2 / 30 + 1 > 450 := by
  have h1 : max c a.natAbs < 2 ^ 9000 := by omega
  have h2 := PySem.Flt.log2_lt_of (k := 9000) (by decide) h1
  omega
theorem cr_lcm {X : Cx} : CallR X (.builtin "math.lcm") rLcm := by
  (intro pins s σ H vs us Q I r h)
  obtain ⟨a, b, rfl, ha, hb, q⟩ := h
  (obtain ⟨t, u, rfl⟩ := Vals.int2 r)
  have hz : ((((Nat.lcm 1 a.natAbs).lcm b.natAbs : Nat) : Int)).natAbs.log2 < bitsLine := by
    rw [Nat.lcm_one_left]
    have h1 : a.natAbs.lcm b.natAbs ≤ a.natAbs * b.natAbs := by
      unfold Nat.lcm
      exact Nat.div_le_self _ _
    have h2 : a.natAbs * b.natAbs < 2 ^ 18000 := by
      rw [show (18000 : Nat) = 9000 + 9000 by rfl, Nat.pow_add]
      exact Nat.mul_lt_mul'' ha hb
    have h3 := PySem.Flt.log2_lt_of (k := 18000) (by decide) (Nat.lt_of_le_of_lt h1 h2)
    (have e : bitsLine = 134217728 := by decide)
    rw [Int.natAbs_natCast]
    omega
  have g := PySem.W.mg_run_lcm a t b u (lcm_log ha 1 (by exact Nat.one_lt_two_pow (by decide))) (lcm_log hb _ ha) hz
  have g2 := call_function_meets PySem.W.MGF.kind_lcm PySem.W.MGF.plain_lcm PySem.W.MGF.entry_lcm (PySem.W.MGF.args_lcm (.int a t) (.int b u)) g.meets (prog := X.prog) (w := X.w) (A := X.A) (E := X.xe) (s := s) (Q := EP X pins σ Q)
  refine g2 ⟨.int _, H, I.tok _, ⟨_, rfl⟩, ?_⟩
  rw [Nat.lcm_one_left]
  exact q
end V3
namespace V3
open PySem.Spec PySem L2 PyProof.Rows
theorem ifT {b : Bool} {A B : Prop} (h : b = true) (a : A) : if b = true then A else B := by
  rw [if_pos h]
  exact a
theorem ifF {b : Bool} {A B : Prop} (h : b = false) (a : B) : if b = true then A else B := by
  (rw [if_neg (by rw [h]; exact Bool.false_ne_true)])
  exact a
theorem if2 {b : Bool} {A B : Prop} (h1 : b = true → A) (h2 : b = false → B) : if b = true then A else B := by
  cases b with
  | true => exact iteT (h1 rfl)
  | false => exact iteF (h2 rfl)

/-! ### data -/
section
variable {K : PySem.W.Frag} {H : Hp}
theorem dpInt {v : V} {i : Int} (h : Dp K H v (.int i)) : v = .int i := by
  cases h
  rfl
theorem dpTup {v : V} {ds : List PyData} (h : Dp K H v (.tuple ds)) : ∃ p xs, v = .ref p ∧ SqT K H p xs ∧ DpAll K H xs ds := by
  cases h with
  | tup a b => exact ⟨_, _, rfl, a, b⟩
theorem dpLst {v : V} {ds : List PyData} (h : Dp K H v (.list ds)) : ∃ p xs, v = .ref p ∧ SqL K H p xs ∧ DpAll K H xs ds := by
  cases h with
  | lst a b => exact ⟨_, _, rfl, a, b⟩
theorem dpAll_len {vs : List V} {ds : List PyData} (h : DpAll K H vs ds) : vs.length = ds.length := by
  induction ds generalizing vs with
  | nil =>
    cases h
    rfl
  | cons d ds ih =>
    cases h with
    | cons a b => rw [List.length_cons, List.length_cons, ih b]
theorem dpAll_get {vs : List V} {ds : List PyData} {i : Nat} {d : PyData} (h : DpAll K H vs ds) (e : ds[i]? = some d) : ∃ v, vs[i]? = some v ∧ Dp K H v d := by
  induction ds generalizing vs i with
  | nil => simp at e
  | cons x ds ih =>
    cases h with
    | cons a b =>
      cases i with
      | zero =>
        have q : x = d := Option.some.inj e
        subst q
        exact ⟨_, rfl, a⟩
      | succ i =>
        have q := ih (i := i) b
        exact q e
theorem dpAll_getV {vs : List V} {ds : List PyData} {i : Nat} {v : V} (h : DpAll K H vs ds) (e : vs[i]? = some v) : ∃ d, ds[i]? = some d ∧ Dp K H v d := by
  induction ds generalizing vs i with
  | nil =>
    cases h
    simp at e
  | cons x ds ih =>
    cases h with
    | cons a b =>
      cases i with
      | zero =>
        have q := Option.some.inj e
        subst q
        exact ⟨_, rfl, a⟩
      | succ i =>
        have q := ih (i := i) b
        exact q e
theorem dpAll_app {vs ws : List V} {ds es : List PyData} (h : DpAll K H vs ds) (g : DpAll K H ws es) : DpAll K H (vs ++ ws) (ds ++ es) := by
  induction ds generalizing vs with
  | nil =>
    cases h
    exact g
  | cons x ds ih =>
    cases h with
    | cons a b => exact .cons a (ih b)
theorem dpAll_ints : ∀ (ns : List Int), DpAll K H (ns.map V.int) (ns.map PyData.int)
  | [] => .nil
  | n :: r => .cons (.int n) (dpAll_ints r)
theorem dpAll_intsV {vs : List V} {ns : List Int} (h : DpAll K H vs (ns.map PyData.int)) : vs = ns.map V.int := by
  induction ns generalizing vs with
  | nil =>
    cases h
    rfl
  | cons n r ih =>
    cases h with
    | cons a b =>
      rw [dpInt a, ih b]
      rfl
/-- a fraction, a row of them -/
def frD (q : Int × Int) : PyData := .tuple [.int q.1, .int q.2]
def rowD (qs : List (Int × Int)) : PyData := .tuple (qs.map frD)
theorem dpFr {v : V} {q : Int × Int} (h : Dp K H v (frD q)) : ∃ p, v = .ref p ∧ SqT K H p [.int q.1, .int q.2] := by
  obtain ⟨p, xs, rfl, hs, ha⟩ := dpTup h
  cases ha with
  | cons a b =>
    cases b with
    | cons c d =>
      cases d
      rw [dpInt a, dpInt c] at hs
      exact ⟨p, rfl, hs⟩
theorem mkFr {p : Addr} {a b : Int} (h : SqT K H p [.int a, .int b]) : Dp K H (.ref p) (frD (a, b)) := .tup h (.cons (.int a) (.cons (.int b) .nil))
theorem mkFrU {H' : Hp} {p : Addr} {q : Int × Int} (h : H' p = some (.tup [.int q.1, .int q.2])) : Dp K H' (.ref p) (frD q) := .tup (SqT.of h) (.cons (.int q.1) (.cons (.int q.2) .nil))
end

/-! ### enumerate of a tuple -/
set_option maxHeartbeats 4100000 in
theorem meets_enumerate_newB1 {v : Value} {o₀ : Obj} {H : Heap → Prop} (B : Begins v o₀ H) :
    Meets (Builtin.«enumerate.__new__» ⟨[.type "enumerate", v], []⟩) (fun _ R s => H s.heap ∧
      R (.ok (.ret (.ref (s.heap.push o₀).objs.size))) { s with heap := (s.heap.push o₀).push { cls := .type "enumerate", data := .fields #[.none, .bool false, .ref s.heap.objs.size, rawInt 0, .none, .none] } }) :=
  .of_wp fun prog w A R s h₀ => by
    obtain ⟨hp₀, g₀, d₀, tk₀, os₀⟩ := s; obtain ⟨h1₀, h₀⟩ := h₀
    have hsub₀ := sub_enumerate
    have q1₀ : ∀ {A' : Around} {E : Value → Shared → Prop} {Q : Value → Shared → Prop}, Q (.ref hp₀.objs.size) ⟨hp₀.push o₀, g₀, d₀, tk₀, os₀⟩ → wpAny (model prog w) A' (pyIter v) Q E ⟨hp₀, g₀, d₀, tk₀, os₀⟩ :=
      fun q₀ => B.iter prog w _ _ ⟨hp₀, g₀, d₀, tk₀, os₀⟩ _ h1₀ q₀
    wp_walk using q1₀
    refine wpAny_stack_any fun st₀ => wpAny_pure ?_
    split
    · rename_i c _ _ _ _ _
      (cases (c == Value.type "enumerate"))
      · wp_walk using q1₀
        exact ⟨_, rfl, h₀⟩
      · wp_walk using q1₀
        exact ⟨_, rfl, h₀⟩
    · wp_walk using q1₀
      exact ⟨_, rfl, h₀⟩
theorem call_enum_begins {prog : Program} {w : World} {A : Around} {E : Value → Shared → Prop} {s : Shared} {v : Value} {o₀ : Obj} {H : Heap → Prop} {Q : Value → Shared → Prop} (B : Begins v o₀ H) (h1₀ : H s.heap)
    (h₀ : ∀ h₀', IsEnum h₀' (s.heap.objs.size + 1) s.heap.objs.size 0 .none → h₀'.get? s.heap.objs.size = some o₀ → h₀'.objs.size = s.heap.objs.size + 2 →
      (∀ b₀ o₀, s.heap.get? b₀ = some o₀ → h₀'.get? b₀ = some o₀) → Q (.ref (s.heap.objs.size + 1)) { s with heap := h₀' }) :
    wpAny (model prog w) A (call (.type "enumerate") [v]) Q E s := by
  refine callType_new F.called_enumerate (by decide) (F.typeCall_enumerate_1 _) (F.newCall_enumerate_1 _) (fun thing => F.args_object_init_2 thing _) F.entry_enumerate_new
    (meets_enumerate_newB1 B) ⟨h1₀, ?_⟩
  have hz₀ : (s.heap.push o₀).objs.size = s.heap.objs.size + 1 := Heap.size_push ..
  show _ ∧ _
  rw [hz₀]
  have he₀ : IsEnum ((s.heap.push o₀).push { cls := .type "enumerate", data := .fields #[.none, .bool false, .ref s.heap.objs.size, rawInt 0, .none, .none] }) (s.heap.objs.size + 1) s.heap.objs.size 0 .none := by
    have := Heap.get?_push_size (s.heap.push o₀) (o := { cls := .type "enumerate", data := .fields #[.none, .bool false, .ref s.heap.objs.size, rawInt 0, .none, .none] }) rfl
    rw [hz₀] at this; exact this
  refine ⟨⟨_, he₀, rfl⟩, h₀ _ he₀ (Heap.get?_push_of_some _ (Heap.get?_push_size _ B.free)) (by rw [Heap.size_push, hz₀]) fun b₀ o₀ x => Heap.get?_push_of_some _ (Heap.get?_push_of_some _ x)⟩
/-- the tuple at a, each item in a new₀ pair -/
def IteT (K : PySem.W.Frag) (a : Addr) : It :=
  ⟨fun i H => ∃ (xs : List V) (x : V), SqT K H a xs ∧ xs[i]? = some x, fun i H v H' => ∃ T x, v = .ref T ∧ H T = none ∧ H' = upd H T (.tup [.int (i : Nat), x]) ∧ ∀ xs, SqT K H a xs → xs[i]? = some x, fun i H => ∃ xs : List V, SqT K H a xs ∧ xs.length ≤ i⟩
theorem turn_enumT {P : Program} {w : World} {K : PySem.W.Frag} {elts : List Expr} {kk : Nat} {tpos : Pos} (a e it : Addr) :
    Turn P w K (.Tuple elts kk tpos) (IteT K a) [e, it] e (fun i h₀ => (∃ old₀, IsEnum h₀ e it ((i : Nat) : Int) old₀) ∧ h₀.IsTupleIter it a i ∧ e ≠ it ∧ a ≠ it ∧ a ≠ e) where
  mem := by simp
  obj := fun i h₀ st₀ b₀ hb₀ => by
    obtain ⟨⟨old₀, he₀⟩, ⟨o₀, ho₀, hc₀, hd₀⟩, _⟩ := st₀
    have e₀' : b₀ = e ∨ b₀ = it := by simpa using hb₀
    rcases e₀' with z₀ | z₀
    · rw [z₀]; exact ⟨_, he₀, fun v q₀ => nomatch q₀⟩
    · rw [z₀]; exact ⟨o₀, ho₀, fun v q₀ => by rw [hd₀] at q₀; cases q₀⟩
  keep := fun i h₀ h₀' st₀ k => let ⟨⟨old₀, he₀⟩, hi₀, hne₀⟩ := st₀; ⟨⟨old₀, k e (by simp) _ he₀⟩, hi₀.at fun o₀ q₀ => k it (by simp) o₀ q₀, hne₀⟩
  item := by
    intro X hP hw hK hc₀ i pins₀ s σ₀ H E I hf₀ st₀ hg₀
    subst hP hw hK
    obtain ⟨⟨old₀, he₀⟩, hit₀, hne₀, hai₀, hae₀⟩ := st₀
    obtain ⟨xs, x, hq₀, hx₀⟩ := hg₀
    obtain ⟨its₀, rv₀, p₀, hz₀⟩ := I.tuple hq₀
    obtain ⟨u₀, hu₀, ru₀⟩ := rv₀.get hx₀
    have hel₀ : e < s.heap.objs.size := Heap.lt_size he₀
    have hil₀ : it < s.heap.objs.size := by obtain ⟨_, q₀, _⟩ := hit₀; exact Heap.lt_size q₀
    have hlen₀ : i < its₀.toArray.size := by
      have h1₀ : i < its₀.length := (List.getElem?_eq_some_iff.mp hu₀).1
      simpa using h1₀
    have ht₀ : s.heap.IsTuple a its₀.toArray := by
      obtain ⟨ob, h1₀, h2, n, h3⟩ := p₀
      exact ⟨ob, h1₀, h2, n, h3⟩
    have D : Draws X.prog X.w X.A.in1 it [it, a] its₀.toArray.size (fun i v => its₀.toArray[i]? = some v) (fun i h₀ => h₀.IsTupleIter it a i ∧ h₀.IsTuple a its₀.toArray) := Draws.tuple (by exact I.ok.hd hc₀) it a hai₀ its₀.toArray
    refine wpAny_pyNext_enum_itemD D he₀ ⟨hit₀, ht₀⟩ hlen₀ hne₀ (by simp; exact ⟨hne₀, fun z₀ => hae₀ z₀.symm⟩) fun x₀' h₀' tk₀ hPx₀ ho₀ hst₀' hT₀ hsz₀ hk₀ => ?_
    have ex₀ : x₀' = u₀ := by
      have q₀ : its₀.toArray[i]? = some u₀ := by simpa using hu₀
      have hPx' : its₀.toArray[i]? = some x₀' := hPx₀
      rw [q₀] at hPx'
      exact (Option.some.inj hPx').symm
    subst ex₀
    refine ⟨_, rfl, wpAny_letOwnedTupleGo_enum (s := { s with heap := h₀', toks := tk₀ + 1 }) ho₀ fun h₀' he₀' sb₀ => ?_⟩
    have hT2₀ : h₀'.get? s.heap.objs.size = some { cls := .type "tuple", data := .seq #[.int i tk₀, x₀'] } := (sb₀.2 _ (Nat.ne_of_gt hel₀)).trans hT₀
    have new₀ : ObjOk X.prog X.w (upd H s.heap.objs.size (.tup [.int (i : Nat), x])) h₀' s.heap.objs.size (.tup [.int (i : Nat), x]) :=
      ⟨by show 2 ≤ sizeLine; decide, [.int i tk₀, x₀'], .cons ⟨_, rfl⟩ (.cons ru₀ .nil), ⟨_, hT2₀, rfl, _, rfl⟩⟩
    have I1₀ : Inv X pins₀ σ₀ (upd H s.heap.objs.size (.tup [.int (i : Nat), x])) { s with heap := h₀', toks := tk₀ + 1 } :=
      I.turnedNew (ch := [e, it]) (fun b₀ ob hb₀ q₀ => (sb₀.2 b₀ (fun z₀ => hb₀ (by simp [z₀]))).trans (hk₀ b₀ ob (fun z₀ => hb₀ (by simp [z₀])) (fun z₀ => hb₀ (by simp [z₀])) q₀)) hf₀ (Nat.le_refl _) new₀
    refine ⟨.ref s.heap.objs.size, _, I1₀, rfl, ⟨_, x, rfl, I.hok.fresh (Nat.le_refl _), rfl, fun ys hy₀ => by rw [I.tuple_inj hy₀ hq₀]; exact hx₀⟩, ⟨⟨x₀', ?_⟩, hst₀'.1.at fun o₀ q₀ => (sb₀.2 it (Ne.symm hne₀)).trans q₀, hne₀, hai₀, hae₀⟩, fun b₀ hb₀ => ?_⟩
    · have e1₀ : ((i + 1 : Nat) : Int) = (i : Int) + 1 := by omega
      rw [e1₀]; exact he₀'
    · have hb₀' : b₀ < s.heap.objs.size := by
        have e₀' : b₀ = e ∨ b₀ = it := by simpa using hb₀
        rcases e₀' with z₀ | z₀
        · rw [z₀]; exact hel₀
        · rw [z₀]; exact hil₀
      rw [upd_ne (Nat.ne_of_lt hb₀')]
      exact (hf₀ b₀ hb₀).1
  done := by
    intro X hP hw hK hc₀ i pins₀ s σ₀ H E I hf₀ st₀ hg₀
    subst hP hw hK
    obtain ⟨⟨old₀, he₀⟩, hit₀, hne₀, hai₀, hae₀⟩ := st₀
    obtain ⟨xs, hq₀, hx₀⟩ := hg₀
    obtain ⟨its₀, rv₀, p₀, hz₀⟩ := I.tuple hq₀
    obtain ⟨f0₀, f1₀, f2₀, f3₀, f4₀, f5₀⟩ := hf₀ it (by simp)
    have hl₀ := rv₀.length
    have ht₀ : s.heap.IsTuple a its₀.toArray := by
      obtain ⟨ob, h1₀, h2, n, h3⟩ := p₀
      exact ⟨ob, h1₀, h2, n, h3⟩
    have hT₀ : s.TypeIs (.ref e) "enumerate" := ⟨_, he₀, rfl⟩
    unfold pyNext
    refine wpAny_bind (wpAny_attempt (wpAny_callSpecial?_slot (name := Str.ofString "__next__") hT₀ F.slot_enumerate_next
      (wpAny_call_entry F.slot_enumerate_next hT₀ F.entry_enumerate_next ?_ (F.args_enumerate_next_1 _))))
    (show wpAny _ _ (field (.ref e) 2 >>= _) _ _ _)
    refine wpAny_bind (wpAny_field he₀ rfl (x := .ref it) rfl ?_)
    refine wpAny_bind (wpAny_nextOf_tuple_end (by exact I.ok.hd hc₀) hit₀ ht₀ (by simp; omega) fun h₀' x he₀' hx₀' => ?_)
    obtain ⟨o₀, ho₀, hc'⟩ := hx₀'
    refine wpAny_bind (wpAny_isInstance (T := "StopIteration") (b := true) ⟨o₀, ho₀, hc'⟩ isSubtype_stop ?_)
    exact wpAny_pure ⟨rfl, I.turned (t' := s.toks) (fun b₀ o₀ hb₀ q₀ => he₀' b₀ o₀ hb₀ q₀) f0₀ f1₀ f3₀ f4₀ f5₀⟩
  self := fun A i s Q E st₀ h₀ => let ⟨⟨_, he₀⟩, _⟩ := st₀; wpAny_pyIter_enum he₀ h₀
def iEnumT (K : PySem.W.Frag) (ta : TA) : TI := fun σ₀ H R => ta σ₀ H fun vs H1 => ∃ a xs, vs = [.ref a] ∧ SqT K H1 a xs ∧ R (IteT K a) H1
theorem pi_enumT {X : Cx} {e : Expr} {ta : TA} {p₀ pos tpos : Pos} {elts : List Expr} {kk : Nat} (hg₀ : Gl X "enumerate") (hm : X.mg "enumerate" = none) (ha : PA X [e] ta) (hs : starEach [e] X.env = [(false, eval e X.env)] := by rfl) :
    PI X (.Tuple elts kk tpos) (.Call (.Name "enumerate" p₀) [e] [] pos) (iEnumT X.K ta) := by
  refine ⟨fun pins₀ s σ₀ H R I h₀ => ?_⟩
  refine Call_ (ld_blt I hg₀ hm boot_enumerate (PyProof.Rows.callWith_type1 (thn (ha.run pos pins₀ s σ₀ H _ I h₀) fun us₀ s1 ⟨vs, H1, I1₀, r1, q1₀⟩ => ?_) hs rfl))
  obtain ⟨a, xs, ex₀, hq₀, q₀⟩ := q1₀
  subst ex₀
  cases r1 with
  | cons r₀ rr₀ =>
    cases rr₀
    cases r₀
    obtain ⟨its₀, rv₀, p₀', hz₀⟩ := I1₀.tuple hq₀
    have ht₀ : s1.heap.IsTuple a its₀.toArray := by
      obtain ⟨ob, h1₀, h2, n, h3⟩ := p₀'
      exact ⟨ob, h1₀, h2, n, h3⟩
    have hal₀ : a < s1.heap.objs.size := by obtain ⟨_, q₀, _⟩ := ht₀; exact Heap.lt_size q₀
    refine call_enum_begins (begins_tuple a its₀.toArray) ht₀ fun h₀' he₀ hit₀ hsz₀ hk₀ => wpAny_pyIter_enum he₀ ?_
    have I2₀ : Inv X pins₀ σ₀ H1 { s1 with heap := h₀' } := I1₀.kept (t' := s1.toks) hk₀
    refine ⟨s1.heap.objs.size + 1, [s1.heap.objs.size + 1, s1.heap.objs.size], _, _, H1, rfl, I2₀, turn_enumT a (s1.heap.objs.size + 1) s1.heap.objs.size, ⟨⟨.none, he₀⟩, ⟨_, hit₀, rfl, rfl⟩, Nat.succ_ne_self _, Nat.ne_of_lt hal₀, Nat.ne_of_lt (Nat.lt_succ_of_lt hal₀)⟩, fun b₀ hb₀ => ?_, q₀⟩
    have e₀' : b₀ = s1.heap.objs.size + 1 ∨ b₀ = s1.heap.objs.size := by simpa using hb₀
    have hle₀ : s1.heap.objs.size ≤ b₀ := by
      rcases e₀' with z₀ | z₀
      · rw [z₀]; exact Nat.le_add_right _ _
      · rw [z₀]; exact Nat.le_refl _
    exact I1₀.fpOk hle₀ (I1₀.hok.fresh hle₀)
/-- the loop over enumerate(t) -/
theorem for_enumT {K : PySem.W.Frag} {a : Addr} {xs : List V} {g : TG} {tb : TS} {D : Ends} {σ : L2.St} {H : Hp} (Pv : Nat → L2.St → Hp → Prop) (h0 : Pv 0 σ H) (hl : ∀ i σ H, i ≤ xs.length → Pv i σ H → SqT K H a xs)
    (hs : ∀ (i : Nat) (x : V) (T : Addr) (σ : L2.St) (H : Hp), xs[i]? = some x → Pv i σ H → H T = none → g (.ref T) σ (upd H T (.tup [.int (i : Nat), x])) fun σ2 H2 => tb { D with nx := Pv (i + 1), bk := D.nx, ct := Pv (i + 1) } σ2 H2)
    (hd : ∀ σ H, Pv xs.length σ H → D.nx σ H) :
    ∃ W : Nat → Nat → L2.St → Hp → Prop, (∃ m, W 0 m σ H) ∧ ∀ i m σ H, W i m σ H → ((IteT K a).stop i H ∧ D.nx σ H) ∨ ((IteT K a).go i H ∧ ∃ Nx : L2.St → Hp → Prop, (∀ σ' H', Nx σ' H' → ∃ m', m' < m ∧ W (i + 1) m' σ' H') ∧ ∀ x H', (IteT K a).yld i H x H' → g x σ H' fun σ2 H2 => tb { D with nx := Nx, bk := D.nx, ct := Nx } σ2 H2) := by
  refine ⟨fun i m σ H => i + m = xs.length ∧ Pv i σ H, ⟨xs.length, by omega, h0⟩, ?_⟩
  rintro i m σ H ⟨em, hp⟩
  have hsq := hl i σ H (by omega) hp
  by_cases hi : i < xs.length
  · refine .inr ⟨⟨xs, xs[i], hsq, List.getElem?_eq_getElem hi⟩, Pv (i + 1), fun σ' H' q => ⟨m - 1, by omega, by omega, q⟩, ?_⟩
    rintro x H' ⟨T, y, rfl, hn, rfl, hy⟩
    exact hs i y T σ H (hy xs hsq) hp hn
  · (have e : i = xs.length := by omega)
    subst e
    exact .inl ⟨⟨xs, hsq, Nat.le_refl _⟩, hd σ H hp⟩
end V3
namespace V3
open PySem.Spec PySem L2 PyProof.Rows
theorem yesIf {σ : L2.St} {H : Hp} {A B : Hp → Prop} (h : A H) : tYes σ H (fun b H3 => if b = true then A H3 else B H3) := by
  show if true = true then A H else B H
  rw [if_pos rfl]
  exact h
end V3
set_option maxHeartbeats 4100000
/-! max, min of (x for x in range(..) if a[x] op b[y]). -/
namespace V3
open PySem.Spec PySem L2 PyProof.Rows GxR

/-- what is wanted of the tests of a generator expression over a range from lo₀ on: of place i they say pz₀ i, and change nothing -/
def TestR (X : Cx) (P : Addr) (scope : Scope) (x : Str) (ifs : List Expr) (tz : L2.St → Hp → Int → Nat → (Nat → Bool) → Prop) : Prop :=
  ∀ (pins₀ : List (Addr × Obj)) (s : Shared) (σ₀ : L2.St) (H : Hp) (lo₀ : Int) (n : Nat) (pz₀ : Nat → Bool), Inv X pins₀ σ₀ H s → tz σ₀ H lo₀ n pz₀ →
    (∃ ps₀ : Array Value, s.heap.get? P = some { cls := .none, data := .fields ps₀ }) →
    ∀ (cenv₀ : Env) (A' : Around) (E' : Value → Shared → Prop) (i : Nat) (t₀ : Tok) (s₂₀ : Shared) (m₂₀ : Str → Option Value), i < n → cenv₀.scope = scope → cenv₀.cells = cloFrom X.env.cells scope.names [] → s₂₀.heap.Ns cenv₀.locals m₂₀ →
      m₂₀ x = some (.int (lo₀ + (i : Nat) * 1) t₀) → (∀ b o, b ≠ P → s.heap.get? b = some o → s₂₀.heap.get? b = some o) →
      wpAny (model X.prog X.w) A' (forIn ifs true fun c r => if r = true then do let ok ← isTrue c cenv₀ (eval c cenv₀); pure (ForInStep.yield ok) else pure (ForInStep.yield r)) (fun ok s₃ => ok = pz₀ i ∧ Keeps s₂₀ s₃) E' s₂₀
/-- the generator g₀, ready to be walked in the state s5₀; H1₀: what was held before -/
def ReadyR (X : Cx) (pins₀ : List (Addr × Obj)) (σ₀ : L2.St) (H1₀ : Hp) (P : Addr) (lo₀ : Int) (n : Nat) (pz₀ : Nat → Bool) (g₀ : Addr) (s5₀ : Shared) : Prop :=
  ∃ (fp₀ wr₀ : List Addr) (G : Array GenState → Array GenState → Prop) (F : Nat → Value → Prop) (St₀ : Nat → Shared → Prop),
    WalksS X.prog X.w X.A.in1 g₀ fp₀ wr₀ G (passing pz₀ n 0).length F St₀ ∧ St₀ 0 s5₀ ∧ (∀ b ∈ fp₀, b < s5₀.heap.objs.size) ∧ (∀ j v₀, F j v₀ → ∃ i, (passing pz₀ n 0)[j]? = some i ∧ ∃ t₀, v₀ = .int (lo₀ + (i : Nat) * 1) t₀) ∧
    ∀ s', Moved wr₀ G s5₀ s' → ∃ H2₀, Tabbed P H1₀ H2₀ ∧ Inv X pins₀ σ₀ H2₀ s'
section
variable {X : Cx} {pins₀ : List (Addr × Obj)} {σ₀ : L2.St} {H : Hp} {s : Shared}
theorem range_small {a b : Int} (h1 : -(2 ^ 62) ≤ a) (h2 : a < 2 ^ 62) (h3₀ : -(2 ^ 62) ≤ b) (h4 : b < 2 ^ 62) : Builtin.Range.small a b 1 = true := by
  unfold Builtin.Range.small Builtin.Range.rangeFitsLong
  rw [rangeSize_nat]
  simp only [Bool.and_eq_true, Bool.or_eq_true, decide_eq_true_eq, beq_iff_eq]
  refine ⟨⟨⟨⟨?_, ?_⟩, ?_⟩, ?_⟩, ?_⟩
  · omega
  · omega
  · omega
  · omega
  · right
    rw [if_pos (by decide)]
    (simp only [Bool.and_eq_true, decide_eq_true_eq])
    omega
theorem gen_range {c P : Addr} {iter : Expr} {x : Str} {px pe gpos : Pos} {ifs : List Expr} {scope : Scope} {te : L2.St → Hp → (Int → Int → Hp → Prop) → Prop} {tz : L2.St → Hp → Int → Nat → (Nat → Bool) → Prop} {k : Nat} {Q' : Value → Shared → Prop} {R : Int → Nat → (Nat → Bool) → Hp → Prop}
    (hr₀ : Room k X.A) (TB₀ : TabB X.base X.mg c P) (hcode₀ : X.env.code = .ref c) (S : GenS X.env scope x) (hi₀ : PRg X iter te) (ht₀ : TestR X P scope x ifs tz) (hd₀ : (x == ("__debug__" : Str)) = false)
    (hs₀ : ∀ v₀, genFold iter X.env v₀ = pure v₀) (I₀ : Inv X pins₀ σ₀ H s)
    (h : te σ₀ H fun a b H1₀ => -(2 ^ 62) ≤ a ∧ a < 2 ^ 62 ∧ -(2 ^ 62) ≤ b ∧ b < 2 ^ 62 ∧ TabG H1₀ P ∧ ∃ pz₀, tz σ₀ H1₀ a (b - a).toNat pz₀ ∧ R a (b - a).toNat pz₀ H1₀)
    (hQ₀ : ∀ lo₀ n pz₀ H1₀ g₀ s5₀, R lo₀ n pz₀ H1₀ → ReadyR X pins₀ σ₀ H1₀ P lo₀ n pz₀ g₀ s5₀ → Q' (.ref g₀) s5₀) :
    wpAny (model X.prog X.w) X.A (eval (.GeneratorExp (.Name x pe) [⟨.Name x px, iter, ifs, 0⟩] scope gpos) X.env) Q' X.xe s := by
  refine wpAny_GeneratorExp_walksQ hr₀.hd S.co (closure_ok S.free) S.cell S.dot S.loc S.kind (by have := hr₀.dp; omega) ?_ hs₀
  refine thn (hi₀ pins₀ s σ₀ H _ I₀ h) fun xv₀ s1₀ ⟨r, a, b, t₀, u₀, v₀, H1₀, ex₀, hrng₀, I1₀, q1₀⟩ => ?_
  subst ex₀
  obtain ⟨b1₀, b2₀, b3₀, b4₀, ⟨ps₀, hP₀, htr₀⟩, pz₀, hz₀, q1₀⟩ := q1₀
  refine wpAny_pyIter_range hrng₀ (range_small b1₀ b2₀ b3₀ b4₀) ?_
  generalize ho₀ : ({ cls := .type "range_iterator", data := .fields #[rawInt a, rawInt (Builtin.Range.rangeSize a b 1), rawInt 1] } : Obj) = o
  have hfo₀ : o.isFreed = false := by rw [← ho₀]; rfl
  have hPs₀ : s1₀.heap.get? P = some { cls := .none, data := .fields ps₀ } := I1₀.hok P _ hP₀
  have hPlt₀ : P < s1₀.heap.objs.size := Heap.lt_size hPs₀
  have hP2₀ : (s1₀.heap.push o).get? P = some { cls := .none, data := .fields ps₀ } := Heap.get?_push_of_some _ hPs₀
  have cd₀ : PySem.W.CodeHd (s1₀.heap.push o) c P := TB₀.code.keeps fun b u₀ e => Heap.get?_push_of_some _ (I1₀.bk b u₀ e)
  have lim2₀ : (s1₀.heap.push o).NoLimit := I1₀.nolimit.push o
  have hst₀ : IsRangeIter (s1₀.heap.push o) s1₀.heap.objs.size (a + ((0 : Nat) : Int) * 1) (((b - a).toNat : Int) - ((0 : Nat) : Int)) 1 := by
    show (s1₀.heap.push o).get? s1₀.heap.objs.size = _
    rw [← ho₀, rangeSize_nat]
    simpa using Heap.get?_push_size s1₀.heap (o := { cls := .type "range_iterator", data := .fields #[rawInt a, rawInt ((b - a).toNat : Int), rawInt 1] }) rfl
  have cont₀ : ∀ (code : Value) (h3₀ : Heap) (tk₀ : Nat) (ps₀' : Array Value), Heap.ExtBut P (s1₀.heap.push o) h3₀ → (s1₀.heap.push o).objs.size ≤ h3₀.objs.size → h3₀.get? P = some { cls := .none, data := .fields ps₀' } → (∃ more₀, ps₀' = ps₀ ++ more₀) → TriplesOk ps₀'.toList →
      wpAny (model X.prog X.w) X.A (builtinsFor X.env.globals X.env.builtins) (fun bi sB =>
        ∃ Ia fp₀ wr₀ n₀ Pf St₀ pz₀ F, Value.ref s1₀.heap.objs.size = .ref Ia ∧ (∀ A' : Around, A'.handled = none → Walks X.prog X.w A' Ia fp₀ wr₀ n₀ Pf St₀) ∧ St₀ 0 sB.heap ∧ (∀ b ∈ fp₀, b < sB.heap.objs.size) ∧ sB.heap.NoLimit ∧ cStatics ∉ wr₀ ∧
          (∀ href₀ : Heap, (∀ b o, sB.heap.get? b = some o → href₀.get? b = some o) →
            QuietGen X.prog X.w (genEnv scope (cloFrom X.env.cells scope.names []) sB.heap.objs.size code bi X.env) x ifs (.Name x pe) (List.range sB.heap.objs.size) wr₀ Pf pz₀ F href₀) ∧
          (∀ a h₅ tk₀ gs, gs.bare = true → sB.heap.objs.size < a → h₅.objs.size = a + 1 → (∀ b o, sB.heap.get? b = some o → h₅.get? b = some o) →
            WalksS X.prog X.w X.A.in4 a (a :: sB.heap.objs.size :: List.range sB.heap.objs.size) (sB.heap.objs.size :: wr₀) (GenOnlyQ sB.gens.size) (passing pz₀ n₀ 0).length
              (fun j y => ∃ i, (passing pz₀ n₀ 0)[j]? = some i ∧ F i y) (GenAt X.prog X.w X.A.in4 a sB.gens.size sB.heap.objs.size (List.range sB.heap.objs.size) wr₀ pz₀ n₀ F) →
            GenAt X.prog X.w X.A.in4 a sB.gens.size sB.heap.objs.size (List.range sB.heap.objs.size) wr₀ pz₀ n₀ F 0 { sB with gens := sB.gens.push gs, toks := tk₀, heap := h₅ } →
            Q' (.ref a) { sB with gens := sB.gens.push gs, toks := tk₀, heap := h₅ })) X.xe { s1₀ with heap := h3₀, toks := tk₀ } := by
    intro code h3₀ tk₀ ps₀' hx₀ hsz₀ hP3₀ hmore₀ ht3₀
    obtain ⟨bm₀, ob₀, e1₀, e2₀, e3₀, e4₀, e5₀, e6₀, e7₀, e8₀⟩ := TB₀.bm
    have hcP₀ : cStatics ≠ P := fun e => by
      obtain ⟨_, hns, _⟩ := I1₀.nolimit
      obtain ⟨o', es₀, ep₀, ho₀, hd₀, _⟩ := hns
      rw [e, hPs₀] at ho₀
      cases ho₀
      cases hd₀
    have hcl₀ : cStatics < s1₀.heap.objs.size := let ⟨_, hns, _⟩ := I1₀.nolimit; hns.lt
    have sz2₀ : (s1₀.heap.push o).objs.size = s1₀.heap.objs.size + 1 := Heap.size_push ..
    have keep3₀ : ∀ b u₀, b ≠ P → s1₀.heap.get? b = some u₀ → h3₀.get? b = some u₀ := fun b u₀ hb₀ e => hx₀ b u₀ hb₀ (Heap.get?_push_of_some _ e)
    refine wpAny_builtinsFor (m := X.mg) (by rw [I1₀.ok.glob]; exact ((I1₀.mod.glob.keeps I1₀.bk).push o).extBut hx₀ TB₀.gP) e1₀ e2₀ (keep3₀ _ _ e4₀ (I1₀.bk _ _ e5₀)) e6₀ e7₀ e8₀ ?_
    refine ⟨s1₀.heap.objs.size, [s1₀.heap.objs.size], [s1₀.heap.objs.size], (b - a).toNat, fun i v₀ => i < (b - a).toNat ∧ ∃ t₀, v₀ = .int (a + (i : Nat) * 1) t₀, _, pz₀, (fun i y => ∃ t₀, y = .int (a + (i : Nat) * 1) t₀), rfl, (fun A' hA => (Walks.range hA s1₀.heap.objs.size a 1 (b - a).toNat).bound), ?_, ?_, lim2₀.extBut hx₀ hcP₀, ?_, ?_, ?_⟩
    · exact hx₀ _ _ (Nat.ne_of_gt hPlt₀) hst₀
    · intro b hb₀
      rcases List.mem_cons.mp hb₀ with z | z
      · rw [z]
        show s1₀.heap.objs.size < h3₀.objs.size
        omega
      · cases z
    · intro z
      (rcases List.mem_cons.mp z with z | z)
      · exact Nat.ne_of_lt hcl₀ z
      · cases z
    · intro href₀ hhref₀
      have kp₀ : ∀ (s₂₀ : Shared), (∀ b ∈ List.range h3₀.objs.size, b ∉ [s1₀.heap.objs.size] → ∀ o, href₀.get? b = some o → s₂₀.heap.get? b = some o) → ∀ b o, b ≠ P → s1₀.heap.get? b = some o → s₂₀.heap.get? b = some o := fun s₂₀ hk₀ b o hb₀ e => by
        have e3₀ := keep3₀ b o hb₀ e
        refine hk₀ b (List.mem_range.mpr (Heap.lt_size e3₀)) (fun z => ?_) o (hhref₀ b o e3₀)
        (rcases List.mem_cons.mp z with z | z)
        · have := Heap.lt_size e
          rw [z] at this
          exact Nat.lt_irrefl _ this
        · cases z
      refine ⟨fun A' E' i v₀ s₂₀ m₂₀ hA hPv₀ hn₀ hm₀ hk₀ => ?_, fun A' E' i v₀ s₂₀ m₂₀ hA hPv₀ hp₀ hn₀ hm₀ hk₀ => ?_⟩
      · obtain ⟨hi', t', rfl⟩ := hPv₀
        exact ht₀ pins₀ s1₀ σ₀ H1₀ a (b - a).toNat pz₀ I1₀ hz₀ ⟨ps₀, hPs₀⟩ _ A' E' i t' s₂₀ m₂₀ hi' rfl rfl hn₀ hm₀ (kp₀ s₂₀ hk₀)
      · obtain ⟨hi', t', rfl⟩ := hPv₀
        refine wpAny_Name (wpAny_loadName_local (by exact S.kind) (by exact S.loc) hn₀ hm₀ ?_) hd₀
        exact ⟨⟨t', rfl⟩, keeps_refl _⟩
    · intro g₀ h5₀ tk5₀ gs hgb₀ hag₀ hsz5₀ hk5₀ W5₀ hat₀
      refine hQ₀ a (b - a).toNat pz₀ H1₀ g₀ _ q1₀ ⟨_, _, _, _, _, W5₀.in4_1, hat₀, ?_, ?_, fun s' hm₀ => ?_⟩
      · intro b hb₀
        show b < h5₀.objs.size
        rw [hsz5₀]
        have hag₀' : h3₀.objs.size < g₀ := hag₀
        rcases List.mem_cons.mp hb₀ with z | z
        · rw [z]
          exact Nat.lt_succ_self g₀
        · (rcases List.mem_cons.mp z with z | z)
          · rw [z]
            exact Nat.lt_succ_of_lt hag₀'
          · exact Nat.lt_succ_of_lt (Nat.lt_trans (List.mem_range.mp z) hag₀')
      · intro j y hy
        exact hy
      · obtain ⟨more₀, em₀⟩ := hmore₀
        have nwr₀ : ∀ b u₀, s1₀.heap.get? b = some u₀ → b ∉ h3₀.objs.size :: [s1₀.heap.objs.size] := fun b u₀ e hb₀ => by
          have hl₀ := Heap.lt_size e
          rcases List.mem_cons.mp hb₀ with z | z
          · rw [z] at hl₀
            have h9 : (h3₀.objs.size : Nat) < s1₀.heap.objs.size := hl₀
            omega
          · (rcases List.mem_cons.mp z with z | z)
            · rw [z] at hl₀
              exact Nat.lt_irrefl _ hl₀
            · cases z
        have J₀ := inv_tab (more := more₀) (h' := s'.heap) (g' := s'.gens) (d' := s'.drawn) (t' := s'.toks) I1₀ hP₀ (fun b u₀ hb₀ e => hm₀.heap b u₀ (nwr₀ b u₀ e) (hk5₀ b u₀ (keep3₀ b u₀ hb₀ e)))
          (by rw [← em₀]; exact hm₀.heap P _ (nwr₀ P _ hPs₀) (hk5₀ P _ hP3₀)) (AllBare.movedS (I1₀.bare.push hgb₀) hm₀)
        rw [sh_eta s1₀ s' hm₀.os] at J₀
        refine ⟨upd H1₀ P (.tbl (ps₀ ++ more₀)), ⟨⟨ps₀ ++ more₀, upd_same, by rw [← em₀]; exact ht3₀⟩, fun b hb₀ => upd_ne hb₀⟩, J₀⟩
  refine ⟨lim2₀, ?_⟩
  cases hf₀ : codeAmong gpos ps₀.toList with
  | none =>
    refine wpAny_genexprCodeX hcode₀ (cd₀.code hP2₀ htr₀) (cd₀.tab hP2₀) hf₀ fun c₀' h₀' tk₀ hx₀ hge₀ hlt₀ hco₀' _ htab₀' _ => ?_
    obtain ⟨o1, vs, f1, tf, fl, tg, inF, tx, tt, op, _, _, _, _, _, _, _, _, _, htr', _⟩ := hco₀'
    exact cont₀ _ h₀' tk₀ _ hx₀ (Nat.le_trans hge₀ (Nat.le_of_lt hlt₀)) htab₀'.2 ⟨_, rfl⟩ htr'
  | some cv =>
    refine wpAny_genexprCode_hit hcode₀ (cd₀.code hP2₀ htr₀) hf₀ ?_
    exact cont₀ cv (s1₀.heap.push o) s1₀.toks ps₀ (Heap.ExtBut.refl _ _) (Nat.le_refl _) hP2₀ ⟨#[], by simp⟩ htr₀

theorem mem_passing {pz₀ : Nat → Bool} {n i : Nat} : i ∈ passing pz₀ n 0 ↔ i < n ∧ pz₀ i = true := by
  unfold passing
  rw [List.drop_zero, List.mem_filter, List.mem_range]

/-- max(x for x in range(..) if ..) -/
def tMaxR (P : Addr) (te : L2.St → Hp → (Int → Int → Hp → Prop) → Prop) (tz : L2.St → Hp → Int → Nat → (Nat → Bool) → Prop) : TE := fun σ₀ H Q =>
  te σ₀ H fun a b H1₀ => -(2 ^ 62) ≤ a ∧ a < 2 ^ 62 ∧ -(2 ^ 62) ≤ b ∧ b < 2 ^ 62 ∧ TabG H1₀ P ∧ ∃ pz₀, tz σ₀ H1₀ a (b - a).toNat pz₀ ∧ (∃ i, i < (b - a).toNat ∧ pz₀ i = true) ∧
    ∀ i H2₀, Tabbed P H1₀ H2₀ → i < (b - a).toNat → pz₀ i = true → (∀ j, j < (b - a).toNat → pz₀ j = true → j ≤ i) → Q (.int (a + i)) H2₀
def tMinR (P : Addr) (te : L2.St → Hp → (Int → Int → Hp → Prop) → Prop) (tz : L2.St → Hp → Int → Nat → (Nat → Bool) → Prop) : TE := fun σ₀ H Q =>
  te σ₀ H fun a b H1₀ => -(2 ^ 62) ≤ a ∧ a < 2 ^ 62 ∧ -(2 ^ 62) ≤ b ∧ b < 2 ^ 62 ∧ TabG H1₀ P ∧ ∃ pz₀, tz σ₀ H1₀ a (b - a).toNat pz₀ ∧ (∃ i, i < (b - a).toNat ∧ pz₀ i = true) ∧
    ∀ i H2₀, Tabbed P H1₀ H2₀ → i < (b - a).toNat → pz₀ i = true → (∀ j, j < (b - a).toNat → pz₀ j = true → i ≤ j) → Q (.int (a + i)) H2₀
theorem pe_maxR {c P : Addr} {iter : Expr} {x : Str} {px pe p pos gpos : Pos} {ifs : List Expr} {scope : Scope} {te : L2.St → Hp → (Int → Int → Hp → Prop) → Prop} {tz : L2.St → Hp → Int → Nat → (Nat → Bool) → Prop} {k : Nat}
    (hr₀ : Room k X.A) (hg : Gl X "max") (hm₀ : X.mg "max" = none) (TB₀ : TabB X.base X.mg c P) (hcode₀ : X.env.code = .ref c) (S : GenS X.env scope x) (hi₀ : PRg X iter te) (ht₀ : TestR X P scope x ifs tz) (hd₀ : (x == ("__debug__" : Str)) = false)
    (hs₀ : ∀ v₀, genFold iter X.env v₀ = pure v₀)
    (he₀ : starEach [.GeneratorExp (.Name x pe) [⟨.Name x px, iter, ifs, 0⟩] scope gpos] X.env = (false, eval (.GeneratorExp (.Name x pe) [⟨.Name x px, iter, ifs, 0⟩] scope gpos) X.env) :: starEach [] X.env := by rfl) :
    PE X (.Call (.Name "max" p) [.GeneratorExp (.Name x pe) [⟨.Name x px, iter, ifs, 0⟩] scope gpos] [] pos) (tMaxR P te tz) := by
  refine ⟨fun pins₀ s σ₀ H Q I₀ h => ?_⟩
  refine wpAny_Call_Name_kw (ld_blt (u := .builtin "max") I₀ hg hm₀ (by decide +kernel) ?_)
  refine PyProof.Rows.callWith_builtin1 (id := "max") ?_ he₀ (by rfl)
  rw [he₀]
  show wpAny _ _ (spliced ((false, eval (.GeneratorExp (.Name x pe) [⟨.Name x px, iter, ifs, 0⟩] scope gpos) X.env) :: backTo pos (starEach [] X.env))) _ _ s
  refine Calls.spliced_cons (gen_range (R := fun lo₀ n pz₀ H1₀ => (∃ i, i < n ∧ pz₀ i = true) ∧ ∀ i H2₀, Tabbed P H1₀ H2₀ → i < n → pz₀ i = true → (∀ j, j < n → pz₀ j = true → j ≤ i) → Q (.int (lo₀ + i)) H2₀) hr₀ TB₀ hcode₀ S hi₀ ht₀ hd₀ hs₀ I₀ h fun lo₀ n pz₀ H1₀ g₀ s5₀ hR₀ hG₀ => ?_)
  obtain ⟨⟨i0₀, hi0₀, hp0₀⟩, hq₀⟩ := hR₀
  obtain ⟨fp₀, wr₀, G, F, St₀, W, hst₀, hfp₀, hval₀, hI₀⟩ := hG₀
  refine Calls.spliced_nil ?_
  have hne₀ : 0 < (passing pz₀ n 0).length := List.length_pos_of_mem (mem_passing.mpr ⟨hi0₀, hp0₀⟩)
  obtain ⟨val₀, hvd₀⟩ : ∃ val₀ : Nat → Int, ∀ j, val₀ j = lo₀ + (((passing pz₀ n 0).getD j 0 : Nat) : Int) := ⟨_, fun _ => rfl⟩
  have hv₀ : ∀ j v₀, F j v₀ → ∃ t₀, v₀ = .int (val₀ j) t₀ := fun j v₀ hF₀ => by
    obtain ⟨i, h1, t₀, rfl⟩ := hval₀ j v₀ hF₀
    refine ⟨t₀, ?_⟩
    rw [hvd₀]
    simp [List.getD_eq_getElem?_getD, h1]
  refine call_max_walkS (W.self 0 _ _ _ hst₀ ⟨g₀, fp₀, wr₀, G, _, F, St₀, _, rfl, W, hst₀, hfp₀, hne₀, CmpOf.ints_gt _ hv₀, fun v₀ s' hF₀ hmv₀ => ?_⟩)
  obtain ⟨H2₀, hT₀, J₀⟩ := hI₀ s' hmv₀
  have hb₀ := argBest_gt val₀ ((passing pz₀ n 0).length - 1)
  obtain ⟨t₀, rfl⟩ := hv₀ _ v₀ hF₀
  have hlt₀ : argBest (fun i j => decide (val₀ i > val₀ j)) ((passing pz₀ n 0).length - 1) < (passing pz₀ n 0).length := by omega
  refine ⟨.int _, H2₀, J₀, ⟨_, rfl⟩, ?_⟩
  generalize argBest (fun i j => decide (val₀ i > val₀ j)) ((passing pz₀ n 0).length - 1) = jm₀ at hb₀ hlt₀
  have hm1₀ : (passing pz₀ n 0).getD jm₀ 0 = (passing pz₀ n 0)[jm₀] := by simp [List.getD_eq_getElem?_getD, hlt₀]
  have hmem₀ : (passing pz₀ n 0)[jm₀] ∈ passing pz₀ n 0 := List.getElem_mem hlt₀
  obtain ⟨k1₀, k2₀⟩ := mem_passing.mp hmem₀
  show Q (.int (val₀ jm₀)) H2₀
  rw [hvd₀, hm1₀]
  refine hq₀ _ H2₀ hT₀ k1₀ k2₀ fun j hj hpj => ?_
  obtain ⟨jj₀, hjj₀, ej₀⟩ := List.getElem_of_mem (mem_passing.mpr ⟨hj, hpj⟩)
  have := hb₀.2 jj₀ (by omega)
  have e2₀ : (passing pz₀ n 0).getD jj₀ 0 = j := by simp [List.getD_eq_getElem?_getD, hjj₀, ej₀]
  simp only [hvd₀, hm1₀, e2₀] at this
  omega
theorem pe_minR {c P : Addr} {iter : Expr} {x : Str} {px pe p pos gpos : Pos} {ifs : List Expr} {scope : Scope} {te : L2.St → Hp → (Int → Int → Hp → Prop) → Prop} {tz : L2.St → Hp → Int → Nat → (Nat → Bool) → Prop} {k : Nat}
    (hr₀ : Room k X.A) (hg : Gl X "min") (hm₀ : X.mg "min" = none) (TB₀ : TabB X.base X.mg c P) (hcode₀ : X.env.code = .ref c) (S : GenS X.env scope x) (hi₀ : PRg X iter te) (ht₀ : TestR X P scope x ifs tz) (hd₀ : (x == ("__debug__" : Str)) = false)
    (hs₀ : ∀ v₀, genFold iter X.env v₀ = pure v₀)
    (he₀ : starEach [.GeneratorExp (.Name x pe) [⟨.Name x px, iter, ifs, 0⟩] scope gpos] X.env = (false, eval (.GeneratorExp (.Name x pe) [⟨.Name x px, iter, ifs, 0⟩] scope gpos) X.env) :: starEach [] X.env := by rfl) :
    PE X (.Call (.Name "min" p) [.GeneratorExp (.Name x pe) [⟨.Name x px, iter, ifs, 0⟩] scope gpos] [] pos) (tMinR P te tz) := by
  refine ⟨fun pins₀ s σ₀ H Q I₀ h => ?_⟩
  refine wpAny_Call_Name_kw (ld_blt (u := .builtin "min") I₀ hg hm₀ (by decide +kernel) ?_)
  refine PyProof.Rows.callWith_builtin1 (id := "min") ?_ he₀ (by rfl)
  rw [he₀]
  show wpAny _ _ (spliced ((false, eval (.GeneratorExp (.Name x pe) [⟨.Name x px, iter, ifs, 0⟩] scope gpos) X.env) :: backTo pos (starEach [] X.env))) _ _ s
  refine Calls.spliced_cons (gen_range (R := fun lo₀ n pz₀ H1₀ => (∃ i, i < n ∧ pz₀ i = true) ∧ ∀ i H2₀, Tabbed P H1₀ H2₀ → i < n → pz₀ i = true → (∀ j, j < n → pz₀ j = true → i ≤ j) → Q (.int (lo₀ + i)) H2₀) hr₀ TB₀ hcode₀ S hi₀ ht₀ hd₀ hs₀ I₀ h fun lo₀ n pz₀ H1₀ g₀ s5₀ hR₀ hG₀ => ?_)
  obtain ⟨⟨i0₀, hi0₀, hp0₀⟩, hq₀⟩ := hR₀
  obtain ⟨fp₀, wr₀, G, F, St₀, W, hst₀, hfp₀, hval₀, hI₀⟩ := hG₀
  refine Calls.spliced_nil ?_
  have hne₀ : 0 < (passing pz₀ n 0).length := List.length_pos_of_mem (mem_passing.mpr ⟨hi0₀, hp0₀⟩)
  obtain ⟨val₀, hvd₀⟩ : ∃ val₀ : Nat → Int, ∀ j, val₀ j = lo₀ + (((passing pz₀ n 0).getD j 0 : Nat) : Int) := ⟨_, fun _ => rfl⟩
  have hv₀ : ∀ j v₀, F j v₀ → ∃ t₀, v₀ = .int (val₀ j) t₀ := fun j v₀ hF₀ => by
    obtain ⟨i, h1, t₀, rfl⟩ := hval₀ j v₀ hF₀
    refine ⟨t₀, ?_⟩
    rw [hvd₀]
    simp [List.getD_eq_getElem?_getD, h1]
  refine call_min_walkS (W.self 0 _ _ _ hst₀ ⟨g₀, fp₀, wr₀, G, _, F, St₀, _, rfl, W, hst₀, hfp₀, hne₀, CmpOf.ints_lt _ hv₀, fun v₀ s' hF₀ hmv₀ => ?_⟩)
  obtain ⟨H2₀, hT₀, J₀⟩ := hI₀ s' hmv₀
  have hb₀ := argBest_lt val₀ ((passing pz₀ n 0).length - 1)
  obtain ⟨t₀, rfl⟩ := hv₀ _ v₀ hF₀
  have hlt₀ : argBest (fun i j => decide (val₀ i < val₀ j)) ((passing pz₀ n 0).length - 1) < (passing pz₀ n 0).length := by omega
  refine ⟨.int _, H2₀, J₀, ⟨_, rfl⟩, ?_⟩
  generalize argBest (fun i j => decide (val₀ i < val₀ j)) ((passing pz₀ n 0).length - 1) = jm₀ at hb₀ hlt₀
  have hm1₀ : (passing pz₀ n 0).getD jm₀ 0 = (passing pz₀ n 0)[jm₀] := by simp [List.getD_eq_getElem?_getD, hlt₀]
  have hmem₀ : (passing pz₀ n 0)[jm₀] ∈ passing pz₀ n 0 := List.getElem_mem hlt₀
  obtain ⟨k1₀, k2₀⟩ := mem_passing.mp hmem₀
  show Q (.int (val₀ jm₀)) H2₀
  rw [hvd₀, hm1₀]
  refine hq₀ _ H2₀ hT₀ k1₀ k2₀ fun j hj hpj => ?_
  obtain ⟨jj₀, hjj₀, ej₀⟩ := List.getElem_of_mem (mem_passing.mpr ⟨hj, hpj⟩)
  have := hb₀.2 jj₀ (by omega)
  have e2₀ : (passing pz₀ n 0).getD jj₀ 0 = j := by simp [List.getD_eq_getElem?_getD, hjj₀, ej₀]
  simp only [hvd₀, hm1₀, e2₀] at this
  omega
end
end V3
namespace V3
open PySem.Spec PySem L2 PyProof.Rows GxR
section
variable {s : Shared} {H : Hp} {σ : L2.St} {pins : List (Addr × Obj)} {X : Cx}
/-- a name of the def that the generator expression captures -/
structure Cap (X : Cx) (scope : Scope) (x : Str) (i : Nat) : Prop where
  N : X.N[i]? = some x
  cell : X.env.scope.names.lookup x = some .cell
  free : scope.names.lookup x = some .free
  look : ∀ cells : List (Str × Addr), (cloFrom cells scope.names []).lookup x = some ((cells.lookup x).getD 0)
  cd : (x == ("__classdict__" : Str)) = false
  db : (x == ("__debug__" : Str)) = false
theorem Cap.at {scope : Scope} {x : Str} {i : Nat} {v : V} (C : Cap X scope x i) (I : Inv X pins σ H s) (hv : σ[i]? = some (some v)) : ∃ (c : Addr) (u : Value), RelV v u ∧ X.env.cells.lookup x = some c ∧ s.heap.IsCell c (some u) := by
  obtain ⟨m, hn, hl⟩ := I.loc
  obtain ⟨u, r, l⟩ := hl i x v C.N hv (.inr (.inl C.cell))
  (rcases l with ⟨hk, hm⟩ | ⟨hk, c, hc, hcell⟩)
  · have e : X.env.scope.names.lookup x = some .local := hk
    rw [C.cell] at e
    cases e
  · exact ⟨c, u, r, hc, hcell⟩
/-- the captured name is read in the generator's frame -/
theorem Cap.eval {scope : Scope} {x : Str} {i : Nat} {pos : Pos} {M : Model} {A' : Around} {E' : Value → Shared → Prop} {cenv : Env} {c : Addr} {u : Value} {s₂ : Shared} {Q : Value → Shared → Prop} (C : Cap X scope x i) (hk : scope.kind = .function) (hs : cenv.scope = scope)
    (hc : cenv.cells = cloFrom X.env.cells scope.names []) (h1 : X.env.cells.lookup x = some c) (h2 : s₂.heap.IsCell c (some u)) (q : Q u s₂) : wpAny M A' (eval (.Name x pos) cenv) Q E' s₂ := by
  refine wpAny_Name (wpAny_loadName_free (by rw [hs]; exact hk) (show cenv.scope.names.lookup x = some .free by rw [hs]; exact C.free) ?_ h2 q C.cd) C.db
  rw [hc, C.look, h1]
  rfl
theorem keep_cell {P c : Addr} {u : Value} {s s₂ : Shared} (hP : ∃ ps : Array Value, s.heap.get? P = some { cls := .none, data := .fields ps }) (k : ∀ b o, b ≠ P → s.heap.get? b = some o → s₂.heap.get? b = some o) (h : s.heap.IsCell c (some u)) : s₂.heap.IsCell c (some u) := by
  obtain ⟨o, ho, hd⟩ := h
  obtain ⟨ps, hP⟩ := hP
  refine ⟨o, k c o (fun e => ?_) ho, hd⟩
  rw [e, hP] at ho
  cases ho
  cases hd
theorem keep_list {P a : Addr} {its : Array Value} {s s₂ : Shared} (hP : ∃ ps : Array Value, s.heap.get? P = some { cls := .none, data := .fields ps }) (k : ∀ b o, b ≠ P → s.heap.get? b = some o → s₂.heap.get? b = some o) (h : PlainL s.heap a its) : PlainL s₂.heap a its := by
  obtain ⟨o, n, ho, hc, hd, hdt⟩ := h
  obtain ⟨ps, hP⟩ := hP
  refine ⟨o, n, k a o (fun e => ?_) ho, hc, hd, hdt⟩
  rw [e, hP] at ho
  cases ho
  cases hdt
theorem vals_int_get {xs : List Int} {its : List Value} {j : Nat} {u : Int} (r : Vals (xs.map V.int) its) (h : xs[j]? = some u) : ∃ t, its.toArray[j]? = some (.int u t) := by
  obtain ⟨w, h1, h2⟩ := r.get (show (xs.map V.int)[j]? = some (.int u) by rw [List.getElem?_map, h]; rfl)
  obtain ⟨t, rfl⟩ := h2
  exact ⟨t, by simpa using h1⟩
/-- a[x] op b[x], a and b lists of ints of the def, x the generator's name -/
def tzXX (K : PySem.W.Frag) (ia ib : Nat) (cmp : Int → Int → Bool) : L2.St → Hp → Int → Nat → (Nat → Bool) → Prop := fun σ H lo n pz =>
  ∃ (pa pb : Addr) (xs ys : List Int), σ[ia]? = some (some (.ref pa)) ∧ σ[ib]? = some (some (.ref pb)) ∧ SqL K H pa (xs.map V.int) ∧ SqL K H pb (ys.map V.int) ∧ 0 ≤ lo ∧ lo + n < 2 ^ 63 ∧
    ∀ i : Nat, i < n → ∃ u v : Int, xs[lo.toNat + i]? = some u ∧ ys[lo.toNat + i]? = some v ∧ pz i = cmp u v
/-- a[x] op b[y], y an int of the def -/
def tzXY (K : PySem.W.Frag) (ia ib iy : Nat) (cmp : Int → Int → Bool) : L2.St → Hp → Int → Nat → (Nat → Bool) → Prop := fun σ H lo n pz =>
  ∃ (pa pb : Addr) (xs ys : List Int) (y v : Int), σ[ia]? = some (some (.ref pa)) ∧ σ[ib]? = some (some (.ref pb)) ∧ σ[iy]? = some (some (.int y)) ∧ SqL K H pa (xs.map V.int) ∧ SqL K H pb (ys.map V.int) ∧ 0 ≤ lo ∧ lo + n < 2 ^ 63 ∧ 0 ≤ y ∧ y < 2 ^ 63 ∧
    ys[y.toNat]? = some v ∧ ∀ i : Nat, i < n → ∃ u : Int, xs[lo.toNat + i]? = some u ∧ pz i = cmp u v
theorem for_one {M : Model} {A' : Around} {E' : Value → Shared → Prop} {c : Expr} {cenv : Env} {Q : Bool → Shared → Prop} {s₂ : Shared} (h : wpAny M A' (isTrue c cenv (eval c cenv)) Q E' s₂) :
    wpAny M A' (forIn [c] true fun c r => if r = true then do let ok ← isTrue c cenv (eval c cenv); pure (ForInStep.yield ok) else pure (ForInStep.yield r)) Q E' s₂ := by
  simp only [List.forIn_cons, List.forIn_nil, if_true, bind_assoc, pure_bind]
  exact wpAny_bind (wpAny_mono h (fun b s3 q => wpAny_pure q) fun _ _ e => e)
theorem test_xx {P : Addr} {scope : Scope} {x na nb : Str} {ia ib : Nat} {op : CmpOp} {cmp : Int → Int → Bool} {p1 p2 p3 p4 q1 q2 q3 : Pos} (hk : scope.kind = .function) (hx : scope.names.lookup x = some .local) (hdx : (x == ("__debug__" : Str)) = false) (Ca : Cap X scope na ia) (Cb : Cap X scope nb ib)
    (hcmp : ∀ (A : Around) (E : Value → Shared → Prop) (s : Shared) (Q : Value → Shared → Prop) (u v : Int) (t t' : Tok), Q (.bool (cmp u v)) s → wpAny (model X.prog X.w) A (compareOp op (.int u t) (.int v t')) Q E s)
    (hm : behindInMarks op (.Subscript (.Name nb p3) (.Name x p4) q2) = false) :
    TestR X P scope x [.Compare (.Subscript (.Name na p1) (.Name x p2) q1) [op] [.Subscript (.Name nb p3) (.Name x p4) q2] q3] (tzXX X.K ia ib cmp) := by
  intro pins s σ H lo n pz I hz hP cenv A' E' i t s₂ m₂ hi hs hc hn hmx hkp
  obtain ⟨pa, pb, xs, ys, ha, hb, hxs, hys, h0, h63, htest⟩ := hz
  obtain ⟨u, v, hu, hv, hpz⟩ := htest i hi
  obtain ⟨ca, ua, ra, ca1, ca2⟩ := Ca.at I ha
  obtain ⟨cb, ub, rb, cb1, cb2⟩ := Cb.at I hb
  cases ra
  cases rb
  obtain ⟨ia', rxs, pxs, _⟩ := I.list hxs
  obtain ⟨ib', rys, pys, _⟩ := I.list hys
  obtain ⟨tu, hu'⟩ := vals_int_get rxs hu
  obtain ⟨tv, hv'⟩ := vals_int_get rys hv
  have e1 : (lo + (i : Nat) * 1).toNat = lo.toNat + i := by omega
  have b1 : 0 ≤ lo + (i : Nat) * 1 := by omega
  have b2 : lo + (i : Nat) * 1 < 2 ^ 63 := by omega
  have ex : ∀ (pos : Pos) (E'' : Value → Shared → Prop) (Q : Value → Shared → Prop), Q (.int (lo + (i : Nat) * 1) t) s₂ → wpAny (model X.prog X.w) A' (eval (.Name x pos) cenv) Q E'' s₂ := fun pos E'' Q q =>
    wpAny_Name (wpAny_loadName_local (by rw [hs]; exact hk) (show cenv.scope.names.lookup x = some .local by rw [hs]; exact hx) hn hmx q) hdx
  refine for_one (wpAny_isTrue_Compare1 ?_ hm)
  refine Subscript_ (Ca.eval hk hs hc ca1 (keep_cell hP hkp ca2) (ex _ _ _ ?_))
  refine item_listR (keep_list hP hkp pxs).isList b1 b2 (by rw [e1]; exact hu') ?_
  refine Subscript_ (Cb.eval hk hs hc cb1 (keep_cell hP hkp cb2) (ex _ _ _ ?_))
  refine item_listR (keep_list hP hkp pys).isList b1 b2 (by rw [e1]; exact hv') ?_
  refine hcmp _ _ _ _ _ _ _ _ (wpAny_truthy_bool ?_)
  exact ⟨hpz.symm, keeps_refl _⟩
theorem test_xy {P : Addr} {scope : Scope} {x na nb ny : Str} {ia ib iy : Nat} {op : CmpOp} {cmp : Int → Int → Bool} {p1 p2 p3 p4 q1 q2 q3 : Pos} (hk : scope.kind = .function) (hx : scope.names.lookup x = some .local) (hdx : (x == ("__debug__" : Str)) = false) (Ca : Cap X scope na ia) (Cb : Cap X scope nb ib) (Cy : Cap X scope ny iy)
    (hcmp : ∀ (A : Around) (E : Value → Shared → Prop) (s : Shared) (Q : Value → Shared → Prop) (u v : Int) (t t' : Tok), Q (.bool (cmp u v)) s → wpAny (model X.prog X.w) A (compareOp op (.int u t) (.int v t')) Q E s)
    (hm : behindInMarks op (.Subscript (.Name nb p3) (.Name ny p4) q2) = false) :
    TestR X P scope x [.Compare (.Subscript (.Name na p1) (.Name x p2) q1) [op] [.Subscript (.Name nb p3) (.Name ny p4) q2] q3] (tzXY X.K ia ib iy cmp) := by
  intro pins s σ H lo n pz I hz hP cenv A' E' i t s₂ m₂ hi hs hc hn hmx hkp
  obtain ⟨pa, pb, xs, ys, y, v, ha, hb, hy, hxs, hys, h0, h63, y0, y63, hv, htest⟩ := hz
  obtain ⟨u, hu, hpz⟩ := htest i hi
  obtain ⟨ca, ua, ra, ca1, ca2⟩ := Ca.at I ha
  obtain ⟨cb, ub, rb, cb1, cb2⟩ := Cb.at I hb
  obtain ⟨cy, uy, ry, cy1, cy2⟩ := Cy.at I hy
  cases ra
  cases rb
  obtain ⟨ty, rfl⟩ := ry
  obtain ⟨ia', rxs, pxs, _⟩ := I.list hxs
  obtain ⟨ib', rys, pys, _⟩ := I.list hys
  obtain ⟨tu, hu'⟩ := vals_int_get rxs hu
  obtain ⟨tv, hv'⟩ := vals_int_get rys hv
  have e1 : (lo + (i : Nat) * 1).toNat = lo.toNat + i := by omega
  have b1 : 0 ≤ lo + (i : Nat) * 1 := by omega
  have b2 : lo + (i : Nat) * 1 < 2 ^ 63 := by omega
  have ex : ∀ (pos : Pos) (E'' : Value → Shared → Prop) (Q : Value → Shared → Prop), Q (.int (lo + (i : Nat) * 1) t) s₂ → wpAny (model X.prog X.w) A' (eval (.Name x pos) cenv) Q E'' s₂ := fun pos E'' Q q =>
    wpAny_Name (wpAny_loadName_local (by rw [hs]; exact hk) (show cenv.scope.names.lookup x = some .local by rw [hs]; exact hx) hn hmx q) hdx
  refine for_one (wpAny_isTrue_Compare1 ?_ hm)
  refine Subscript_ (Ca.eval hk hs hc ca1 (keep_cell hP hkp ca2) (ex _ _ _ ?_))
  refine item_listR (keep_list hP hkp pxs).isList b1 b2 (by rw [e1]; exact hu') ?_
  refine Subscript_ (Cb.eval hk hs hc cb1 (keep_cell hP hkp cb2) (Cy.eval hk hs hc cy1 (keep_cell hP hkp cy2) ?_))
  refine item_listR (keep_list hP hkp pys).isList y0 y63 hv' ?_
  refine hcmp _ _ _ _ _ _ _ _ (wpAny_truthy_bool ?_)
  exact ⟨hpz.symm, keeps_refl _⟩
end
end V3
namespace V3
open PySem.Spec PySem L2 PyProof.Rows GxR
/-! ### data without lists lasts while lists change -/
structure KeepT (H H' : Hp) : Prop where
  tup : ∀ b xs, H b = some (.tup xs) → H' b = some (.tup xs)
  frz : ∀ b o u, H b = some (.frz o u) → H' b = some (.frz o u)
theorem KeepT.refl (H : Hp) : KeepT H H := ⟨fun _ _ h => h, fun _ _ _ h => h⟩
theorem KeepT.trans {H H1 H2 : Hp} (a : KeepT H H1) (b : KeepT H1 H2) : KeepT H H2 := ⟨fun c xs h => b.tup c xs (a.tup c xs h), fun c o u h => b.frz c o u (a.frz c o u h)⟩
theorem Same.kt {H H' : Hp} (e : Same H H') : KeepT H H' := ⟨fun _ _ h => e _ _ h, fun _ _ _ h => e _ _ h⟩
theorem kt_lst {H : Hp} {a : Addr} {xs : List V} {o : HO} (h : H a = some (.lst xs)) : KeepT H (upd H a o) :=
  ⟨fun b ys e => by rw [upd_ne (fun z => by rw [z, h] at e; cases e)]; exact e, fun b o' u e => by rw [upd_ne (fun z => by rw [z, h] at e; cases e)]; exact e⟩
theorem kt_new {H : Hp} {p : Addr} {o : HO} (h : H p = none) : KeepT H (upd H p o) := Same.kt (same_upd h)
theorem kt_tab {P : Addr} {H H' : Hp} (h : Tabbed P H H') (hP : TabG H P) : KeepT H H' := by
  obtain ⟨ps, hp, _⟩ := hP
  refine ⟨fun b xs e => ?_, fun b o u e => ?_⟩
  · rw [h.2 b (fun z => by rw [z, hp] at e; cases e)]
    exact e
  · rw [h.2 b (fun z => by rw [z, hp] at e; cases e)]
    exact e
theorem KeepT.sqT {K : PySem.W.Frag} {H H' : Hp} {a : Addr} {xs : List V} (e : KeepT H H') (h : SqT K H a xs) : SqT K H' a xs := by
  (rcases h with (h | ⟨o, h⟩) | h)
  · exact .inl (.inl (e.tup _ _ h))
  · exact .inl (.inr ⟨o, e.frz _ _ _ h⟩)
  · exact .inr h
mutual
inductive DpT (K : PySem.W.Frag) (H : Hp) : V → PyData → Prop
  | non : DpT K H .non .none
  | bl (b : Bool) : DpT K H (.bl b) (.bool b)
  | int (i : Int) : DpT K H (.int i) (.int i)
  | str (x : Str) : DpT K H (.str x) (.str x)
  | tup {a : Addr} {xs : List V} {ds : List PyData} : SqT K H a xs → DpTAll K H xs ds → DpT K H (.ref a) (.tuple ds)
inductive DpTAll (K : PySem.W.Frag) (H : Hp) : List V → List PyData → Prop
  | nil : DpTAll K H [] []
  | cons {v : V} {vs : List V} {d : PyData} {ds : List PyData} : DpT K H v d → DpTAll K H vs ds → DpTAll K H (v :: vs) (d :: ds)
end
mutual
theorem DpT.keep {K : PySem.W.Frag} {H H' : Hp} (e : KeepT H H') : ∀ {v : V} {d : PyData}, DpT K H v d → DpT K H' v d
  | _, _, .non => .non
  | _, _, .bl b => .bl b
  | _, _, .int i => .int i
  | _, _, .str x => .str x
  | _, _, .tup h a => .tup (e.sqT h) (DpTAll.keep e a)
theorem DpTAll.keep {K : PySem.W.Frag} {H H' : Hp} (e : KeepT H H') : ∀ {vs : List V} {ds : List PyData}, DpTAll K H vs ds → DpTAll K H' vs ds
  | _, _, .nil => .nil
  | _, _, .cons a b => .cons (DpT.keep e a) (DpTAll.keep e b)
end
mutual
theorem DpT.dp {K : PySem.W.Frag} {H : Hp} : ∀ {v : V} {d : PyData}, DpT K H v d → Dp K H v d
  | _, _, .non => .non
  | _, _, .bl b => .bl b
  | _, _, .int i => .int i
  | _, _, .str x => .str x
  | _, _, .tup h a => .tup h (DpTAll.dp a)
theorem DpTAll.dp {K : PySem.W.Frag} {H : Hp} : ∀ {vs : List V} {ds : List PyData}, DpTAll K H vs ds → DpAll K H vs ds
  | _, _, .nil => .nil
  | _, _, .cons a b => .cons (DpT.dp a) (DpTAll.dp b)
end
section
variable {K : PySem.W.Frag} {H : Hp}
theorem dtTup {v : V} {ds : List PyData} (h : DpT K H v (.tuple ds)) : ∃ p xs, v = .ref p ∧ SqT K H p xs ∧ DpTAll K H xs ds := by
  cases h with
  | tup a b => exact ⟨_, _, rfl, a, b⟩
theorem dtAll_app {vs ws : List V} {ds es : List PyData} (h : DpTAll K H vs ds) (g : DpTAll K H ws es) : DpTAll K H (vs ++ ws) (ds ++ es) := by
  induction ds generalizing vs with
  | nil =>
    cases h
    exact g
  | cons x ds ih =>
    cases h with
    | cons a b => exact .cons a (ih b)
theorem dtAll_len {vs : List V} {ds : List PyData} (h : DpTAll K H vs ds) : vs.length = ds.length := dpAll_len h.dp
theorem dtAll_getV {vs : List V} {ds : List PyData} {i : Nat} {v : V} (h : DpTAll K H vs ds) (e : vs[i]? = some v) : ∃ d, ds[i]? = some d ∧ DpT K H v d := by
  induction ds generalizing vs i with
  | nil =>
    cases h
    simp at e
  | cons x ds ih =>
    cases h with
    | cons a b =>
      cases i with
      | zero =>
        have q := Option.some.inj e
        subst q
        exact ⟨_, rfl, a⟩
      | succ i =>
        have q := ih (i := i) b
        exact q e
theorem dtAll_get {vs : List V} {ds : List PyData} {i : Nat} {d : PyData} (h : DpTAll K H vs ds) (e : ds[i]? = some d) : ∃ v, vs[i]? = some v ∧ DpT K H v d := by
  induction ds generalizing vs i with
  | nil => simp at e
  | cons x ds ih =>
    cases h with
    | cons a b =>
      cases i with
      | zero =>
        have q : x = d := Option.some.inj e
        subst q
        exact ⟨_, rfl, a⟩
      | succ i =>
        have q := ih (i := i) b
        exact q e
theorem dtFr {v : V} {q : Int × Int} (h : DpT K H v (frD q)) : ∃ p, v = .ref p ∧ SqT K H p [.int q.1, .int q.2] := dpFr h.dp
theorem tFr {v : V} {q : Int × Int} (h : Dp K H v (frD q)) : DpT K H v (frD q) := by
  obtain ⟨p, rfl, hs⟩ := dpFr h
  exact .tup hs (.cons (.int _) (.cons (.int _) .nil))
theorem tFrU {p : Addr} {q : Int × Int} (h : H p = some (.tup [.int q.1, .int q.2])) : DpT K H (.ref p) (frD q) := .tup (SqT.of h) (.cons (.int q.1) (.cons (.int q.2) .nil))
theorem tFrs : ∀ {vs : List V} {qs : List (Int × Int)}, DpAll K H vs (qs.map frD) → DpTAll K H vs (qs.map frD)
  | _, [], h => by
    cases h
    exact .nil
  | _, q :: r, h => by
    cases h with
    | cons a b => exact .cons (tFr a) (tFrs b)
theorem tRow {v : V} {qs : List (Int × Int)} (h : Dp K H v (rowD qs)) : DpT K H v (rowD qs) := by
  obtain ⟨p, xs, rfl, hs, ha⟩ := dpTup h
  exact .tup hs (tFrs ha)
end

/-! ### lists of ints: !=, o[i] op= e -/
theorem shaped_ints (ns : List Int) : SeqAt.shaped (.list (ns.map PyData.int)) = true := by
  have h1 : ∀ ns : List Int, PyData.canLayAll0 (ns.map PyData.int) = true := fun ns => by
    induction ns with
    | nil => rfl
    | cons a r ih => simp only [List.map_cons, PyData.canLayAll0, PyData.canLay0, ih, Bool.and_self]
  have h2 : ∀ ns : List Int, PyData.depthAll (ns.map PyData.int) = 0 := fun ns => by
    induction ns with
    | nil => rfl
    | cons a r ih => simp only [List.map_cons, PyData.depthAll, PyData.depth, ih, Nat.max_self]
  unfold SeqAt.shaped
  simp only [PyData.canLay0, PyData.depth, h1, h2, Bool.true_and, decide_eq_true_eq]
  omega
theorem eqv_ints (a b : List Int) : PyData.eqv (.list (a.map PyData.int)) (.list (b.map PyData.int)) = decide (a = b) := by
  rw [PyData.eqv]
  exact PySem.W.ked_eqvAll a b
theorem pget_list {X : Cx} : PGet X (rIxL X.K) := by
  intro pins₀ s σ₀ H o i ov₀ iv₀ Q I ro₀ ri₀ h
  obtain ⟨p, xs, k, z, rfl, rfl, hq₀, he₀, q⟩ := h
  cases ro₀
  obtain ⟨t₀, rfl⟩ := ri₀
  obtain ⟨its₀, r₀, pl₀, hz₀⟩ := I.list hq₀
  obtain ⟨j₀, h1₀, h2₀, h3₀, h4₀, h5₀⟩ := atI_get he₀
  obtain ⟨w₀, ew₀, rw₀'⟩ := r₀.get h2₀
  have hl₀ := r₀.length
  have hn₀ := line63
  have fin₀ : EP X pins₀ σ₀ Q w₀ s := ⟨z, H, I, rw₀', q⟩
  by_cases h0₀ : 0 ≤ k
  · have hj₀ : k.toNat = j₀ := by
      rw [seqIndex_of h0₀ h5₀] at h1₀
      exact Option.some.inj h1₀
    exact wpAny_getItem_list pl₀.isList h0₀ (by omega) (by rw [hj₀]; simpa using ew₀) fin₀
  · have hj₀ : (k + (its₀.toArray.size : Int)).toNat = j₀ := by
      rw [seqIndex_neg (by omega) h4₀] at h1₀
      rw [List.size_toArray, ← hl₀]
      exact Option.some.inj h1₀
    exact wpAny_getItem_list_neg pl₀.isList (by omega) (by rw [List.size_toArray] <;> omega) (by omega) (by rw [hj₀]; simpa using ew₀) fin₀

/-! ### a def that holds a generator expression -/
structure AtC (K : PySem.W.Frag) (mg : Str → Option Value) (x : Str) (st : Stmt) (c : Addr) : Prop where
  ex : ∃ (f : Addr) (oc : Value) (od : Option Addr) (kV doc pm : Value) (an : Option Addr) (ct : Value) (osl : Array (Option Value)), mg x = some (.ref f) ∧
    K.lookup f = some ⟨oc, od, .func (PySem.W.fnOf x x (defArgs st) (defBody st) (defScope st) .none kV doc pm an (.ref c) ct), osl⟩ ∧ PySem.W.codeIn K (.ref c) x = true ∧ PySem.W.keepIn K (.ref f) = true
section
variable {mg : Str → Option Value} {base : Heap} {K : PySem.W.Frag} {P : Program} {w : World}
theorem Df.mkC {x : Str} {st : Stmt} {c : Addr} {N ps : List Str} {k : Nat} {sp : Sp} (F : AtC K mg x st c) (S : FnScope N ps (defScope st)) (len : ∀ vs H Q E, sp vs H Q E → vs.length = ps.length)
    (hb : ∀ (kV doc pm : Value) (an : Option Addr) (cdv ct : Value) (us : List Value), us.length = ps.length → bindArgs (PySem.W.fnOf x x (defArgs st) (defBody st) (defScope st) .none kV doc pm an cdv ct) ⟨us, []⟩ = pure (ps.zip us))
    (hbody : ∀ (f : Addr) (A : Around) (outer : List Env) (s : Shared) (H : Hp) (vs : List V) (Q : VK) (E : XK), Room k (A.deeper (envOfC x (defScope st) s.heap.objs.size f (.ref c))) → sp vs H Q E →
      ∃ t, PSs (cxOf CX0 P w K mg base N x (defScope st) f (.ref c) A outer s H E).nox (defBody st) t ∧ t { nx := fun _ H' => Q .non H', rt := Q } (start N vs) H) : Df P w K mg base x (k + 1) ps sp := by
  obtain ⟨f, oc, od, kV, doc, pm, an, ct, osl, g, lk, hcd, hk⟩ := F.ex
  refine ⟨f, _, g, hk, .all (hb kV doc pm an (.ref c) ct), fn_of lk hcd S len fun A outer s H vs Q E hr hsp => ?_, oc, od, osl, lk⟩
  obtain ⟨t, h, q⟩ := hbody f A outer s H vs Q E hr hsp
  exact ⟨t, h.nox, q⟩
end
/-- all but the table at P stands -/
def But (P : Addr) (H H' : Hp) : Prop := ∀ b o, b ≠ P → H b = some o → H' b = some o
theorem But.trans {P : Addr} {H H1 H2 : Hp} (a : But P H H1) (b : But P H1 H2) : But P H H2 := fun c o n h => b c o n (a c o n h)
theorem But.refl (P : Addr) (H : Hp) : But P H H := fun _ _ _ h => h
theorem Same.but {P : Addr} {H H' : Hp} (e : Same H H') : But P H H' := fun b o _ h => e b o h
theorem tab_but {P : Addr} {H H' : Hp} (h : Tabbed P H H') : But P H H' := fun b o n e => by rw [h.2 b n]; exact e
theorem But.kt {P : Addr} {H H' : Hp} (h : But P H H') (hP : TabG H P) : KeepT H H' := by
  obtain ⟨ps, hp, _⟩ := hP
  exact ⟨fun b xs e => h b _ (fun z => by rw [z, hp] at e; cases e) e, fun b o u e => h b _ (fun z => by rw [z, hp] at e; cases e) e⟩
theorem But.seq {P : Addr} {K : PySem.W.Frag} {H H' : Hp} {a : Addr} {xs : List V} (e : But P H H') (hP : TabG H P) (h : SqL K H a xs) : SqL K H' a xs := by
  obtain ⟨ps, hp, _⟩ := hP
  (rcases h with (h | ⟨o, h⟩) | h)
  · exact .inl (.inl (e _ _ (fun z => by rw [z, hp] at h; cases h) h))
  · exact .inl (.inr ⟨o, e _ _ (fun z => by rw [z, hp] at h; cases h) h⟩)
  · exact .inr h
theorem TabG.same {P : Addr} {H H' : Hp} (h : TabG H P) (e : Same H H') : TabG H' P := by
  obtain ⟨ps, hp, t⟩ := h
  exact ⟨ps, e _ _ hp, t⟩
theorem TabG.lst {P a : Addr} {H : Hp} {xs : List V} {o : HO} (h : TabG H P) (e : H a = some (.lst xs)) : TabG (upd H a o) P := by
  obtain ⟨ps, hp, t⟩ := h
  exact ⟨ps, by rw [upd_ne (fun z => by rw [z, e] at hp; cases hp)]; exact hp, t⟩
end V3
/-! Fractions as rational numbers: sizes, and what the reckoning of the program and of the law is. -/
namespace V3
theorem radd (x y : Rat) : x + y = Rat.divInt (x.num * (y.den : Int) + y.num * (x.den : Int)) ((x.den : Int) * (y.den : Int)) := by
  rw [Rat.add_def', ← Rat.divInt_ofNat, Int.natCast_mul]
theorem rsub (x y : Rat) : x - y = Rat.divInt (x.num * (y.den : Int) - y.num * (x.den : Int)) ((x.den : Int) * (y.den : Int)) := by
  rw [Rat.sub_def', ← Rat.divInt_ofNat, Int.natCast_mul]
theorem rmul (x y : Rat) : x * y = Rat.divInt (x.num * y.num) ((x.den : Int) * (y.den : Int)) := by
  rw [Rat.mul_def', ← Rat.divInt_ofNat, Int.natCast_mul]
theorem rdiv (x y : Rat) : x / y = Rat.divInt (x.num * (y.den : Int)) ((x.den : Int) * y.num) := by
  have e : x / y = (Rat.divInt x.num x.den) * (Rat.divInt y.den y.num) := by
    rw [Rat.div_def, Rat.inv_def, Rat.num_divInt_den]
  rw [e, Rat.divInt_mul_divInt]
theorem rnum_pos {y : Rat} (h : 0 < y) : 0 < y.num := by
  have := (Rat.lt_iff 0 y).mp h
  simpa using this
theorem rden_pos (x : Rat) : 0 < (x.den : Int) := by
  have := x.den_pos
  omega
theorem dnum {n u : Int} (h : 0 < u) : (Rat.divInt n u).num = n / (Int.gcd n u : Int) := by
  rw [Rat.num_divInt, Int.sign_eq_one_of_pos h, Int.one_mul, Int.gcd_comm]
theorem dden {n u : Int} (h : 0 < u) : ((Rat.divInt n u).den : Int) = u / (Int.gcd n u : Int) := by
  rw [Rat.den_divInt, if_neg (by omega), Int.gcd_comm]
  have : (u.natAbs : Int) = u := by omega
  rw [Int.natCast_ediv, this]
theorem rle (x y : Rat) : decide (x.num * (y.den : Int) ≤ y.num * (x.den : Int)) = decide (x ≤ y) := by
  rw [decide_eq_decide]
  exact (Rat.le_iff x y).symm
theorem rlt (x y : Rat) : decide (x.num * (y.den : Int) < y.num * (x.den : Int)) = decide (x < y) := by
  rw [decide_eq_decide]
  exact (Rat.lt_iff x y).symm
/-- sizes -/
structure Bq (b : Nat) (x : Rat) : Prop where
  n : x.num.natAbs < 2 ^ b
  d : x.den < 2 ^ b
theorem pw {a b : Nat} (h : a ≤ b) : 2 ^ a ≤ 2 ^ b := Nat.pow_le_pow_right (by decide) h
theorem Bq.mono {a b : Nat} {x : Rat} (h : Bq a x) (l : a ≤ b) : Bq b x := ⟨Nat.lt_of_lt_of_le h.n (pw l), Nat.lt_of_lt_of_le h.d (pw l)⟩
theorem bq_div {n u : Int} {b : Nat} (h : 0 < u) (hn : n.natAbs < 2 ^ b) (hu : u.natAbs < 2 ^ b) : Bq b (Rat.divInt n u) := by
  refine ⟨?_, ?_⟩
  · rw [dnum h]
    refine Nat.lt_of_le_of_lt ?_ hn
    rw [Int.natAbs_ediv_of_dvd (Int.gcd_dvd_left ..)]
    exact Nat.div_le_self _ _
  · have e := dden (n := n) h
    have l : u / (Int.gcd n u : Int) ≤ u := Int.ediv_le_self _ (by omega)
    omega
theorem mul_lt_pw {m n a b : Nat} (h1 : m < 2 ^ a) (h2 : n < 2 ^ b) : m * n < 2 ^ (a + b) := by
  rw [Nat.pow_add]
  exact Nat.mul_lt_mul'' h1 h2
theorem add_lt_pw {i j : Int} {a : Nat} (h1 : i.natAbs < 2 ^ a) (h2 : j.natAbs < 2 ^ a) : (i + j).natAbs < 2 ^ (a + 1) := by
  rw [Nat.pow_succ]
  omega
theorem sub_lt_pw {i j : Int} {a : Nat} (h1 : i.natAbs < 2 ^ a) (h2 : j.natAbs < 2 ^ a) : (i - j).natAbs < 2 ^ (a + 1) := by
  rw [Nat.pow_succ]
  omega
theorem mulI {i j : Int} {a b : Nat} (h1 : i.natAbs < 2 ^ a) (h2 : j.natAbs < 2 ^ b) : (i * j).natAbs < 2 ^ (a + b) := by
  rw [Int.natAbs_mul]
  exact mul_lt_pw h1 h2
theorem natI {n b : Nat} (h : n < 2 ^ b) : (n : Int).natAbs < 2 ^ b := by
  rw [Int.natAbs_natCast]
  exact h
theorem Bq.add {a b c : Nat} {x y : Rat} (hx : Bq a x) (hy : Bq b y) (hc : a + b + 1 ≤ c) : Bq c (x + y) := by
  refine Bq.mono ?_ hc
  rw [radd]
  refine bq_div (Int.mul_pos (rden_pos x) (rden_pos y)) ?_ ?_
  · refine add_lt_pw (mulI hx.n (natI hy.d)) ?_
    rw [Nat.add_comm]
    exact mulI hy.n (natI hx.d)
  · exact Nat.lt_of_lt_of_le (mulI (natI hx.d) (natI hy.d)) (pw (by omega))
theorem Bq.sub {a b c : Nat} {x y : Rat} (hx : Bq a x) (hy : Bq b y) (hc : a + b + 1 ≤ c) : Bq c (x - y) := by
  refine Bq.mono ?_ hc
  rw [rsub]
  refine bq_div (Int.mul_pos (rden_pos x) (rden_pos y)) ?_ ?_
  · refine sub_lt_pw (mulI hx.n (natI hy.d)) ?_
    rw [Nat.add_comm]
    exact mulI hy.n (natI hx.d)
  · exact Nat.lt_of_lt_of_le (mulI (natI hx.d) (natI hy.d)) (pw (by omega))
theorem Bq.mul {a b c : Nat} {x y : Rat} (hx : Bq a x) (hy : Bq b y) (hc : a + b ≤ c) : Bq c (x * y) := by
  refine Bq.mono ?_ hc
  rw [rmul]
  exact bq_div (Int.mul_pos (rden_pos x) (rden_pos y)) (mulI hx.n hy.n) (mulI (natI hx.d) (natI hy.d))
theorem Bq.div {a b c : Nat} {x y : Rat} (hx : Bq a x) (hy : Bq b y) (p : 0 < y) (hc : a + b ≤ c) : Bq c (x / y) := by
  refine Bq.mono ?_ hc
  rw [rdiv]
  exact bq_div (Int.mul_pos (rden_pos x) (rnum_pos p)) (mulI hx.n (natI hy.d)) (mulI (natI hx.d) hy.n)
/-- a number over D, the number up to Z -/
def Sc (D Z : Nat) (x : Rat) : Prop := ∃ z : Int, x = Rat.divInt z (D : Int) ∧ z.natAbs ≤ Z
theorem Sc.mono {D Z Z' : Nat} {x : Rat} (h : Sc D Z x) (l : Z ≤ Z') : Sc D Z' x := by
  obtain ⟨z, e, b⟩ := h
  exact ⟨z, e, by omega⟩
theorem Sc.up {D Z : Nat} {x : Rat} (k : Nat) (k0 : 0 < k) (h : Sc D Z x) : Sc (k * D) (k * Z) x := by
  obtain ⟨z, e, b⟩ := h
  refine ⟨k * z, ?_, ?_⟩
  · rw [e, Int.natCast_mul, Rat.divInt_mul_left (by omega)]
  · rw [Int.natAbs_mul, Int.natAbs_natCast]
    exact Nat.mul_le_mul_left k b
theorem Sc.add {D Z Z' : Nat} {x y : Rat} (d0 : 0 < D) (h : Sc D Z x) (g : Sc D Z' y) : Sc D (Z + Z') (x + y) := by
  obtain ⟨z, e, b⟩ := h
  obtain ⟨z', e', b'⟩ := g
  refine ⟨z + z', ?_, by omega⟩
  rw [e, e', Rat.divInt_add_divInt _ _ (by omega) (by omega), ← Int.add_mul, Rat.divInt_mul_right (by omega)]
theorem Sc.sub {D Z Z' : Nat} {x y : Rat} (d0 : 0 < D) (h : Sc D Z x) (g : Sc D Z' y) : Sc D (Z + Z') (x - y) := by
  obtain ⟨z, e, b⟩ := h
  obtain ⟨z', e', b'⟩ := g
  refine ⟨z - z', ?_, by omega⟩
  rw [e, e', Rat.divInt_sub_divInt _ _ (by omega) (by omega), ← Int.sub_mul, Rat.divInt_mul_right (by omega)]
theorem Sc.mul {D D' Z Z' : Nat} {x y : Rat} (h : Sc D Z x) (g : Sc D' Z' y) : Sc (D * D') (Z * Z') (x * y) := by
  obtain ⟨z, e, b⟩ := h
  obtain ⟨z', e', b'⟩ := g
  refine ⟨z * z', ?_, ?_⟩
  · rw [e, e', Rat.divInt_mul_divInt, Int.natCast_mul]
  · rw [Int.natAbs_mul]
    exact Nat.mul_le_mul b b'
theorem Sc.bq {D Z b : Nat} {x : Rat} (h : Sc D Z x) (d0 : 0 < D) (hD : D < 2 ^ b) (hZ : Z < 2 ^ b) : Bq b x := by
  obtain ⟨z, e, l⟩ := h
  rw [e]
  exact bq_div (by omega) (by omega) (natI hD)
theorem Sc.of {n : Int} {D : Nat} : Sc D n.natAbs (Rat.divInt n (D : Int)) := ⟨n, rfl, Nat.le_refl _⟩
/-! what is outside -/
def half : Rat := Rat.divInt 1 2
theorem half_two : half + half = 1 := by
  unfold half
  rw [Rat.divInt_add_divInt _ _ (by decide) (by decide)]
  rfl
def sureR (m s l h : Rat) : Bool := decide (s ≤ (m - l) * (h - m))
def stepR (m s l h : Rat) : Rat := if h < m then half * (m - h) else if m < l then s / (l - m) + 1 else if m = h then (m - l) + 1 else half * ((m - l) + s / (h - m))
theorem half_pos : 0 < half := by
  have := half_two
  grind
theorem sure_law {m s l h : Rat} (s0 : 0 ≤ s) (lh : l ≤ h) : sureR m s l h = (decide (l ≤ m) && decide (m ≤ h) && decide (s ≤ (m - l) * (h - m))) := by
  by_cases h1 : l ≤ m
  · by_cases h2 : m ≤ h
    · simp [h1, h2, sureR]
    · have e : (m - l) * (h - m) < 0 := by
        have a : 0 < m - l := by grind
        have b : 0 < m - h := by grind
        have := Rat.mul_pos a b
        grind
      have : ¬ s ≤ (m - l) * (h - m) := by grind
      simp [h1, h2, sureR, this]
  · have e : (m - l) * (h - m) < 0 := by
      have a : 0 < l - m := by grind
      have b : 0 < h - m := by grind
      have := Rat.mul_pos a b
      grind
    have : ¬ s ≤ (m - l) * (h - m) := by grind
    simp [h1, sureR, this]
theorem div_nonneg' {s a : Rat} (s0 : 0 ≤ s) (a0 : 0 < a) : 0 ≤ s / a := by
  rw [Rat.div_def]
  exact Rat.mul_nonneg s0 (Rat.le_of_lt (Rat.inv_pos.mpr a0))
theorem div_pos' {s a : Rat} (s0 : 0 < s) (a0 : 0 < a) : 0 < s / a := by
  rw [Rat.div_def]
  exact Rat.mul_pos s0 (Rat.inv_pos.mpr a0)
theorem step_pos {m s l h : Rat} (s0 : 0 ≤ s) (ns : ¬ s ≤ (m - l) * (h - m)) : 0 < stepR m s l h := by
  unfold stepR
  split
  · exact Rat.mul_pos half_pos (by grind)
  · split
    · have a : 0 < l - m := by grind
      have := div_nonneg' s0 a
      grind
    · split
      · grind
      · have a : 0 < h - m := by grind
        have b := div_nonneg' s0 a
        by_cases c : m = l
        · subst c
          have : 0 < s := by grind
          have := div_pos' this a
          exact Rat.mul_pos half_pos (by grind)
        · exact Rat.mul_pos half_pos (by grind)
theorem step_low {m s l h : Rat} (s0 : 0 ≤ s) (lh : l ≤ h) (ns : ¬ s ≤ (m - l) * (h - m)) : ¬ (l ≤ m - stepR m s l h ∧ m - stepR m s l h ≤ h) := by
  have ht := half_two
  have hp := half_pos
  unfold stepR
  split
  · rename_i c
    have e : half * (m - h) + half * (m - h) = m - h := by
      rw [← Rat.add_mul, ht, Rat.one_mul]
    have := Rat.mul_pos hp (show 0 < m - h by grind)
    grind
  · split
    · rename_i c
      have a : 0 < l - m := by grind
      have := div_nonneg' s0 a
      grind
    · split
      · grind
      · rename_i c1 c2 c3
        have a : 0 < h - m := by grind
        have k : m - l < s / (h - m) := by
          rw [Rat.lt_div_iff a]
          grind
        have e : half * ((m - l) + s / (h - m)) + half * ((m - l) + s / (h - m)) = (m - l) + s / (h - m) := by
          rw [← Rat.add_mul, ht, Rat.one_mul]
        grind
theorem step_up {m s l h : Rat} (s0 : 0 ≤ s) (lh : l ≤ h) (ns : ¬ s ≤ (m - l) * (h - m)) : ¬ (l ≤ m + s / stepR m s l h ∧ m + s / stepR m s l h ≤ h) := by
  have ht := half_two
  have hp := half_pos
  have st := step_pos s0 ns
  have q := div_nonneg' s0 st
  by_cases c1 : h < m
  · grind
  · by_cases c2 : m < l
    · have e : stepR m s l h = s / (l - m) + 1 := by
        unfold stepR
        rw [if_neg c1, if_pos c2]
      rw [e] at st q ⊢
      have a : 0 < l - m := by grind
      have k : s / (s / (l - m) + 1) < l - m := by
        rw [Rat.div_lt_iff' st]
        have := Rat.div_mul_cancel (a := s) (b := l - m) (by grind)
        grind
      grind
    · by_cases c3 : m = h
      · have : 0 < s := by
          subst c3
          grind
        have := div_pos' this st
        grind
      · have e : stepR m s l h = half * ((m - l) + s / (h - m)) := by
          unfold stepR
          rw [if_neg c1, if_neg c2, if_neg c3]
        rw [e] at st q ⊢
        have a : 0 < h - m := by grind
        have k : m - l < s / (h - m) := by
          rw [Rat.lt_div_iff a]
          grind
        have e2 : half * ((m - l) + s / (h - m)) + half * ((m - l) + s / (h - m)) = (m - l) + s / (h - m) := by
          rw [← Rat.add_mul, ht, Rat.one_mul]
        have k2 : h - m < s / (half * ((m - l) + s / (h - m))) := by
          rw [Rat.lt_div_iff st]
          have e3 := Rat.div_mul_cancel (a := s) (b := h - m) (by grind)
          generalize hz : s / (h - m) = z at *
          generalize hy : half * (m - l + z) = y at *
          have : y < z := by grind
          have := Rat.mul_lt_mul_of_pos_left this a
          grind
        grind
theorem out_facts {m s t : Rat} (s0 : 0 ≤ s) (t0 : 0 < t) : 0 < t * t + s ∧ 0 ≤ s / (t * t + s) ∧ 0 ≤ 1 - s / (t * t + s) ∧ m - t ≤ m + s / t ∧
    s / (t * t + s) * (m - t) + (1 - s / (t * t + s)) * (m + s / t) = m ∧ (m + s / t - (m - t)) * (m + s / t - (m - t)) * (s / (t * t + s) * (1 - s / (t * t + s))) = s := by
  have p : 0 < t * t + s := by
    have := Rat.mul_pos t0 t0
    grind
  have q := div_nonneg' s0 p
  have q2 := div_nonneg' s0 t0
  have e1 := Rat.div_mul_cancel (a := s) (b := t * t + s) (by grind)
  have e2 := Rat.div_mul_cancel (a := s) (b := t) (by grind)
  refine ⟨p, q, ?_, by grind, ?_, ?_⟩
  · have : s / (t * t + s) ≤ 1 := by
      rw [Rat.div_def]
      have := Rat.mul_le_mul_of_nonneg_right (show s ≤ t * t + s by have := Rat.mul_pos t0 t0; grind) (Rat.le_of_lt (Rat.inv_pos.mpr p))
      rw [Rat.mul_inv_cancel _ (by grind)] at this
      exact this
    grind
  · generalize s / (t * t + s) = x at *
    generalize s / t = y at *
    have : x * (t + y) = y := by
      have : t * (x * (t + y)) = t * y := by grind
      have h : t⁻¹ * (t * (x * (t + y))) = t⁻¹ * (t * y) := by rw [this]
      rw [← Rat.mul_assoc t⁻¹ t, ← Rat.mul_assoc t⁻¹ t, Rat.inv_mul_cancel _ (by grind), Rat.one_mul, Rat.one_mul] at h
      exact h
    grind
  · generalize s / (t * t + s) = x at *
    generalize s / t = y at *
    have k : x * (t + y) = y := by
      have : t * (x * (t + y)) = t * y := by grind
      have h : t⁻¹ * (t * (x * (t + y))) = t⁻¹ * (t * y) := by rw [this]
      rw [← Rat.mul_assoc t⁻¹ t, ← Rat.mul_assoc t⁻¹ t, Rat.inv_mul_cancel _ (by grind), Rat.one_mul, Rat.one_mul] at h
      exact h
    grind
end V3
set_option exponentiation.threshold 10000
/-! Words that stand in many laws: the well of draws, what lasts while it changes, fractions as data. -/
namespace V3
open PySem.Spec PySem L2 PyProof.Rows RZ GxR
theorem take_more {α : Type} : ∀ {l : List α} {i : Nat} {x : α}, l[i]? = some x → (l.take (i + 1) = l.take i ++ [x])
  | [], i, x, h => by simp at h
  | a :: l, 0, x, h => by
    (have e : a = x := Option.some.inj h)
    subst e
    rfl
  | a :: l, i + 1, x, h => by
    (have ih := take_more (l := l) (i := i) (x := x) h)
    (show a :: l.take (i + 1) = a :: l.take i ++ [x])
    rw [ih]
    rfl
theorem ixNat {n : Nat} {k : Int} {i : Nat} (e : k = (i : Int)) (h : i < n) : ixN n k = some i := by
  subst e
  unfold ixN
  (rw [if_pos (by omega), if_pos (by omega)])
  simp
theorem same_updN {H H' : Hp} {p : Addr} {o : HO} (s : Same H H') (h : H p = none) : Same H (upd H' p o) := fun b x e => by
  rw [upd_ne (ne_of_none e h)]
  exact s b x e
theorem dtAll_set {K : PySem.W.Frag} {H : Hp} {v : V} {d : PyData} : ∀ {vs : List V} {ds : List PyData} (i : Nat), DpTAll K H vs ds → DpT K H v d → DpTAll K H (vs.set i v) (ds.set i d)
  | _, _, _, .nil, _ => .nil
  | _, _, 0, .cons a b, h => .cons h b
  | _, _, i + 1, .cons a b, h => .cons a (dtAll_set i b h)
theorem cutV_mem {xs : List V} {lo hi : Option Int} {x : V} (h : x ∈ cutV xs lo hi) : x ∈ xs := List.mem_of_mem_drop (List.mem_of_mem_take h)
theorem tyT {K : PySem.W.Frag} {H : Hp} {a : Addr} {xs : List V} (h : SqT K H a xs) : TyX K H (.ref a) (.type "tuple") := by
  rcases h with (h | ⟨o, h⟩) | ⟨o, its, n, h1, h2, _⟩
  · exact .base (.tup h)
  · exact .fTuple h
  · exact .kTuple h1 h2
theorem tyL {K : PySem.W.Frag} {H : Hp} {a : Addr} {xs : List V} (h : SqL K H a xs) : TyX K H (.ref a) (.type "list") := by
  rcases h with (h | ⟨o, h⟩) | ⟨o, its, n, h1, h2, _⟩
  · exact .base (.lst h)
  · exact .base (.frz h)
  · exact .kList h1 h2
theorem at20 {α : Type} {x y : α} : atI [x, y] 0 = some x := atI_nat (j := 0) rfl
theorem at21 {α : Type} {x y : α} : atI [x, y] 1 = some y := atI_nat (j := 1) rfl
theorem at32 {α : Type} {x y z : α} : atI [x, y, z] 2 = some z := atI_nat (j := 2) rfl
theorem at30 {α : Type} {x y z : α} : atI [x, y, z] 0 = some x := atI_nat (j := 0) rfl
theorem at31 {α : Type} {x y z : α} : atI [x, y, z] 1 = some y := atI_nat (j := 1) rfl
theorem eqv_nil (ds : List PyData) : PyData.eqv (.list ds) (.list []) = decide (ds = []) := by
  cases ds with
  | nil => rfl
  | cons a r => rfl
/-- an item of a list, a tuple, inside of a comprehension -/
theorem ixLK {X : Cx} {K : PySem.W.Frag} (h : X.K = K) : IxR X (rIxL K) := by
  subst h
  exact ix_list
theorem ixTK {X : Cx} {K : PySem.W.Frag} (h : X.K = K) : IxR X (rIxT K) := by
  subst h
  exact ix_tup
/-! ### the well -/
def Well (H : Hp) (a : Addr) (k : Nat) : Prop := ∃ x y z : Int, H a = some (.lst [.int x, .int y, .int z]) ∧ 0 ≤ x ∧ 0 ≤ y ∧ y < 2147483647 ∧ 0 ≤ z ∧ z ≤ k
theorem Well.mono {H : Hp} {a : Addr} {k l : Nat} (h : Well H a k) (hk : k ≤ l) : Well H a l := by
  obtain ⟨x, y, z, h1, h2, h3, h4, h5, h6⟩ := h
  exact ⟨x, y, z, h1, h2, h3, h4, h5, by omega⟩
theorem Well.same {H H' : Hp} {a : Addr} {k : Nat} (h : Well H a k) (e : Same H H') : Well H' a k := by
  obtain ⟨x, y, z, h1, h2⟩ := h
  exact ⟨x, y, z, e _ _ h1, h2⟩
theorem Well.lst {H : Hp} {a : Addr} {k : Nat} (h : Well H a k) : ∃ xs, H a = some (.lst xs) := by
  obtain ⟨x, y, z, h1, _⟩ := h
  exact ⟨_, h1⟩
theorem Well.ne {H : Hp} {a p : Addr} {k : Nat} (h : Well H a k) (e : H p = none) : a ≠ p := fun z => by
  obtain ⟨xs, hx⟩ := h.lst
  rw [z, e] at hx
  cases hx
theorem Well.upd {H : Hp} {a p : Addr} {o : HO} {k : Nat} (h : Well H a k) (n : a ≠ p) : Well (L2.upd H p o) a k := by
  obtain ⟨x, y, z, h1, h2⟩ := h
  exact ⟨x, y, z, by rw [upd_ne n]; exact h1, h2⟩
theorem But.upd {P : Addr} {H H' : Hp} {o : HO} (e : But P H H') : But P H (upd H' P o) := fun b x n h => by
  rw [upd_ne n]
  exact e b x n h
theorem But.updN {P p : Addr} {H H' : Hp} {o : HO} (e : But P H H') (h : H p = none) : But P H (L2.upd H' p o) := fun b x n hb => by
  rw [upd_ne (ne_of_none hb h)]
  exact e b x n hb
theorem But.ktL {P : Addr} {H H' : Hp} {xs : List V} (h : But P H H') (hP : H P = some (.lst xs)) : KeepT H H' :=
  ⟨fun b xs e => h b _ (fun z => by rw [z, hP] at e; cases e) e, fun b o u e => h b _ (fun z => by rw [z, hP] at e; cases e) e⟩
theorem But.ktW {a : Addr} {k : Nat} {H H' : Hp} (h : But a H H') (hP : Well H a k) : KeepT H H' := by
  obtain ⟨xs, e⟩ := hP.lst
  exact h.ktL e
/-! ### fractions as data -/
def frd (x : Rat) : PyData := .tuple [.int x.num, .int (x.den : Int)]
def frO (x : Rat) : HO := .tup [.int x.num, .int (x.den : Int)]
section
variable {K : PySem.W.Frag} {H H' : Hp}
theorem fqT {v : V} {x : Rat} (h : DpT K H v (frd x)) : ∃ p, v = .ref p ∧ SqT K H p [.int x.num, .int (x.den : Int)] := dpFr (q := (x.num, (x.den : Int))) h.dp
theorem fqO {p : Addr} {x : Rat} (h : H p = some (frO x)) : DpT K H (.ref p) (frd x) := .tup (SqT.of h) (.cons (.int _) (.cons (.int _) .nil))
theorem fqI {p : Addr} {x : Rat} {a b : Int} (h : H p = some (.tup [.int a, .int b])) (e1 : x.num = a) (e2 : (x.den : Int) = b) : DpT K H (.ref p) (frd x) := by
  subst e1 e2
  exact fqO h
theorem fqSame {v : V} {x : Rat} (h : DpT K H v (frd x)) (s : Same H H') : DpT K H' v (frd x) := DpT.keep (Same.kt s) h
theorem eqv_frd (x y : Rat) : PyData.eqv (frd x) (frd y) = decide (x = y) := by
  have h : (x = y) ↔ (x.num = y.num ∧ (x.den : Int) = (y.den : Int)) := by
    constructor
    · intro h
      subst h
      exact ⟨rfl, rfl⟩
    · rintro ⟨h1, h2⟩
      exact Rat.ext h1 (by omega)
  have h2 : PyData.eqv (frd x) (frd y) = decide (x.num = y.num ∧ (x.den : Int) = (y.den : Int)) := by
    unfold frd
    simp [PyData.eqv, PyData.eqvAll]
    rfl
  rw [h2, decide_eq_decide]
  exact h.symm
theorem shaped_frd (x : Rat) : SeqAt.shaped (frd x) = true := rfl
theorem shaped_frds (qs : List Rat) : SeqAt.shaped (.list (qs.map frd)) = true := by
  have h1 : ∀ qs : List Rat, PyData.canLayAll0 (qs.map frd) = true := fun qs => by
    induction qs with
    | nil => rfl
    | cons a r ih => simp only [List.map_cons, PyData.canLayAll0, PyData.canLay0, frd, ih, Bool.and_self]
  have h2 : ∀ qs : List Rat, PyData.depthAll (qs.map frd) ≤ 1 := fun qs => by
    induction qs with
    | nil => exact Nat.zero_le _
    | cons a r ih =>
      have e : PyData.depth (frd a) = 1 := rfl
      rw [List.map_cons, PyData.depthAll, e]
      omega
  have := h2 qs
  unfold SeqAt.shaped
  rw [Bool.and_eq_true, decide_eq_true_eq, PyData.depth]
  exact ⟨by rw [PyData.canLay0]; exact h1 qs, by omega⟩
theorem fqLen {vs : List V} {qs : List Rat} (h : DpTAll K H vs (qs.map frd)) : vs.length = qs.length := by rw [dtAll_len h, List.length_map]
theorem fqGet {vs : List V} {qs : List Rat} {i : Nat} {x : Rat} (h : DpTAll K H vs (qs.map frd)) (e : qs[i]? = some x) : ∃ v, vs[i]? = some v ∧ DpT K H v (frd x) := dtAll_get h (by rw [List.getElem?_map, e]; rfl)
theorem fqGetV {vs : List V} {qs : List Rat} {i : Nat} {v : V} (h : DpTAll K H vs (qs.map frd)) (e : vs[i]? = some v) : ∃ x, qs[i]? = some x ∧ DpT K H v (frd x) := by
  obtain ⟨d, hd, hdp⟩ := dtAll_getV h e
  rw [List.getElem?_map] at hd
  obtain ⟨x, hx, rfl⟩ := Option.map_eq_some_iff.mp hd
  exact ⟨x, hx, hdp⟩
end
/-! ### promises of reckoning -/
def spFrac : Sp := fun vs H Q _ => ∃ n u : Int, vs = [.int n, .int u] ∧ 0 < u ∧ u.natAbs < 2 ^ 9000 ∧ ∀ H' p, Same H H' → H' p = some (frO (Rat.divInt n u)) → Q (.ref p) H'
def spR2 (K : PySem.W.Frag) (f : Rat → Rat → Rat) (pre : Rat → Prop) : Sp := fun vs H Q _ => ∃ (v w : V) (x y : Rat), vs = [v, w] ∧ DpT K H v (frd x) ∧ DpT K H w (frd y) ∧ Bq 4000 x ∧ Bq 4000 y ∧ pre y ∧
  ∀ H' p, Same H H' → H' p = some (frO (f x y)) → Q (.ref p) H'
def spR2b (K : PySem.W.Frag) (f : Rat → Rat → Bool) : Sp := fun vs H Q _ => ∃ (v w : V) (x y : Rat), vs = [v, w] ∧ DpT K H v (frd x) ∧ DpT K H w (frd y) ∧ Bq 4000 x ∧ Bq 4000 y ∧ Q (.bl (f x y)) H
theorem mulW4 {i j : Int} (h : i.natAbs < 2 ^ 4000) (h' : j.natAbs < 2 ^ 4000) : CMulW i j := wide_mul h h' (by decide) (by decide) (by decide)
theorem sz4 {i j : Int} (h : i.natAbs < 2 ^ 4000) (h' : j.natAbs < 2 ^ 4000) : (i * j).natAbs < 2 ^ 9000 := Nat.lt_of_lt_of_le (mulI h h') (pw (by decide))
theorem gcdP {n u : Int} (h : 0 < u) : 0 < (Int.gcd n u : Int) := by
  have : 0 < Int.gcd n u := Int.gcd_pos_of_ne_zero_right n (by omega)
  omega
theorem gcdL {n u : Int} (h : 0 < u) : (Int.gcd n u : Int) ≤ u := Int.le_of_dvd h (Int.gcd_dvd_right ..)
/-- what makes a fraction is that number -/
theorem made {n u : Int} {H : Hp} {p : Addr} (h : 0 < u) (e : H p = some (.tup [.int (n / (Int.gcd n u : Int)), .int (u / (Int.gcd n u : Int))])) : H p = some (frO (Rat.divInt n u)) := by
  rw [e]
  unfold frO
  rw [dnum h, dden h]
end V3
namespace V3
open PySem.Spec PySem L2 PyProof.Rows RZ GxR
theorem pi_listK {X : Cx} {K : PySem.W.Frag} {tg l : Expr} {tl : TE} (h : X.K = K) (hl : PE X l tl) : PI X tg l (iList K tl) := by
  subst h
  exact pi_list hl
theorem pi_tupK {X : Cx} {K : PySem.W.Frag} {tg l : Expr} {tl : TE} (h : X.K = K) (hl : PE X l tl) : PI X tg l (iTup K tl) := by
  subst h
  exact pi_tup hl
end V3
namespace V3
open PySem.Spec PySem L2 PyProof.Rows RZ GxR
def topS (i : Nat) : Stmt := PySem.Challenge.pw_rootsabove_k19_whole_outside_roots.main.body.getD i (.Pass ⟨0, 0, 0, 0⟩)
structure Gs (K : PySem.W.Frag) (mg : Str → Option Value) : Prop where
  gcd : mg "gcd" = some (.builtin "math.gcd")
  NOUGHT : ∃ p, mg "NOUGHT" = some (.ref p) ∧ ∀ H, SqT K H p [.int 0, .int 1]
  ONE : ∃ p, mg "ONE" = some (.ref p) ∧ ∀ H, SqT K H p [.int 1, .int 1]
  HALF : ∃ p, mg "HALF" = some (.ref p) ∧ ∀ H, SqT K H p [.int 1, .int 2]
  type_ : mg "type" = none
  int_ : mg "int" = none
  tuple_ : mg "tuple" = none
  bool_ : mg "bool" = none
  len : mg "len" = none
  range : mg "range" = none
  sum : mg "sum" = none
  abs : mg "abs" = none
  isinstance : mg "isinstance" = none
  all : mg "all" = none
section
variable {mg : Str → Option Value} {base : Heap} {K : PySem.W.Frag} {P : Program} {w : World}
abbrev s_fraction : Stmt := topS 7
abbrev N_fraction : List Str := ["number", "under", "shared"]
theorem sc_fraction : FnScope N_fraction ["number", "under"] (defScope s_fraction) := ⟨rfl, rfl, rfl, by decide +kernel, rfl, by decide +kernel, by decide +kernel⟩
theorem ok_fraction (T : Gs K mg) (F : At K mg "fraction" s_fraction) : Df P w K mg base "fraction" 1 ["number", "under"] spFrac := by
  have sc := sc_fraction
  refine Df.mk' F sc (fun vs H Q E h => ?_) (fun _ _ _ _ _ _ us hl => match us, hl with | [_, _], _ => rfl) (fun f cdv A outer s H vs Q E hr h => ?_)
  · obtain ⟨n, u, rfl, _⟩ := h
    rfl
  · obtain ⟨n, u, rfl, hu, su, q⟩ := h
    refine ⟨_, (pss_cons (ps_set (i := 2) sc.nd rfl (.inl rfl) (pe_callBfun cr_gcd (by rfl) T.gcd (pa_cons (pv 0) (pa_cons (pv 1) pa_nil)))) (pss_cons (ps_if (pt_cmpR op_lt (pv 1) pe_int (nomark _)) (pss_one (ps_set (i := 2) sc.nd rfl (.inl rfl) (pe_un un_neg (pv 2)))) pss_nil) (pss_one (ps_ret (pe_tup (pa_cons (pe_op op_fdivW (pv 0) (pv 2)) (pa_cons (pe_op op_fdivW (pv 1) (pv 2)) pa_nil))))))), ?_⟩
    have g0 := gcdP (n := n) hu
    have g1 := gcdL (n := n) hu
    have w : CDivW n (Int.gcd n u : Int) := wide_div g0 (b := 9000) (wide_le (by omega) g1 su) (by decide) (by decide)
    refine ⟨_, rfl, _, rfl, n, u, rfl, ?_⟩
    refine ⟨_, rfl, _, _, rfl, rfl, _, rfl, ite2 (fun e => ?_) (fun e => ?_)⟩
    · exact absurd (of_decide_eq_true e) (by omega)
    · refine ⟨_, rfl, _, rfl, _, _, rfl, rfl, w, _, rfl, _, rfl, _, _, rfl, rfl, w, by show 2 ≤ sizeLine; decide, fun p hp => ?_⟩
      exact q _ p (same_upd hp) (made hu upd_same)
abbrev s_plus : Stmt := topS 8
abbrev N_plus : List Str := ["one", "other"]
theorem sc_plus : FnScope N_plus ["one", "other"] (defScope s_plus) := ⟨rfl, rfl, rfl, by decide +kernel, rfl, by decide +kernel, by decide +kernel⟩
theorem ok_plus (D_fraction : Df P w K mg base "fraction" 1 ["number", "under"] spFrac) (F : At K mg "plus" s_plus) : Df P w K mg base "plus" 2 ["one", "other"] (spR2 K (· + ·) fun _ => True) := by
  have sc := sc_plus
  refine Df.mk' F sc (fun vs H Q E h => ?_) (fun _ _ _ _ _ _ us hl => match us, hl with | [_, _], _ => rfl) (fun f cdv A outer s H vs Q E hr h => ?_)
  · obtain ⟨v, w, x, y, rfl, _⟩ := h
    rfl
  · obtain ⟨v, w, x, y, rfl, hx, hy, sx, sy, _, q⟩ := h
    obtain ⟨p, rfl, hp⟩ := fqT hx
    obtain ⟨p', rfl, hp'⟩ := fqT hy
    refine ⟨_, (pss_one (ps_ret (pe_fn D_fraction (by decide) hr (pa_cons (pe_op op_add (pe_op op_mulW (pe_ix ix_tup (pv 0) pe_int (fun _ _ => rfl)) (pe_ix ix_tup (pv 1) pe_int (fun _ _ => rfl))) (pe_op op_mulW (pe_ix ix_tup (pv 1) pe_int (fun _ _ => rfl)) (pe_ix ix_tup (pv 0) pe_int (fun _ _ => rfl)))) (pa_cons (pe_op op_mulW (pe_ix ix_tup (pv 0) pe_int (fun _ _ => rfl)) (pe_ix ix_tup (pv 1) pe_int (fun _ _ => rfl))) pa_nil))))), ?_⟩
    refine ⟨_, rfl, _, _, _, _, rfl, rfl, hp, at20, _, rfl, _, _, _, _, rfl, rfl, hp', at21, _, _, rfl, rfl, mulW4 sx.n (natI sy.d), ?_⟩
    refine ⟨_, rfl, _, _, _, _, rfl, rfl, hp', at20, _, rfl, _, _, _, _, rfl, rfl, hp, at21, _, _, rfl, rfl, mulW4 sy.n (natI sx.d), ?_⟩
    refine ⟨_, _, rfl, rfl, ?_⟩
    refine ⟨_, rfl, _, _, _, _, rfl, rfl, hp, at21, _, rfl, _, _, _, _, rfl, rfl, hp', at21, _, _, rfl, rfl, mulW4 (natI sx.d) (natI sy.d), ?_⟩
    dsimp only at q
    rw [radd] at q
    exact ⟨_, _, rfl, Int.mul_pos (rden_pos x) (rden_pos y), sz4 (natI sx.d) (natI sy.d), q⟩
abbrev s_minus : Stmt := topS 9
abbrev N_minus : List Str := ["one", "other"]
theorem sc_minus : FnScope N_minus ["one", "other"] (defScope s_minus) := ⟨rfl, rfl, rfl, by decide +kernel, rfl, by decide +kernel, by decide +kernel⟩
theorem ok_minus (D_fraction : Df P w K mg base "fraction" 1 ["number", "under"] spFrac) (F : At K mg "minus" s_minus) : Df P w K mg base "minus" 2 ["one", "other"] (spR2 K (· - ·) fun _ => True) := by
  have sc := sc_minus
  refine Df.mk' F sc (fun vs H Q E h => ?_) (fun _ _ _ _ _ _ us hl => match us, hl with | [_, _], _ => rfl) (fun f cdv A outer s H vs Q E hr h => ?_)
  · obtain ⟨v, w, x, y, rfl, _⟩ := h
    rfl
  · obtain ⟨v, w, x, y, rfl, hx, hy, sx, sy, _, q⟩ := h
    obtain ⟨p, rfl, hp⟩ := fqT hx
    obtain ⟨p', rfl, hp'⟩ := fqT hy
    refine ⟨_, (pss_one (ps_ret (pe_fn D_fraction (by decide) hr (pa_cons (pe_op op_sub (pe_op op_mulW (pe_ix ix_tup (pv 0) pe_int (fun _ _ => rfl)) (pe_ix ix_tup (pv 1) pe_int (fun _ _ => rfl))) (pe_op op_mulW (pe_ix ix_tup (pv 1) pe_int (fun _ _ => rfl)) (pe_ix ix_tup (pv 0) pe_int (fun _ _ => rfl)))) (pa_cons (pe_op op_mulW (pe_ix ix_tup (pv 0) pe_int (fun _ _ => rfl)) (pe_ix ix_tup (pv 1) pe_int (fun _ _ => rfl))) pa_nil))))), ?_⟩
    refine ⟨_, rfl, _, _, _, _, rfl, rfl, hp, at20, _, rfl, _, _, _, _, rfl, rfl, hp', at21, _, _, rfl, rfl, mulW4 sx.n (natI sy.d), ?_⟩
    refine ⟨_, rfl, _, _, _, _, rfl, rfl, hp', at20, _, rfl, _, _, _, _, rfl, rfl, hp, at21, _, _, rfl, rfl, mulW4 sy.n (natI sx.d), ?_⟩
    refine ⟨_, _, rfl, rfl, ?_⟩
    refine ⟨_, rfl, _, _, _, _, rfl, rfl, hp, at21, _, rfl, _, _, _, _, rfl, rfl, hp', at21, _, _, rfl, rfl, mulW4 (natI sx.d) (natI sy.d), ?_⟩
    dsimp only at q
    rw [rsub] at q
    exact ⟨_, _, rfl, Int.mul_pos (rden_pos x) (rden_pos y), sz4 (natI sx.d) (natI sy.d), q⟩
abbrev s_times : Stmt := topS 10
abbrev N_times : List Str := ["one", "other"]
theorem sc_times : FnScope N_times ["one", "other"] (defScope s_times) := ⟨rfl, rfl, rfl, by decide +kernel, rfl, by decide +kernel, by decide +kernel⟩
theorem ok_times (D_fraction : Df P w K mg base "fraction" 1 ["number", "under"] spFrac) (F : At K mg "times" s_times) : Df P w K mg base "times" 2 ["one", "other"] (spR2 K (· * ·) fun _ => True) := by
  have sc := sc_times
  refine Df.mk' F sc (fun vs H Q E h => ?_) (fun _ _ _ _ _ _ us hl => match us, hl with | [_, _], _ => rfl) (fun f cdv A outer s H vs Q E hr h => ?_)
  · obtain ⟨v, w, x, y, rfl, _⟩ := h
    rfl
  · obtain ⟨v, w, x, y, rfl, hx, hy, sx, sy, _, q⟩ := h
    obtain ⟨p, rfl, hp⟩ := fqT hx
    obtain ⟨p', rfl, hp'⟩ := fqT hy
    refine ⟨_, (pss_one (ps_ret (pe_fn D_fraction (by decide) hr (pa_cons (pe_op op_mulW (pe_ix ix_tup (pv 0) pe_int (fun _ _ => rfl)) (pe_ix ix_tup (pv 1) pe_int (fun _ _ => rfl))) (pa_cons (pe_op op_mulW (pe_ix ix_tup (pv 0) pe_int (fun _ _ => rfl)) (pe_ix ix_tup (pv 1) pe_int (fun _ _ => rfl))) pa_nil))))), ?_⟩
    refine ⟨_, rfl, _, _, _, _, rfl, rfl, hp, at20, _, rfl, _, _, _, _, rfl, rfl, hp', at20, _, _, rfl, rfl, mulW4 sx.n sy.n, ?_⟩
    refine ⟨_, rfl, _, _, _, _, rfl, rfl, hp, at21, _, rfl, _, _, _, _, rfl, rfl, hp', at21, _, _, rfl, rfl, mulW4 (natI sx.d) (natI sy.d), ?_⟩
    dsimp only at q
    rw [rmul] at q
    exact ⟨_, _, rfl, Int.mul_pos (rden_pos x) (rden_pos y), sz4 (natI sx.d) (natI sy.d), q⟩
abbrev s_over : Stmt := topS 11
abbrev N_over : List Str := ["one", "other"]
theorem sc_over : FnScope N_over ["one", "other"] (defScope s_over) := ⟨rfl, rfl, rfl, by decide +kernel, rfl, by decide +kernel, by decide +kernel⟩
theorem ok_over (D_fraction : Df P w K mg base "fraction" 1 ["number", "under"] spFrac) (F : At K mg "over" s_over) : Df P w K mg base "over" 2 ["one", "other"] (spR2 K (· / ·) fun y => 0 < y) := by
  have sc := sc_over
  refine Df.mk' F sc (fun vs H Q E h => ?_) (fun _ _ _ _ _ _ us hl => match us, hl with | [_, _], _ => rfl) (fun f cdv A outer s H vs Q E hr h => ?_)
  · obtain ⟨v, w, x, y, rfl, _⟩ := h
    rfl
  · obtain ⟨v, w, x, y, rfl, hx, hy, sx, sy, y0, q⟩ := h
    obtain ⟨p, rfl, hp⟩ := fqT hx
    obtain ⟨p', rfl, hp'⟩ := fqT hy
    refine ⟨_, (pss_one (ps_ret (pe_fn D_fraction (by decide) hr (pa_cons (pe_op op_mulW (pe_ix ix_tup (pv 0) pe_int (fun _ _ => rfl)) (pe_ix ix_tup (pv 1) pe_int (fun _ _ => rfl))) (pa_cons (pe_op op_mulW (pe_ix ix_tup (pv 0) pe_int (fun _ _ => rfl)) (pe_ix ix_tup (pv 1) pe_int (fun _ _ => rfl))) pa_nil))))), ?_⟩
    refine ⟨_, rfl, _, _, _, _, rfl, rfl, hp, at20, _, rfl, _, _, _, _, rfl, rfl, hp', at21, _, _, rfl, rfl, mulW4 sx.n (natI sy.d), ?_⟩
    refine ⟨_, rfl, _, _, _, _, rfl, rfl, hp, at21, _, rfl, _, _, _, _, rfl, rfl, hp', at20, _, _, rfl, rfl, mulW4 (natI sx.d) sy.n, ?_⟩
    dsimp only at q
    rw [rdiv] at q
    exact ⟨_, _, rfl, Int.mul_pos (rden_pos x) (rnum_pos y0), sz4 (natI sx.d) sy.n, q⟩
abbrev s_is_above : Stmt := topS 12
abbrev N_is_above : List Str := ["one", "other"]
theorem sc_is_above : FnScope N_is_above ["one", "other"] (defScope s_is_above) := ⟨rfl, rfl, rfl, by decide +kernel, rfl, by decide +kernel, by decide +kernel⟩
theorem ok_is_above (F : At K mg "is_above" s_is_above) : Df P w K mg base "is_above" 1 ["one", "other"] (spR2b K fun x y => decide (y < x)) := by
  have sc := sc_is_above
  refine Df.mk' F sc (fun vs H Q E h => ?_) (fun _ _ _ _ _ _ us hl => match us, hl with | [_, _], _ => rfl) (fun f cdv A outer s H vs Q E hr h => ?_)
  · obtain ⟨v, w, x, y, rfl, _⟩ := h
    rfl
  · obtain ⟨v, w, x, y, rfl, hx, hy, sx, sy, q⟩ := h
    obtain ⟨p, rfl, hp⟩ := fqT hx
    obtain ⟨p', rfl, hp'⟩ := fqT hy
    refine ⟨_, (pss_one (ps_ret (pe_cmpR op_gt (pe_op op_mulW (pe_ix ix_tup (pv 0) pe_int (fun _ _ => rfl)) (pe_ix ix_tup (pv 1) pe_int (fun _ _ => rfl))) (pe_op op_mulW (pe_ix ix_tup (pv 1) pe_int (fun _ _ => rfl)) (pe_ix ix_tup (pv 0) pe_int (fun _ _ => rfl))) (nomark _)))), ?_⟩
    refine ⟨_, rfl, _, _, _, _, rfl, rfl, hp, at20, _, rfl, _, _, _, _, rfl, rfl, hp', at21, _, _, rfl, rfl, mulW4 sx.n (natI sy.d), ?_⟩
    refine ⟨_, rfl, _, _, _, _, rfl, rfl, hp', at20, _, rfl, _, _, _, _, rfl, rfl, hp, at21, _, _, rfl, rfl, mulW4 sy.n (natI sx.d), ?_⟩
    dsimp only at q
    rw [← rlt] at q
    exact ⟨_, _, rfl, rfl, q⟩
abbrev s_is_whole : Stmt := topS 14
abbrev N_is_whole : List Str := ["value"]
theorem sc_is_whole : FnScope N_is_whole ["value"] (defScope s_is_whole) := ⟨rfl, rfl, rfl, by decide +kernel, rfl, by decide +kernel, by decide +kernel⟩
def spWhole (K : PySem.W.Frag) : Sp := fun vs H Q _ => ∃ v T, vs = [v] ∧ TyB K H v T ∧ Q (.bl (decide (T = "int"))) H
theorem ok_is_whole (T : Gs K mg) (F : At K mg "is_whole" s_is_whole) : Df P w K mg base "is_whole" 1 ["value"] (spWhole K) := by
  have sc := sc_is_whole
  refine Df.mk' F sc (fun vs H Q E h => ?_) (fun _ _ _ _ _ _ us hl => match us, hl with | [_], _ => rfl) (fun f cdv A outer s H vs Q E hr h => ?_)
  · obtain ⟨v, T, rfl, _⟩ := h
    rfl
  · obtain ⟨v, Ty, rfl, ty, q⟩ := h
    refine ⟨_, (pss_one (ps_ret (pe_cmpR op_isTyB (pe_callTy call_type1 (by rfl) T.type_ (by decide +kernel) (pa_cons (pv 0) pa_nil)) (pe_bltn (v := .ty "int") (by rfl) T.int_ (by decide +kernel) rfl) (nomark _)))), ?_⟩
    exact ⟨_, rfl, _, _, rfl, ty, _, _, rfl, rfl, q⟩
abbrev s_is_tuple_of : Stmt := topS 15
abbrev N_is_tuple_of : List Str := ["value", "size"]
theorem sc_is_tuple_of : FnScope N_is_tuple_of ["value", "size"] (defScope s_is_tuple_of) := ⟨rfl, rfl, rfl, by decide +kernel, rfl, by decide +kernel, by decide +kernel⟩
def spTupOf (K : PySem.W.Frag) : Sp := fun vs H Q _ => ∃ (a : Addr) (xs : List V) (n : Int), vs = [.ref a, .int n] ∧ SqT K H a xs ∧ Q (.bl (decide ((xs.length : Int) = n))) H
theorem ok_is_tuple_of (T : Gs K mg) (F : At K mg "is_tuple_of" s_is_tuple_of) : Df P w K mg base "is_tuple_of" 1 ["value", "size"] (spTupOf K) := by
  have sc := sc_is_tuple_of
  refine Df.mk' F sc (fun vs H Q E h => ?_) (fun _ _ _ _ _ _ us hl => match us, hl with | [_, _], _ => rfl) (fun f cdv A outer s H vs Q E hr h => ?_)
  · obtain ⟨a, xs, n, rfl, _⟩ := h
    rfl
  · obtain ⟨a, xs, n, rfl, ha, q⟩ := h
    refine ⟨_, (pss_one (ps_ret (pe_and (pe_cmpR op_isTyB (pe_callTy call_type1 (by rfl) T.type_ (by decide +kernel) (pa_cons (pv 0) pa_nil)) (pe_bltn (v := .ty "tuple") (by rfl) T.tuple_ (by decide +kernel) rfl) (nomark _)) (pe_one (pe_cmpR op_eq (pe_callB call_len_seq (by rfl) T.len PySem.boot_len (pa_cons (pv 0) pa_nil)) (pv 1) (nomark _)))))), ?_⟩
    refine ⟨_, rfl, _, _, rfl, .tup ha, _, _, rfl, rfl, _, rfl, ifT (by decide) ?_⟩
    refine ⟨_, rfl, _, _, rfl, .inr ha, _, rfl, rfl, ?_⟩
    have ee : decide (V.int (xs.length : Int) = V.int n) = decide ((xs.length : Int) = n) := by simp
    rw [← ee] at q
    exact q
abbrev s_is_fraction : Stmt := topS 16
abbrev N_is_fraction : List Str := ["value", "number", "under"]
theorem sc_is_fraction : FnScope N_is_fraction ["value"] (defScope s_is_fraction) := ⟨rfl, rfl, rfl, by decide +kernel, rfl, by decide +kernel, by decide +kernel⟩
def spIsFr (K : PySem.W.Frag) : Sp := fun vs H Q _ => ∃ v x, vs = [v] ∧ DpT K H v (frd x) ∧ Q (.bl true) H
theorem ok_is_fraction (T : Gs K mg) (D_is_whole : Df P w K mg base "is_whole" 1 ["value"] (spWhole K)) (D_is_tuple_of : Df P w K mg base "is_tuple_of" 1 ["value", "size"] (spTupOf K)) (F : At K mg "is_fraction" s_is_fraction) :
    Df P w K mg base "is_fraction" 2 ["value"] (spIsFr K) := by
  have sc := sc_is_fraction
  refine Df.mk' F sc (fun vs H Q E h => ?_) (fun _ _ _ _ _ _ us hl => match us, hl with | [_], _ => rfl) (fun f cdv A outer s H vs Q E hr h => ?_)
  · obtain ⟨a, q, rfl, _⟩ := h
    rfl
  · obtain ⟨v, x, rfl, hx, q⟩ := h
    obtain ⟨p, rfl, hp⟩ := fqT hx
    refine ⟨_, (pss_cons (ps_if (pt_not (pt_val (pe_fn D_is_tuple_of (by decide) hr (pa_cons (pv 0) (pa_cons pe_int pa_nil))))) (pss_one (ps_ret pe_bl)) pss_nil) (pss_cons (ps_asg (pv 0) (pg_tup rfl (pgs_cons (pg_name (i := 1) sc.nd rfl (.inl rfl)) (pgs_cons (pg_name (i := 2) sc.nd rfl (.inl rfl)) pgs_nil)))) (pss_one (ps_ret (pe_and (pe_fn D_is_whole (by decide) hr (pa_cons (pv 1) pa_nil)) (pe_and (pe_fn D_is_whole (by decide) hr (pa_cons (pv 2) pa_nil)) (pe_and (pe_cmpR op_gt (pv 2) pe_int (nomark _)) (pe_one (pe_cmpR op_eq (pe_callBfun cr_gcd (by rfl) T.gcd (pa_cons (pv 1) (pa_cons (pv 2) pa_nil))) pe_int (nomark _)))))))))), ?_⟩
    refine ⟨_, rfl, _, _, _, rfl, hp, _, rfl, ifF rfl ?_⟩
    refine ⟨_, rfl, _, _, rfl, hp, rfl, _, _, rfl, _, _, rfl, rfl, ?_⟩
    refine ⟨_, rfl, _, _, rfl, .int _, _, rfl, ifT (by decide) ?_⟩
    refine ⟨_, rfl, _, _, rfl, .int _, _, rfl, ifT (by decide) ?_⟩
    refine ⟨_, rfl, _, _, rfl, rfl, _, rfl, ifT (decide_eq_true (rden_pos x)) ?_⟩
    (refine ⟨_, rfl, _, rfl, _, _, rfl, rfl, ?_⟩)
    have e : (Nat.gcd x.num.natAbs (x.den : Int).natAbs : Nat) = 1 := by
      rw [Int.natAbs_natCast]
      exact x.reduced
    rw [e]
    exact q
abbrev s_check_fraction : Stmt := topS 17
abbrev N_check_fraction : List Str := ["number"]
theorem sc_check_fraction : FnScope N_check_fraction ["number"] (defScope s_check_fraction) := ⟨rfl, rfl, rfl, by decide +kernel, rfl, by decide +kernel, by decide +kernel⟩
def spCheck (K : PySem.W.Frag) : Sp := fun vs H Q _ => ∃ v x, vs = [v] ∧ DpT K H v (frd x) ∧ Q .non H
theorem ok_check_fraction (D_is_fraction : Df P w K mg base "is_fraction" 2 ["value"] (spIsFr K)) (F : At K mg "check_fraction" s_check_fraction) : Df P w K mg base "check_fraction" 3 ["number"] (spCheck K) := by
  have sc := sc_check_fraction
  refine Df.mk' F sc (fun vs H Q E h => ?_) (fun _ _ _ _ _ _ us hl => match us, hl with | [_], _ => rfl) (fun f cdv A outer s H vs Q E hr h => ?_)
  · obtain ⟨a, q, rfl, _⟩ := h
    rfl
  · obtain ⟨v, x, rfl, hx, q⟩ := h
    refine ⟨_, (pss_one (ps_if (pt_not (pt_val (pe_fn D_is_fraction (by decide) hr (pa_cons (pv 0) pa_nil)))) (pss_one ps_never) pss_nil)), ?_⟩
    refine ⟨_, rfl, _, x, rfl, hx, _, rfl, ifF rfl ?_⟩
    exact q
abbrev s_check_fraction_from : Stmt := topS 18
abbrev N_check_fraction_from : List Str := ["number", "least"]
theorem sc_check_fraction_from : FnScope N_check_fraction_from ["number", "least"] (defScope s_check_fraction_from) := ⟨rfl, rfl, rfl, by decide +kernel, rfl, by decide +kernel, by decide +kernel⟩
def spCheckFrom (K : PySem.W.Frag) : Sp := fun vs H Q _ => ∃ v w x y, vs = [v, w] ∧ DpT K H v (frd x) ∧ DpT K H w (frd y) ∧ Bq 4000 x ∧ Bq 4000 y ∧ y ≤ x ∧ Q .non H
theorem ok_check_fraction_from (D_is_fraction : Df P w K mg base "is_fraction" 2 ["value"] (spIsFr K)) (D_is_above : Df P w K mg base "is_above" 1 ["one", "other"] (spR2b K fun x y => decide (y < x)))
    (F : At K mg "check_fraction_from" s_check_fraction_from) : Df P w K mg base "check_fraction_from" 3 ["number", "least"] (spCheckFrom K) := by
  have sc := sc_check_fraction_from
  refine Df.mk' F sc (fun vs H Q E h => ?_) (fun _ _ _ _ _ _ us hl => match us, hl with | [_, _], _ => rfl) (fun f cdv A outer s H vs Q E hr h => ?_)
  · obtain ⟨a, q, x, y, rfl, _⟩ := h
    rfl
  · obtain ⟨v, w, x, y, rfl, hx, hy, sx, sy, le, q⟩ := h
    refine ⟨_, (pss_one (ps_if (PW.pt (pw_or (pt_not (pt_val (pe_fn D_is_fraction (by decide) hr (pa_cons (pv 0) pa_nil)))) (pw_or1 (pt_val (pe_fn D_is_above (by decide) hr (pa_cons (pv 1) (pa_cons (pv 0) pa_nil))))))) (pss_one ps_never) pss_nil)), ?_⟩
    refine ⟨_, rfl, _, x, rfl, hx, _, rfl, ifF rfl ?_⟩
    refine ⟨_, rfl, _, rfl, _, _, y, x, rfl, hy, hx, sy, sx, _, rfl, ifF ?_ q⟩
    have : ¬ x < y := by grind
    simp [this]
abbrev s_check_told : Stmt := topS 21
abbrev N_check_told : List Str := ["mean", "spread"]
theorem sc_check_told : FnScope N_check_told ["mean", "spread"] (defScope s_check_told) := ⟨rfl, rfl, rfl, by decide +kernel, rfl, by decide +kernel, by decide +kernel⟩
def spCheckTold (K : PySem.W.Frag) : Sp := fun vs H Q _ => ∃ v w x y, vs = [v, w] ∧ DpT K H v (frd x) ∧ DpT K H w (frd y) ∧ Bq 4000 x ∧ Bq 4000 y ∧ 0 ≤ y ∧ Q .non H
theorem bq0 : Bq 4000 0 := ⟨by decide +kernel, by decide +kernel⟩
theorem ok_check_told (T : Gs K mg) (D_check_fraction : Df P w K mg base "check_fraction" 3 ["number"] (spCheck K)) (D_check_fraction_from : Df P w K mg base "check_fraction_from" 3 ["number", "least"] (spCheckFrom K))
    (F : At K mg "check_told" s_check_told) : Df P w K mg base "check_told" 4 ["mean", "spread"] (spCheckTold K) := by
  have sc := sc_check_told
  obtain ⟨pN, gN, hN⟩ := T.NOUGHT
  refine Df.mk' F sc (fun vs H Q E h => ?_) (fun _ _ _ _ _ _ us hl => match us, hl with | [_, _], _ => rfl) (fun f cdv A outer s H vs Q E hr h => ?_)
  · obtain ⟨a, q, x, y, rfl, _⟩ := h
    rfl
  · obtain ⟨v, w, x, y, rfl, hx, hy, sx, sy, y0, q⟩ := h
    refine ⟨_, (pss_cons (ps_expr (pe_fn D_check_fraction (by decide) hr (pa_cons (pv 0) pa_nil))) (pss_one (ps_expr (pe_fn D_check_fraction_from (by decide) hr (pa_cons (pv 1) (pa_cons (pe_glob (v := .ref pN) (by rfl) gN rfl) pa_nil)))))), ?_⟩
    refine ⟨_, rfl, _, x, rfl, hx, ?_⟩
    exact ⟨_, rfl, _, _, y, 0, rfl, hy, .tup (hN H) (.cons (.int 0) (.cons (.int 1) .nil)), sy, bq0, y0, q⟩
abbrev s_check_told_stretch : Stmt := topS 22
abbrev N_check_told_stretch : List Str := ["mean", "spread", "low", "high"]
theorem sc_check_told_stretch : FnScope N_check_told_stretch ["mean", "spread", "low", "high"] (defScope s_check_told_stretch) := ⟨rfl, rfl, rfl, by decide +kernel, rfl, by decide +kernel, by decide +kernel⟩
structure Oa (m s l h : Rat) : Prop where
  bm : Bq 20 m
  bs : Bq 40 s
  bl : Bq 140 l
  bh : Bq 140 h
  s0 : 0 ≤ s
  lh : l ≤ h
def spCheckStretch (K : PySem.W.Frag) : Sp := fun vs H Q _ => ∃ (v1 v2 v3 v4 : V) (m s l h : Rat), vs = [v1, v2, v3, v4] ∧ DpT K H v1 (frd m) ∧ DpT K H v2 (frd s) ∧ DpT K H v3 (frd l) ∧ DpT K H v4 (frd h) ∧ Oa m s l h ∧ Q .non H
theorem ok_check_told_stretch (D_check_told : Df P w K mg base "check_told" 4 ["mean", "spread"] (spCheckTold K)) (D_check_fraction : Df P w K mg base "check_fraction" 3 ["number"] (spCheck K)) (D_check_fraction_from : Df P w K mg base "check_fraction_from" 3 ["number", "least"] (spCheckFrom K))
    (F : At K mg "check_told_stretch" s_check_told_stretch) : Df P w K mg base "check_told_stretch" 5 ["mean", "spread", "low", "high"] (spCheckStretch K) := by
  have sc := sc_check_told_stretch
  refine Df.mk' F sc (fun vs H Q E h => ?_) (fun _ _ _ _ _ _ us hl => match us, hl with | [_, _, _, _], _ => rfl) (fun f cdv A outer s H vs Q E hr h => ?_)
  · obtain ⟨v1, v2, v3, v4, m, s, l, h, rfl, _⟩ := h
    rfl
  · obtain ⟨v1, v2, v3, v4, m, s, l, h, rfl, d1, d2, d3, d4, o, q⟩ := h
    refine ⟨_, (pss_cons (ps_expr (pe_fn D_check_told (by decide) hr (pa_cons (pv 0) (pa_cons (pv 1) pa_nil)))) (pss_cons (ps_expr (pe_fn D_check_fraction (by decide) hr (pa_cons (pv 2) pa_nil))) (pss_one (ps_expr (pe_fn D_check_fraction_from (by decide) hr (pa_cons (pv 3) (pa_cons (pv 2) pa_nil))))))), ?_⟩
    refine ⟨_, rfl, _, rfl, _, _, m, s, rfl, d1, d2, o.bm.mono (by decide), o.bs.mono (by decide), o.s0, ?_⟩
    refine ⟨_, rfl, _, l, rfl, d3, ?_⟩
    exact ⟨_, rfl, _, rfl, _, _, h, l, rfl, d4, d3, o.bh.mono (by decide), o.bl.mono (by decide), o.lh, q⟩
abbrev s_is_sure : Stmt := topS 23
abbrev N_is_sure : List Str := ["mean", "spread", "low", "high"]
theorem sc_is_sure : FnScope N_is_sure ["mean", "spread", "low", "high"] (defScope s_is_sure) := ⟨rfl, rfl, rfl, by decide +kernel, rfl, by decide +kernel, by decide +kernel⟩
def spSure (K : PySem.W.Frag) : Sp := fun vs H Q _ => ∃ (v1 v2 v3 v4 : V) (m s l h : Rat), vs = [v1, v2, v3, v4] ∧ DpT K H v1 (frd m) ∧ DpT K H v2 (frd s) ∧ DpT K H v3 (frd l) ∧ DpT K H v4 (frd h) ∧ Oa m s l h ∧ ∀ H', Same H H' → Q (.bl (sureR m s l h)) H'
theorem ok_is_sure (D_is_above : Df P w K mg base "is_above" 1 ["one", "other"] (spR2b K fun x y => decide (y < x))) (D_times : Df P w K mg base "times" 2 ["one", "other"] (spR2 K (· * ·) fun _ => True)) (D_minus : Df P w K mg base "minus" 2 ["one", "other"] (spR2 K (· - ·) fun _ => True))
    (F : At K mg "is_sure" s_is_sure) : Df P w K mg base "is_sure" 3 ["mean", "spread", "low", "high"] (spSure K) := by
  have sc := sc_is_sure
  refine Df.mk' F sc (fun vs H Q E h => ?_) (fun _ _ _ _ _ _ us hl => match us, hl with | [_, _, _, _], _ => rfl) (fun f cdv A outer s H vs Q E hr h => ?_)
  · obtain ⟨v1, v2, v3, v4, m, s, l, h, rfl, _⟩ := h
    rfl
  · obtain ⟨v1, v2, v3, v4, m, s, l, h, rfl, d1, d2, d3, d4, o, q⟩ := h
    refine ⟨_, (pss_one (ps_ret (pe_not (pe_fn D_is_above (by decide) hr (pa_cons (pv 1) (pa_cons (pe_fn D_times (by decide) hr (pa_cons (pe_fn D_minus (by decide) hr (pa_cons (pv 0) (pa_cons (pv 2) pa_nil))) (pa_cons (pe_fn D_minus (by decide) hr (pa_cons (pv 3) (pa_cons (pv 0) pa_nil))) pa_nil))) pa_nil)))))), ?_⟩
    refine ⟨_, rfl, ?_⟩
    refine ⟨_, rfl, _, rfl, _, _, m, l, rfl, d1, d3, o.bm.mono (by decide), o.bl.mono (by decide), .intro, fun H1 p1 s1 h1 => ?_⟩
    refine ⟨_, rfl, _, rfl, _, _, h, m, rfl, fqSame d4 s1, fqSame d1 s1, o.bh.mono (by decide), o.bm.mono (by decide), .intro, fun H2 p2 s2 h2 => ?_⟩
    refine ⟨_, _, m - l, h - m, rfl, fqSame (fqO h1) s2, fqO h2, o.bm.sub o.bl (by decide), o.bh.sub o.bm (by decide), .intro, fun H3 p3 s3 h3 => ?_⟩
    have b1 : Bq 161 (m - l) := o.bm.sub o.bl (by decide)
    have b2 : Bq 161 (h - m) := o.bh.sub o.bm (by decide)
    refine ⟨_, _, s, (m - l) * (h - m), rfl, fqSame d2 ((s1.trans s2).trans s3), fqO h3, o.bs.mono (by decide), b1.mul b2 (by decide), ?_⟩
    have e : sureR m s l h = !(decide ((m - l) * (h - m) < s)) := by
      unfold sureR
      by_cases c : s ≤ (m - l) * (h - m)
      · have : ¬ (m - l) * (h - m) < s := by grind
        simp [c, this]
      · have : (m - l) * (h - m) < s := by grind
        simp [c, this]
    rw [e] at q
    exact ⟨_, rfl, q H3 ((s1.trans s2).trans s3)⟩
end
end V3
namespace V3
open PySem.Spec PySem L2 PyProof.Rows RZ GxR
section
variable {mg : Str → Option Value} {base : Heap} {K : PySem.W.Frag} {P : Program} {w : World}
theorem half_q : (half.num = 1) ∧ (half.den : Int) = 2 := by decide +kernel
theorem bqHalf : Bq 2 half := ⟨by decide +kernel, by decide +kernel⟩
theorem bqOne : Bq 1 1 := ⟨by decide +kernel, by decide +kernel⟩
theorem bq_step {m s l h : Rat} (o : Oa m s l h) : Bq 420 (stepR m s l h) := by
  have b1 : Bq 161 (m - l) := o.bm.sub o.bl (by decide)
  have b2 : Bq 161 (h - m) := o.bh.sub o.bm (by decide)
  have b3 : Bq 161 (m - h) := o.bm.sub o.bh (by decide)
  have b4 : Bq 161 (l - m) := o.bl.sub o.bm (by decide)
  unfold stepR
  split
  · exact bqHalf.mul b3 (by decide)
  · split
    · rename_i c
      have p : 0 < l - m := by grind
      exact (o.bs.div b4 p (Nat.le_refl _)).add bqOne (by decide)
    · split
      · exact b1.add bqOne (by decide)
      · have p : 0 < h - m := by grind
        exact bqHalf.mul (b1.add (o.bs.div b2 p (Nat.le_refl _)) (Nat.le_refl _)) (by decide)
abbrev s_step_down : Stmt := topS 25
abbrev N_step_down : List Str := ["mean", "spread", "low", "high", "least"]
theorem sc_step_down : FnScope N_step_down ["mean", "spread", "low", "high"] (defScope s_step_down) := ⟨rfl, rfl, rfl, by decide +kernel, rfl, by decide +kernel, by decide +kernel⟩
def spStep (K : PySem.W.Frag) : Sp := fun vs H Q _ => ∃ (v1 v2 v3 v4 : V) (m s l h : Rat), vs = [v1, v2, v3, v4] ∧ DpT K H v1 (frd m) ∧ DpT K H v2 (frd s) ∧ DpT K H v3 (frd l) ∧ DpT K H v4 (frd h) ∧ Oa m s l h ∧
  ∀ H' p, Same H H' → H' p = some (frO (stepR m s l h)) → Q (.ref p) H'
theorem ok_step_down (T : Gs K mg) (D_is_above : Df P w K mg base "is_above" 1 ["one", "other"] (spR2b K fun x y => decide (y < x))) (D_times : Df P w K mg base "times" 2 ["one", "other"] (spR2 K (· * ·) fun _ => True)) (D_minus : Df P w K mg base "minus" 2 ["one", "other"] (spR2 K (· - ·) fun _ => True))
    (D_plus : Df P w K mg base "plus" 2 ["one", "other"] (spR2 K (· + ·) fun _ => True)) (D_over : Df P w K mg base "over" 2 ["one", "other"] (spR2 K (· / ·) fun y => 0 < y))
    (F : At K mg "step_down" s_step_down) : Df P w K mg base "step_down" 3 ["mean", "spread", "low", "high"] (spStep K) := by
  have sc := sc_step_down
  obtain ⟨pO, gO, hO⟩ := T.ONE
  obtain ⟨pH, gH, hH⟩ := T.HALF
  refine Df.mk' F sc (fun vs H Q E h => ?_) (fun _ _ _ _ _ _ us hl => match us, hl with | [_, _, _, _], _ => rfl) (fun f cdv A outer s H vs Q E hr h => ?_)
  · obtain ⟨v1, v2, v3, v4, m, s, l, h, rfl, _⟩ := h
    rfl
  · obtain ⟨v1, v2, v3, v4, m, s, l, h, rfl, d1, d2, d3, d4, o, q⟩ := h
    refine ⟨_, (pss_cons (ps_if (pt_val (pe_fn D_is_above (by decide) hr (pa_cons (pv 0) (pa_cons (pv 3) pa_nil)))) (pss_one (ps_ret (pe_fn D_times (by decide) hr (pa_cons (pe_glob (v := .ref pH) (by rfl) gH rfl) (pa_cons (pe_fn D_minus (by decide) hr (pa_cons (pv 0) (pa_cons (pv 3) pa_nil))) pa_nil))))) pss_nil) (pss_cons (ps_if (pt_val (pe_fn D_is_above (by decide) hr (pa_cons (pv 2) (pa_cons (pv 0) pa_nil)))) (pss_one (ps_ret (pe_fn D_plus (by decide) hr (pa_cons (pe_fn D_over (by decide) hr (pa_cons (pv 1) (pa_cons (pe_fn D_minus (by decide) hr (pa_cons (pv 2) (pa_cons (pv 0) pa_nil))) pa_nil))) (pa_cons (pe_glob (v := .ref pO) (by rfl) gO rfl) pa_nil))))) pss_nil) (pss_cons (ps_set (i := 4) sc.nd rfl (.inl rfl) (pe_fn D_minus (by decide) hr (pa_cons (pv 0) (pa_cons (pv 2) pa_nil)))) (pss_cons (ps_if (pt_cmpR (op_eqD hr.units) (pv 0) (pv 3) (nomark _)) (pss_one (ps_ret (pe_fn D_plus (by decide) hr (pa_cons (pv 4) (pa_cons (pe_glob (v := .ref pO) (by rfl) gO rfl) pa_nil))))) pss_nil) (pss_one (ps_ret (pe_fn D_times (by decide) hr (pa_cons (pe_glob (v := .ref pH) (by rfl) gH rfl) (pa_cons (pe_fn D_plus (by decide) hr (pa_cons (pv 4) (pa_cons (pe_fn D_over (by decide) hr (pa_cons (pv 1) (pa_cons (pe_fn D_minus (by decide) hr (pa_cons (pv 3) (pa_cons (pv 0) pa_nil))) pa_nil))) pa_nil))) pa_nil))))))))), ?_⟩
    have b1 : Bq 161 (m - l) := o.bm.sub o.bl (by decide)
    have b2 : Bq 161 (h - m) := o.bh.sub o.bm (by decide)
    have b3 : Bq 161 (m - h) := o.bm.sub o.bh (by decide)
    have b4 : Bq 161 (l - m) := o.bl.sub o.bm (by decide)
    have m4 : Bq 4000 m := o.bm.mono (by decide)
    have s4 : Bq 4000 s := o.bs.mono (by decide)
    have l4 : Bq 4000 l := o.bl.mono (by decide)
    have h4 : Bq 4000 h := o.bh.mono (by decide)
    have dOne : ∀ {H' : Hp}, DpT K H' (.ref pO) (frd 1) := fun {H'} => .tup (hO H') (.cons (.int _) (.cons (.int _) .nil))
    have dHalf : ∀ {H' : Hp}, DpT K H' (.ref pH) (frd half) := fun {H'} => by
      have e := half_q
      refine .tup (xs := [.int half.num, .int (half.den : Int)]) ?_ (.cons (.int _) (.cons (.int _) .nil))
      rw [e.1, e.2]
      exact hH H'
    unfold stepR at q
    refine ⟨_, rfl, _, rfl, _, _, m, h, rfl, d1, d4, m4, h4, _, rfl, if2 (fun c => ?_) (fun c => ?_)⟩
    · have c1 : h < m := of_decide_eq_true c
      rw [if_pos c1] at q
      refine ⟨_, rfl, _, rfl, _, _, m, h, rfl, d1, d4, m4, h4, .intro, fun H1 p1 s1 h1 => ?_⟩
      exact ⟨_, _, half, m - h, rfl, dHalf, fqO h1, bqHalf.mono (by decide), b3.mono (by decide), .intro, fun H2 p2 s2 h2 => q H2 p2 (s1.trans s2) h2⟩
    · have c1 : ¬ h < m := of_decide_eq_false c
      rw [if_neg c1] at q
      refine ⟨_, rfl, _, rfl, _, _, l, m, rfl, d3, d1, l4, m4, _, rfl, if2 (fun c => ?_) (fun c => ?_)⟩
      · have c2 : m < l := of_decide_eq_true c
        rw [if_pos c2] at q
        refine ⟨_, rfl, _, rfl, _, rfl, _, _, l, m, rfl, d3, d1, l4, m4, .intro, fun H1 p1 s1 h1 => ?_⟩
        have p : 0 < l - m := by grind
        refine ⟨_, _, s, l - m, rfl, fqSame d2 s1, fqO h1, s4, b4.mono (by decide), p, fun H2 p2 s2 h2 => ?_⟩
        refine ⟨_, _, s / (l - m), 1, rfl, fqO h2, dOne, o.bs.div b4 p (by decide), bqOne.mono (by decide), .intro, fun H3 p3 s3 h3 => ?_⟩
        exact q H3 p3 ((s1.trans s2).trans s3) h3
      · have c2 : ¬ m < l := of_decide_eq_false c
        rw [if_neg c2] at q
        refine ⟨_, rfl, _, rfl, _, _, m, l, rfl, d1, d3, m4, l4, .intro, fun H1 p1 s1 h1 => ?_⟩
        refine ⟨_, rfl, _, rfl, frd m, frd h, (fqSame d1 s1).dp, (fqSame d4 s1).dp, shaped_frd m, shaped_frd h, _, rfl, ?_⟩
        rw [eqv_frd]
        refine if2 (fun c => ?_) (fun c => ?_)
        · have c3 : m = h := of_decide_eq_true c
          rw [if_pos c3] at q
          exact ⟨_, rfl, _, _, m - l, 1, rfl, fqO h1, dOne, b1.mono (by decide), bqOne.mono (by decide), .intro, fun H3 p3 s3 h3 => q H3 p3 (s1.trans s3) h3⟩
        · have c3 : ¬ m = h := of_decide_eq_false c
          rw [if_neg c3] at q
          have p : 0 < h - m := by grind
          refine ⟨_, rfl, _, rfl, _, rfl, _, rfl, _, _, h, m, rfl, fqSame d4 s1, fqSame d1 s1, h4, m4, .intro, fun H2 p2 s2 h2 => ?_⟩
          refine ⟨_, _, s, h - m, rfl, fqSame d2 (s1.trans s2), fqO h2, s4, b2.mono (by decide), p, fun H3 p3 s3 h3 => ?_⟩
          refine ⟨_, _, m - l, s / (h - m), rfl, fqSame (fqO h1) (s2.trans s3), fqO h3, b1.mono (by decide), o.bs.div b2 p (by decide), .intro, fun H4 p4' s4' h4' => ?_⟩
          have b5 : Bq 201 (s / (h - m)) := o.bs.div b2 p (by decide)
          exact ⟨_, _, half, m - l + s / (h - m), rfl, dHalf, fqO h4', bqHalf.mono (by decide), b1.add b5 (by decide), .intro, fun H5 p5 s5 h5 => q H5 p5 (((s1.trans s2).trans (s3.trans s4')).trans s5) h5⟩
abbrev s_outside : Stmt := topS 24
abbrev N_outside : List Str := ["mean", "spread", "low", "high", "step", "share"]
theorem sc_outside : FnScope N_outside ["mean", "spread", "low", "high"] (defScope s_outside) := ⟨rfl, rfl, rfl, by decide +kernel, rfl, by decide +kernel, by decide +kernel⟩
def spOutside (K : PySem.W.Frag) : Sp := fun vs H Q _ => ∃ (v1 v2 v3 v4 : V) (m s l h : Rat), vs = [v1, v2, v3, v4] ∧ DpT K H v1 (frd m) ∧ DpT K H v2 (frd s) ∧ DpT K H v3 (frd l) ∧ DpT K H v4 (frd h) ∧ Oa m s l h ∧
  (sureR m s l h = true → ∀ H', Same H H' → Q .non H') ∧
  (sureR m s l h = false → ∀ H' p p1 p2 p3, Same H H' → H' p = some (.tup [.ref p1, .ref p2, .ref p3]) → H' p1 = some (frO (m - stepR m s l h)) → H' p2 = some (frO (m + s / stepR m s l h)) →
    H' p3 = some (frO (s / (stepR m s l h * stepR m s l h + s))) → Q (.ref p) H')
theorem ok_outside (D_check_told_stretch : Df P w K mg base "check_told_stretch" 5 ["mean", "spread", "low", "high"] (spCheckStretch K)) (D_is_sure : Df P w K mg base "is_sure" 3 ["mean", "spread", "low", "high"] (spSure K))
    (D_step_down : Df P w K mg base "step_down" 3 ["mean", "spread", "low", "high"] (spStep K)) (D_times : Df P w K mg base "times" 2 ["one", "other"] (spR2 K (· * ·) fun _ => True)) (D_minus : Df P w K mg base "minus" 2 ["one", "other"] (spR2 K (· - ·) fun _ => True))
    (D_plus : Df P w K mg base "plus" 2 ["one", "other"] (spR2 K (· + ·) fun _ => True)) (D_over : Df P w K mg base "over" 2 ["one", "other"] (spR2 K (· / ·) fun y => 0 < y))
    (F : At K mg "outside" s_outside) : Df P w K mg base "outside" 6 ["mean", "spread", "low", "high"] (spOutside K) := by
  have sc := sc_outside
  refine Df.mk' F sc (fun vs H Q E h => ?_) (fun _ _ _ _ _ _ us hl => match us, hl with | [_, _, _, _], _ => rfl) (fun f cdv A outer s H vs Q E hr h => ?_)
  · obtain ⟨v1, v2, v3, v4, m, s, l, h, rfl, _⟩ := h
    rfl
  · obtain ⟨v1, v2, v3, v4, m, s, l, h, rfl, d1, d2, d3, d4, o, q1, q2⟩ := h
    refine ⟨_, (pss_cons (ps_expr (pe_fn D_check_told_stretch (by decide) hr (pa_cons (pv 0) (pa_cons (pv 1) (pa_cons (pv 2) (pa_cons (pv 3) pa_nil)))))) (pss_cons (ps_if (pt_val (pe_fn D_is_sure (by decide) hr (pa_cons (pv 0) (pa_cons (pv 1) (pa_cons (pv 2) (pa_cons (pv 3) pa_nil)))))) (pss_one (ps_ret pe_non)) pss_nil) (pss_cons (ps_set (i := 4) sc.nd rfl (.inl rfl) (pe_fn D_step_down (by decide) hr (pa_cons (pv 0) (pa_cons (pv 1) (pa_cons (pv 2) (pa_cons (pv 3) pa_nil)))))) (pss_cons (ps_set (i := 5) sc.nd rfl (.inl rfl) (pe_fn D_over (by decide) hr (pa_cons (pv 1) (pa_cons (pe_fn D_plus (by decide) hr (pa_cons (pe_fn D_times (by decide) hr (pa_cons (pv 4) (pa_cons (pv 4) pa_nil))) (pa_cons (pv 1) pa_nil))) pa_nil)))) (pss_one (ps_ret (pe_tup (pa_cons (pe_fn D_minus (by decide) hr (pa_cons (pv 0) (pa_cons (pv 4) pa_nil))) (pa_cons (pe_fn D_plus (by decide) hr (pa_cons (pv 0) (pa_cons (pe_fn D_over (by decide) hr (pa_cons (pv 1) (pa_cons (pv 4) pa_nil))) pa_nil))) (pa_cons (pv 5) pa_nil)))))))))), ?_⟩
    refine ⟨_, rfl, _, rfl, _, rfl, _, rfl, _, _, _, _, m, s, l, h, rfl, d1, d2, d3, d4, o, ?_⟩
    refine ⟨_, rfl, _, rfl, _, rfl, _, rfl, _, _, _, _, m, s, l, h, rfl, d1, d2, d3, d4, o, fun H1 s1 => ?_⟩
    refine ⟨_, rfl, if2 (fun c => ?_) (fun c => ?_)⟩
    · exact q1 c H1 s1
    · have ns : ¬ s ≤ (m - l) * (h - m) := of_decide_eq_false c
      have t0 := step_pos o.s0 ns
      have bt := bq_step o
      obtain ⟨p0, _⟩ := out_facts (m := m) o.s0 t0
      have q3 := q2 c
      refine ⟨_, rfl, _, rfl, _, rfl, _, rfl, _, _, _, _, m, s, l, h, rfl, fqSame d1 s1, fqSame d2 s1, fqSame d3 s1, fqSame d4 s1, o, fun H2 pt s2 ht => ?_⟩
      generalize stepR m s l h = t at *
      refine ⟨_, rfl, _, rfl, _, rfl, _, _, t, t, rfl, fqO ht, fqO ht, bt.mono (by decide), bt.mono (by decide), .intro, fun H3 p3 s3 h3 => ?_⟩
      have bt2 : Bq 840 (t * t) := bt.mul bt (by decide)
      refine ⟨_, rfl, _, _, t * t, s, rfl, fqO h3, fqSame d2 (s1.trans (s2.trans s3)), bt2.mono (by decide), o.bs.mono (by decide), .intro, fun H4 p4 s4 h4 => ?_⟩
      have bt3 : Bq 881 (t * t + s) := bt2.add o.bs (by decide)
      have s14 := (s1.trans s2).trans (s3.trans s4)
      refine ⟨_, _, s, t * t + s, rfl, fqSame d2 s14, fqO h4, o.bs.mono (by decide), bt3.mono (by decide), p0, fun H5 p5 s5 h5 => ?_⟩
      have s15 := s14.trans s5
      have s25 := (s3.trans s4).trans s5
      refine ⟨_, rfl, _, rfl, _, _, m, t, rfl, fqSame d1 s15, fqSame (fqO ht) s25, o.bm.mono (by decide), bt.mono (by decide), .intro, fun H6 p6 s6 h6 => ?_⟩
      have s16 := s15.trans s6
      refine ⟨_, rfl, _, rfl, _, rfl, _, _, s, t, rfl, fqSame d2 s16, fqSame (fqO ht) (s25.trans s6), o.bs.mono (by decide), bt.mono (by decide), t0, fun H7 p7 s7 h7 => ?_⟩
      have b7 : Bq 460 (s / t) := o.bs.div bt t0 (by decide)
      refine ⟨_, _, m, s / t, rfl, fqSame d1 (s16.trans s7), fqO h7, o.bm.mono (by decide), b7.mono (by decide), .intro, fun H8 p8 s8 h8 => ?_⟩
      refine ⟨_, rfl, by show 3 ≤ sizeLine; decide, fun p9 h9 => ?_⟩
      have s9 := same_upd (o := .tup [.ref p6, .ref p8, .ref p5]) h9
      exact q3 _ p9 p6 p8 p5 ((s16.trans s7).trans (s8.trans s9)) upd_same ((s7.trans (s8.trans s9)) _ _ h6) (s9 _ _ h8) ((s6.trans (s7.trans (s8.trans s9))) _ _ h5)
end
end V3
namespace V3
open PySem.Spec PySem L2 PyProof.Rows RZ GxR
section
variable {mg : Str → Option Value} {base : Heap} {K : PySem.W.Frag} {P : Program} {w : World}
abbrev s__law_draw : Stmt := topS 28
abbrev N__law_draw : List Str := ["well", "size", "seed", "digit"]
theorem sc__law_draw : FnScope N__law_draw ["well", "size"] (defScope s__law_draw) := ⟨rfl, rfl, rfl, by decide +kernel, rfl, by decide +kernel, by decide +kernel⟩
def spDraw : Sp := fun vs H Q _ => ∃ (a : Addr) (n : Int) (k : Nat), vs = [.ref a, .int n] ∧ Well H a k ∧ k ≤ 1000000 ∧ 0 < n ∧ n < 1073741824 ∧ ∀ H' d, But a H H' → Well H' a (k + 1) → 0 ≤ d → d < n → Q (.int d) H'
theorem ok_draw (T : Gs K mg) (F : At K mg "_law_draw" s__law_draw) : Df P w K mg base "_law_draw" 1 ["well", "size"] spDraw := by
  have sc := sc__law_draw
  refine Df.mk' F sc (fun vs H Q E h => ?_) (fun _ _ _ _ _ _ us hl => match us, hl with | [_, _], _ => rfl) (fun f cdv A outer s H vs Q E hr h => ?_)
  · obtain ⟨a, q, u, rfl, _⟩ := h
    rfl
  · obtain ⟨a, n, k, rfl, ⟨x, y, z, hw, x0, y0, yl, z0, zl⟩, kl, n0, nl, q⟩ := h
    refine ⟨_, (pss_cons (ps_if (pt_cmpR op_gt (pe_ix ix_list (pv 0) pe_int (fun _ _ => rfl)) pe_int (nomark _)) (pss_cons (ps_set (i := 3) sc.nd rfl (.inl rfl) (pe_op op_mod (pe_callTy call_int1 (by rfl) T.int_ (by decide +kernel) (pa_cons (pe_ix ix_list (pv 0) pe_int (fun _ _ => rfl)) pa_nil)) (pv 1))) (pss_cons (ps_asg (pe_op op_fdiv (pe_ix ix_list (pv 0) pe_int (fun _ _ => rfl)) (pv 1)) (pg_sub (pv 0) pe_int set_list)) (pss_one (ps_ret (pv 3))))) pss_nil) (pss_cons (ps_asg (pe_op op_add (pe_ix ix_list (pv 0) pe_int (fun _ _ => rfl)) pe_int) (pg_sub (pv 0) pe_int set_list)) (pss_cons (ps_set (i := 2) sc.nd rfl (.inl rfl) (pe_op op_mod (pe_callTy call_int1 (by rfl) T.int_ (by decide +kernel) (pa_cons (pe_op op_add (pe_op op_add (pe_op op_mul (pe_ix ix_list (pv 0) pe_int (fun _ _ => rfl)) pe_int) (pe_op op_mul pe_int (pe_ix ix_list (pv 0) pe_int (fun _ _ => rfl)))) pe_int) pa_nil)) pe_int)) (pss_cons (ps_asg (pv 2) (pg_sub (pv 0) pe_int set_list)) (pss_one (ps_ret (pe_op op_mod (pe_callTy call_int1 (by rfl) T.int_ (by decide +kernel) (pa_cons (pe_op op_fdiv (pe_op op_mul (pv 2) (pe_op op_add (pe_op op_mod (pe_callTy call_int1 (by rfl) T.int_ (by decide +kernel) (pa_cons (pv 2) pa_nil)) pe_int) pe_int)) pe_int) pa_nil)) (pv 1)))))))), ?_⟩
    refine ⟨_, rfl, a, _, _, _, rfl, rfl, SqL.of hw, at30, _, _, rfl, rfl, _, rfl, if2 (fun e => ?_) (fun e => ?_)⟩
    · refine ⟨_, rfl, a, _, _, _, rfl, rfl, SqL.of hw, at30, .inl ⟨_, rfl, ?_⟩⟩
      refine ⟨_, rfl, _, _, rfl, rfl, n0, ?_⟩
      refine ⟨_, rfl, a, _, _, _, rfl, rfl, SqL.of hw, at30, _, rfl, _, _, rfl, rfl, ⟨n0, nl⟩, _, rfl, a, _, _, 0, rfl, rfl, hw, rfl, ?_⟩
      refine ⟨_, rfl, ?_⟩
      exact q _ _ (But.upd (But.refl a H)) ⟨_, _, _, upd_same, Int.ediv_nonneg x0 (Int.le_of_lt n0), y0, yl, z0, by omega⟩ (Int.emod_nonneg _ (by omega)) (Int.emod_lt_of_pos _ n0)
    · refine ⟨_, rfl, a, _, _, _, rfl, rfl, SqL.of hw, at32, _, _, rfl, rfl, _, rfl, a, _, _, 2, rfl, rfl, hw, rfl, ?_⟩
      have h1 : (upd H a (.lst (List.set [.int x, .int y, .int z] 2 (.int (z + 1))))) a = some (.lst [.int x, .int y, .int (z + 1)]) := upd_same
      have b1 : But a H (upd H a (.lst (List.set [.int x, .int y, .int z] 2 (.int (z + 1))))) := (But.refl a H).upd
      generalize upd H a (.lst (List.set [.int x, .int y, .int z] 2 (.int (z + 1)))) = H1 at b1 h1
      refine ⟨_, rfl, a, _, _, _, rfl, rfl, SqL.of h1, at31, _, _, rfl, rfl, Or.inr (by decide), ?_⟩
      refine ⟨_, rfl, a, _, _, _, rfl, rfl, SqL.of h1, at32, _, _, rfl, rfl, Or.inr (by omega), ?_⟩
      refine ⟨_, _, rfl, rfl, _, _, rfl, rfl, .inl ⟨_, rfl, ?_⟩⟩
      refine ⟨_, _, rfl, rfl, by show (0 : Int) < 2147483647; decide, ?_⟩
      have s0 : 0 ≤ (y * 16807 + 62089 * (z + 1) + 5) % 2147483647 := Int.emod_nonneg _ (by decide)
      have sl : (y * 16807 + 62089 * (z + 1) + 5) % 2147483647 < 2147483647 := Int.emod_lt_of_pos _ (by decide)
      refine ⟨_, rfl, _, rfl, a, _, _, 1, rfl, rfl, h1, rfl, ?_⟩
      have h2 : (upd H1 a (.lst (List.set [.int x, .int y, .int (z + 1)] 1 (.int ((y * 16807 + 62089 * (z + 1) + 5) % 2147483647))))) a = some (.lst [.int x, .int ((y * 16807 + 62089 * (z + 1) + 5) % 2147483647), .int (z + 1)]) := upd_same
      have b2 : But a H (upd H1 a (.lst (List.set [.int x, .int y, .int (z + 1)] 1 (.int ((y * 16807 + 62089 * (z + 1) + 5) % 2147483647))))) := b1.upd
      refine ⟨_, rfl, _, rfl, .inl ⟨_, rfl, _, _, rfl, rfl, by show (0 : Int) < 60013; decide, _, _, rfl, rfl, ?_⟩⟩
      have t0 : 0 ≤ ((y * 16807 + 62089 * (z + 1) + 5) % 2147483647) % 60013 := Int.emod_nonneg _ (by decide)
      have tl : ((y * 16807 + 62089 * (z + 1) + 5) % 2147483647) % 60013 < 60013 := Int.emod_lt_of_pos _ (by decide)
      refine ⟨_, _, rfl, rfl, Or.inr (by omega), ?_⟩
      refine ⟨_, _, rfl, rfl, ⟨by decide, by decide⟩, .inl ⟨_, rfl, ?_⟩⟩
      refine ⟨_, rfl, _, _, rfl, rfl, n0, ?_⟩
      exact q _ _ b2 ⟨_, _, _, h2, x0, s0, sl, by omega, by omega⟩ (Int.emod_nonneg _ (by omega)) (Int.emod_lt_of_pos _ n0)
abbrev s__law_well : Stmt := topS 27
abbrev N__law_well : List Str := ["script", "turn", "own", "mixed", "cell"]
theorem sc__law_well : FnScope N__law_well ["script", "turn"] (defScope s__law_well) := ⟨rfl, rfl, rfl, by decide +kernel, rfl, by decide +kernel, by decide +kernel⟩
def spWell (K : PySem.W.Frag) : Sp := fun vs H Q _ => ∃ (a : Addr) (ns : List Int) (t : Nat), vs = [.ref a, .int t] ∧ SqL K H a (ns.map V.int) ∧ ∀ H' p, Same H H' → H p = none → Well H' p 0 → Q (.ref p) H'
theorem ok_well (T : Gs K mg) (F : At K mg "_law_well" s__law_well) : Df P w K mg base "_law_well" 1 ["script", "turn"] (spWell K) := by
  have sc := sc__law_well
  refine Df.mk' F sc (fun vs H Q E h => ?_) (fun _ _ _ _ _ _ us hl => match us, hl with | [_, _], _ => rfl) (fun f cdv A outer s H vs Q E hr h => ?_)
  · obtain ⟨a, ns, t, rfl, _⟩ := h
    rfl
  · obtain ⟨a, ns, t, rfl, ha, q⟩ := h
    refine ⟨_, (pss_cons (ps_set (i := 2) sc.nd rfl (.inl rfl) (pe_ifExp (pt_cmpR op_lt (pv 1) (pe_callB call_len_seq (by rfl) T.len PySem.boot_len (pa_cons (pv 0) pa_nil)) (nomark _)) (pe_callTy call_int1 (by rfl) T.int_ (by decide +kernel) (pa_cons (pe_ix ix_list (pv 0) (pv 1) (fun _ _ => rfl)) pa_nil)) pe_int)) (pss_cons (ps_set (i := 3) sc.nd rfl (.inl rfl) (pe_op op_add pe_int (pe_op op_mul pe_int (pv 1)))) (pss_cons (ps_for PassesOwn.never rfl (pi_list (pe_slice sl_list (pv 0) po_none (po_some pe_int))) (pg_name (i := 4) sc.nd rfl (.inl rfl)) (pss_one (ps_set (i := 3) sc.nd rfl (.inl rfl) (pe_op op_mod (pe_callTy call_int1 (by rfl) T.int_ (by decide +kernel) (pa_cons (pe_op op_add (pe_op op_add (pe_op op_mul (pv 3) pe_int) (pe_op op_mod (pe_callTy call_int1 (by rfl) T.int_ (by decide +kernel) (pa_cons (pv 4) pa_nil)) pe_int)) pe_int) pa_nil)) pe_int)))) (pss_cons (ps_set (i := 3) sc.nd rfl (.inl rfl) (pe_op op_mod (pe_callTy call_int1 (by rfl) T.int_ (by decide +kernel) (pa_cons (pe_op op_add (pe_op op_add (pe_op op_mul (pv 3) pe_int) (pe_op op_mul (pe_op op_mod (pe_callTy call_int1 (by rfl) T.int_ (by decide +kernel) (pa_cons (pv 2) pa_nil)) pe_int) pe_int)) pe_int) pa_nil)) pe_int)) (pss_one (ps_ret (pe_lst (pa_cons (pe_ifExp (pt_cmpR op_ge (pe_callB call_abs (by rfl) T.abs (by decide +kernel) (pa_cons (pv 2) pa_nil)) (pe_op op_pow pe_int pe_int) (nomark _)) (pe_callB call_abs (by rfl) T.abs (by decide +kernel) (pa_cons (pv 2) pa_nil)) pe_int) (pa_cons (pv 3) (pa_cons pe_int pa_nil)))))))))), ?_⟩
    have m0 : ∀ z : Int, 0 ≤ z % 2147483647 := fun z => Int.emod_nonneg _ (by decide)
    have ml : ∀ z : Int, z % 2147483647 < 2147483647 := fun z => Int.emod_lt_of_pos _ (by decide)
    refine ⟨_, rfl, _, rfl, _, _, rfl, .inl ha, _, _, rfl, rfl, _, rfl, if2 (fun e => ?a) (fun e => ?b)⟩
    case' a =>
      have lt : t < (ns.map V.int).length := by
        have := of_decide_eq_true e
        omega
      have ln : t < ns.length := by rw [List.length_map] at lt; exact lt
      refine ⟨_, rfl, _, rfl, _, _, _, _, rfl, rfl, ha, at_of rfl (show (ns.map V.int)[t]? = some (.int ns[t]) by rw [List.getElem?_map, List.getElem?_eq_getElem ln]; rfl), .inl ⟨_, rfl, ?_⟩⟩
    all_goals
      refine ⟨_, rfl, _, _, rfl, rfl, Or.inl (by decide), _, _, rfl, rfl, ?_⟩
      refine ⟨_, rfl, _, rfl, a, _, rfl, ha, fun pc hpc => ?_⟩
      have s1 : Same H (upd H pc (.lst (cutV (ns.map V.int) none (some 9)))) := same_upd hpc
      refine ⟨pc, rfl, ⟨_, SqL.of upd_same⟩, for_list (K := K) (a := pc) (xs := cutV (ns.map V.int) none (some 9)) (fun i σ H' => ∃ (o m : Int) (y : Option V), σ = [some (.ref a), some (.int t), some (.int o), some (.int m), y] ∧ H' = upd H pc (.lst (cutV (ns.map V.int) none (some 9)))) ⟨_, _, _, rfl, rfl⟩
        (fun i σ H' _ ⟨_, _, _, _, e⟩ => by rw [e]; exact SqL.of upd_same) ?_ ?_⟩
      · rintro i x σ H' hi ⟨o, m, y, rfl, rfl⟩
        obtain ⟨n, _, rfl⟩ := List.mem_map.mp (cutV_mem (List.mem_of_getElem? hi))
        refine ⟨_, rfl, _, _, rfl, rfl, Or.inr (by decide), ?_⟩
        refine ⟨_, rfl, .inl ⟨_, rfl, _, _, rfl, rfl, by show (0 : Int) < 2147483563; decide, _, _, rfl, rfl, ?_⟩⟩
        refine ⟨_, _, rfl, rfl, .inl ⟨_, rfl, _, _, rfl, rfl, by show (0 : Int) < 2147483647; decide, ?_⟩⟩
        exact ⟨_, _, _, rfl, rfl⟩
      · rintro σ H' ⟨o, m, y, rfl, rfl⟩
        generalize upd H pc (.lst (cutV (ns.map V.int) none (some 9))) = H1 at s1
        have fin : ∀ (p : Addr), H1 p = none → ∀ x z : Int, 0 ≤ x → 0 ≤ z → z < 2147483647 → Q (.ref p) (upd H1 p (.lst [.int x, .int z, .int 0])) := fun p hp x z h1 h2 h3 =>
          q _ p (s1.trans (same_upd hp)) (by cases e : H p with | none => rfl | some o => rw [s1 _ _ e] at hp; cases hp) ⟨x, z, 0, upd_same, h1, h2, h3, by decide, by decide⟩
        refine ⟨_, rfl, _, _, rfl, rfl, Or.inr (by decide), ?_⟩
        refine ⟨_, rfl, .inl ⟨_, rfl, _, _, rfl, rfl, by show (0 : Int) < 2147483629; decide, _, _, rfl, rfl, Or.inr (by decide), ?_⟩⟩
        refine ⟨_, _, rfl, rfl, _, _, rfl, rfl, .inl ⟨_, rfl, _, _, rfl, rfl, by show (0 : Int) < 2147483647; decide, ?_⟩⟩
        refine ⟨_, rfl, _, rfl, _, _, rfl, rfl, ⟨by decide, by decide, by decide⟩, _, _, rfl, rfl, _, rfl, if2 (fun e2 => ?_) (fun e2 => ?_)⟩
        · refine ⟨_, rfl, _, rfl, _, rfl, by show 3 ≤ sizeLine; decide, fun p hp => ?_⟩
          exact fin p hp _ _ (by split <;> omega) (m0 _) (ml _)
        · refine ⟨_, rfl, by show 3 ≤ sizeLine; decide, fun p hp => ?_⟩
          exact fin p hp _ _ (by decide) (m0 _) (ml _)
abbrev s__law_pick : Stmt := topS 29
abbrev N__law_pick : List Str := ["well", "some"]
theorem sc__law_pick : FnScope N__law_pick ["well", "some"] (defScope s__law_pick) := ⟨rfl, rfl, rfl, by decide +kernel, rfl, by decide +kernel, by decide +kernel⟩
def spPick (K : PySem.W.Frag) : Sp := fun vs H Q _ => ∃ (a p : Addr) (xs : List V) (k : Nat), vs = [.ref a, .ref p] ∧ Well H a k ∧ k ≤ 1000000 ∧ H p = some (.lst xs) ∧ a ≠ p ∧ 0 < xs.length ∧ xs.length ≤ 1000 ∧ ∀ H' (i : Nat) x, But a H H' → Well H' a (k + 1) → xs[i]? = some x → Q x H'
theorem ok_pick (T : Gs K mg) (D__law_draw : Df P w K mg base "_law_draw" 1 ["well", "size"] spDraw) (F : At K mg "_law_pick" s__law_pick) : Df P w K mg base "_law_pick" 2 ["well", "some"] (spPick K) := by
  have sc := sc__law_pick
  refine Df.mk' F sc (fun vs H Q E h => ?_) (fun _ _ _ _ _ _ us hl => match us, hl with | [_, _], _ => rfl) (fun f cdv A outer s H vs Q E hr h => ?_)
  · obtain ⟨a, q, u, k, rfl, _⟩ := h
    rfl
  · obtain ⟨a, p, xs, k, rfl, hw, kl, hp, hne, n0, nl, q⟩ := h
    refine ⟨_, (pss_one (ps_ret (pe_ix ix_list (pv 1) (pe_fn D__law_draw (by decide) hr (pa_cons (pv 0) (pa_cons (pe_callB call_len_seq (by rfl) T.len PySem.boot_len (pa_cons (pv 1) pa_nil)) pa_nil))) (fun _ _ => rfl)))), ?_⟩
    refine ⟨_, rfl, _, rfl, _, rfl, p, _, rfl, .inl (SqL.of hp), a, _, k, rfl, hw, kl, by omega, by omega, fun H' d b1 w1 d0 dl => ?_⟩
    obtain ⟨i, rfl⟩ : ∃ i : Nat, d = i := ⟨d.toNat, by omega⟩
    have hi : i < xs.length := by omega
    refine ⟨p, xs, _, xs[i], rfl, rfl, SqL.of (b1 _ _ (Ne.symm hne) hp), at_of rfl (List.getElem?_eq_getElem hi), ?_⟩
    exact q H' i _ b1 w1 (List.getElem?_eq_getElem hi)
abbrev s__law_common : Stmt := topS 30
abbrev N__law_common : List Str := ["one", "two"]
theorem sc__law_common : FnScope N__law_common ["one", "two"] (defScope s__law_common) := ⟨rfl, rfl, rfl, by decide +kernel, rfl, by decide +kernel, by decide +kernel⟩
def spCommon : Sp := fun vs H Q _ => ∃ n u : Int, vs = [.int n, .int u] ∧ Q (.int (Int.gcd n u : Int)) H
theorem ok_common (T : Gs K mg) (F : At K mg "_law_common" s__law_common) : Df P w K mg base "_law_common" 1 ["one", "two"] spCommon := by
  have sc := sc__law_common
  refine Df.mk' F sc (fun vs H Q E h => ?_) (fun _ _ _ _ _ _ us hl => match us, hl with | [_, _], _ => rfl) (fun f cdv A outer s H vs Q E hr h => ?_)
  · obtain ⟨n, u, rfl, _⟩ := h
    rfl
  · obtain ⟨n, u, rfl, q⟩ := h
    refine ⟨_, (pss_cons (ps_par (i := 0) (j := 1) rfl sc.nd rfl rfl (by decide) rfl rfl (pa_cons (pe_callB call_abs (by rfl) T.abs (by decide +kernel) (pa_cons (pv 0) pa_nil)) (pa_cons (pe_callB call_abs (by rfl) T.abs (by decide +kernel) (pa_cons (pv 1) pa_nil)) pa_nil)) (by rfl)) (pss_cons (ps_while PassesOwn.never (pt_cmpR op_gt (pv 1) pe_int (nomark _)) (pss_one (ps_par (i := 0) (j := 1) rfl sc.nd rfl rfl (by decide) rfl rfl (pa_cons (pv 1) (pa_cons (pe_op op_mod (pe_callTy call_int1 (by rfl) T.int_ (by decide +kernel) (pa_cons (pv 0) pa_nil)) (pv 1)) pa_nil)) (by rfl)))) (pss_one (ps_ret (pv 0))))), ?_⟩
    have en : (if n < 0 then -n else n) = ((n.natAbs : Nat) : Int) := by split <;> omega
    have eu : (if u < 0 then -u else u) = ((u.natAbs : Nat) : Int) := by split <;> omega
    refine ⟨_, rfl, n, rfl, _, rfl, u, rfl, _, _, rfl, ?_⟩
    rw [en, eu]
    refine ⟨fun m σ H' => H' = H ∧ ∃ a b : Nat, σ = [some (.int a), some (.int b)] ∧ Nat.gcd a b = Int.gcd n u ∧ m = b, ⟨_, rfl, n.natAbs, u.natAbs, rfl, rfl, rfl⟩, ?_⟩
    rintro m σ H1 ⟨rfl, a, b, rfl, hg, rfl⟩
    refine ⟨_, rfl, _, _, rfl, rfl, _, rfl, if2 (fun e => ?_) (fun e => ?_)⟩
    · have b0 : 0 < m := by
        have := of_decide_eq_true e
        omega
      refine ⟨fun σ' H' => ∃ m', m' < m ∧ (H' = H1 ∧ ∃ a b : Nat, σ' = [some (.int a), some (.int b)] ∧ Nat.gcd a b = Int.gcd n u ∧ m' = b), fun σ' H' z => z, ?_⟩
      refine ⟨_, rfl, _, rfl, .inl ⟨_, rfl, _, rfl, _, _, rfl, rfl, by show (0 : Int) < m; omega, _, _, rfl, ?_⟩⟩
      refine ⟨_, Nat.mod_lt a b0, rfl, m, a % m, ?_, ?_, rfl⟩
      · rfl
      · rw [← hg, Nat.gcd_comm a m, Nat.gcd_rec m a, Nat.gcd_comm]
    · have b0 : m = 0 := by
        have := of_decide_eq_false e
        omega
      subst b0
      rw [Nat.gcd_zero_right] at hg
      subst hg
      exact ⟨_, rfl, q⟩
abbrev s__law_lowest : Stmt := topS 31
abbrev N__law_lowest : List Str := ["upper", "lower", "by"]
theorem sc__law_lowest : FnScope N__law_lowest ["upper", "lower"] (defScope s__law_lowest) := ⟨rfl, rfl, rfl, by decide +kernel, rfl, by decide +kernel, by decide +kernel⟩
theorem ok_lowest (T : Gs K mg) (D__law_common : Df P w K mg base "_law_common" 1 ["one", "two"] spCommon) (F : At K mg "_law_lowest" s__law_lowest) : Df P w K mg base "_law_lowest" 2 ["upper", "lower"] spFrac := by
  have sc := sc__law_lowest
  refine Df.mk' F sc (fun vs H Q E h => ?_) (fun _ _ _ _ _ _ us hl => match us, hl with | [_, _], _ => rfl) (fun f cdv A outer s H vs Q E hr h => ?_)
  · obtain ⟨n, u, rfl, _⟩ := h
    rfl
  · obtain ⟨n, u, rfl, hu, su, q⟩ := h
    refine ⟨_, (pss_cons (ps_set (i := 2) sc.nd rfl (.inl rfl) (pe_fn D__law_common (by decide) hr (pa_cons (pv 0) (pa_cons (pv 1) pa_nil)))) (pss_cons (ps_set (i := 2) sc.nd rfl (.inl rfl) (pe_ifExp (pt_cmpR op_gt (pv 1) pe_int (nomark _)) (pv 2) (pe_op op_sub pe_int (pv 2)))) (pss_one (ps_ret (pe_tup (pa_cons (pe_op op_fdivW (pv 0) (pv 2)) (pa_cons (pe_op op_fdivW (pv 1) (pv 2)) pa_nil))))))), ?_⟩
    have g0 := gcdP (n := n) hu
    have g1 := gcdL (n := n) hu
    have w : CDivW n (Int.gcd n u : Int) := wide_div g0 (b := 9000) (wide_le (by omega) g1 su) (by decide) (by decide)
    refine ⟨_, rfl, _, rfl, n, u, rfl, ?_⟩
    refine ⟨_, rfl, _, _, rfl, rfl, _, rfl, if2 (fun e => ?_) (fun e => ?_)⟩
    · refine ⟨_, rfl, ?_⟩
      refine ⟨_, rfl, _, rfl, _, _, rfl, rfl, w, _, rfl, _, rfl, _, _, rfl, rfl, w, by show 2 ≤ sizeLine; decide, fun p hp => ?_⟩
      exact q _ p (same_upd hp) (made hu upd_same)
    · exact absurd (of_decide_eq_false e) (by omega)
end
end V3
namespace V3
open PySem.Spec PySem L2 PyProof.Rows RZ GxR
section
variable {mg : Str → Option Value} {base : Heap} {K : PySem.W.Frag} {P : Program} {w : World}
abbrev s__law_plus : Stmt := topS 32
abbrev N__law_plus : List Str := ["one", "two"]
theorem sc__law_plus : FnScope N__law_plus ["one", "two"] (defScope s__law_plus) := ⟨rfl, rfl, rfl, by decide +kernel, rfl, by decide +kernel, by decide +kernel⟩
theorem ok_law_plus (D__law_lowest : Df P w K mg base "_law_lowest" 2 ["upper", "lower"] spFrac) (F : At K mg "_law_plus" s__law_plus) : Df P w K mg base "_law_plus" 3 ["one", "two"] (spR2 K (· + ·) fun _ => True) := by
  have sc := sc__law_plus
  refine Df.mk' F sc (fun vs H Q E h => ?_) (fun _ _ _ _ _ _ us hl => match us, hl with | [_, _], _ => rfl) (fun f cdv A outer s H vs Q E hr h => ?_)
  · obtain ⟨v, w, x, y, rfl, _⟩ := h
    rfl
  · obtain ⟨v, w, x, y, rfl, hx, hy, sx, sy, yp, q⟩ := h
    obtain ⟨p, rfl, hp⟩ := fqT hx
    obtain ⟨p', rfl, hp'⟩ := fqT hy
    refine ⟨_, (pss_one (ps_ret (pe_fn D__law_lowest (by decide) hr (pa_cons (pe_op op_add (pe_op op_mulW (pe_ix ix_tup (pv 0) pe_int (fun _ _ => rfl)) (pe_ix ix_tup (pv 1) pe_int (fun _ _ => rfl))) (pe_op op_mulW (pe_ix ix_tup (pv 1) pe_int (fun _ _ => rfl)) (pe_ix ix_tup (pv 0) pe_int (fun _ _ => rfl)))) (pa_cons (pe_op op_mulW (pe_ix ix_tup (pv 0) pe_int (fun _ _ => rfl)) (pe_ix ix_tup (pv 1) pe_int (fun _ _ => rfl))) pa_nil))))), ?_⟩
    refine ⟨_, rfl, _, _, _, _, rfl, rfl, hp, at20, _, rfl, _, _, _, _, rfl, rfl, hp', at21, _, _, rfl, rfl, mulW4 sx.n (natI sy.d), ?_⟩
    refine ⟨_, rfl, _, _, _, _, rfl, rfl, hp', at20, _, rfl, _, _, _, _, rfl, rfl, hp, at21, _, _, rfl, rfl, mulW4 sy.n (natI sx.d), ?_⟩
    refine ⟨_, _, rfl, rfl, ?_⟩
    refine ⟨_, rfl, _, _, _, _, rfl, rfl, hp, at21, _, rfl, _, _, _, _, rfl, rfl, hp', at21, _, _, rfl, rfl, mulW4 (natI sx.d) (natI sy.d), ?_⟩
    dsimp only at q
    rw [radd] at q
    exact ⟨_, _, rfl, Int.mul_pos (rden_pos x) (rden_pos y), sz4 (natI sx.d) (natI sy.d), q⟩
abbrev s__law_minus : Stmt := topS 44
abbrev N__law_minus : List Str := ["one", "two"]
theorem sc__law_minus : FnScope N__law_minus ["one", "two"] (defScope s__law_minus) := ⟨rfl, rfl, rfl, by decide +kernel, rfl, by decide +kernel, by decide +kernel⟩
theorem ok_law_minus (D__law_lowest : Df P w K mg base "_law_lowest" 2 ["upper", "lower"] spFrac) (F : At K mg "_law_minus" s__law_minus) : Df P w K mg base "_law_minus" 3 ["one", "two"] (spR2 K (· - ·) fun _ => True) := by
  have sc := sc__law_minus
  refine Df.mk' F sc (fun vs H Q E h => ?_) (fun _ _ _ _ _ _ us hl => match us, hl with | [_, _], _ => rfl) (fun f cdv A outer s H vs Q E hr h => ?_)
  · obtain ⟨v, w, x, y, rfl, _⟩ := h
    rfl
  · obtain ⟨v, w, x, y, rfl, hx, hy, sx, sy, yp, q⟩ := h
    obtain ⟨p, rfl, hp⟩ := fqT hx
    obtain ⟨p', rfl, hp'⟩ := fqT hy
    refine ⟨_, (pss_one (ps_ret (pe_fn D__law_lowest (by decide) hr (pa_cons (pe_op op_sub (pe_op op_mulW (pe_ix ix_tup (pv 0) pe_int (fun _ _ => rfl)) (pe_ix ix_tup (pv 1) pe_int (fun _ _ => rfl))) (pe_op op_mulW (pe_ix ix_tup (pv 1) pe_int (fun _ _ => rfl)) (pe_ix ix_tup (pv 0) pe_int (fun _ _ => rfl)))) (pa_cons (pe_op op_mulW (pe_ix ix_tup (pv 0) pe_int (fun _ _ => rfl)) (pe_ix ix_tup (pv 1) pe_int (fun _ _ => rfl))) pa_nil))))), ?_⟩
    refine ⟨_, rfl, _, _, _, _, rfl, rfl, hp, at20, _, rfl, _, _, _, _, rfl, rfl, hp', at21, _, _, rfl, rfl, mulW4 sx.n (natI sy.d), ?_⟩
    refine ⟨_, rfl, _, _, _, _, rfl, rfl, hp', at20, _, rfl, _, _, _, _, rfl, rfl, hp, at21, _, _, rfl, rfl, mulW4 sy.n (natI sx.d), ?_⟩
    refine ⟨_, _, rfl, rfl, ?_⟩
    refine ⟨_, rfl, _, _, _, _, rfl, rfl, hp, at21, _, rfl, _, _, _, _, rfl, rfl, hp', at21, _, _, rfl, rfl, mulW4 (natI sx.d) (natI sy.d), ?_⟩
    dsimp only at q
    rw [rsub] at q
    exact ⟨_, _, rfl, Int.mul_pos (rden_pos x) (rden_pos y), sz4 (natI sx.d) (natI sy.d), q⟩
abbrev s__law_times : Stmt := topS 33
abbrev N__law_times : List Str := ["one", "two"]
theorem sc__law_times : FnScope N__law_times ["one", "two"] (defScope s__law_times) := ⟨rfl, rfl, rfl, by decide +kernel, rfl, by decide +kernel, by decide +kernel⟩
theorem ok_law_times (D__law_lowest : Df P w K mg base "_law_lowest" 2 ["upper", "lower"] spFrac) (F : At K mg "_law_times" s__law_times) : Df P w K mg base "_law_times" 3 ["one", "two"] (spR2 K (· * ·) fun _ => True) := by
  have sc := sc__law_times
  refine Df.mk' F sc (fun vs H Q E h => ?_) (fun _ _ _ _ _ _ us hl => match us, hl with | [_, _], _ => rfl) (fun f cdv A outer s H vs Q E hr h => ?_)
  · obtain ⟨v, w, x, y, rfl, _⟩ := h
    rfl
  · obtain ⟨v, w, x, y, rfl, hx, hy, sx, sy, yp, q⟩ := h
    obtain ⟨p, rfl, hp⟩ := fqT hx
    obtain ⟨p', rfl, hp'⟩ := fqT hy
    refine ⟨_, (pss_one (ps_ret (pe_fn D__law_lowest (by decide) hr (pa_cons (pe_op op_mulW (pe_ix ix_tup (pv 0) pe_int (fun _ _ => rfl)) (pe_ix ix_tup (pv 1) pe_int (fun _ _ => rfl))) (pa_cons (pe_op op_mulW (pe_ix ix_tup (pv 0) pe_int (fun _ _ => rfl)) (pe_ix ix_tup (pv 1) pe_int (fun _ _ => rfl))) pa_nil))))), ?_⟩
    refine ⟨_, rfl, _, _, _, _, rfl, rfl, hp, at20, _, rfl, _, _, _, _, rfl, rfl, hp', at20, _, _, rfl, rfl, mulW4 sx.n sy.n, ?_⟩
    refine ⟨_, rfl, _, _, _, _, rfl, rfl, hp, at21, _, rfl, _, _, _, _, rfl, rfl, hp', at21, _, _, rfl, rfl, mulW4 (natI sx.d) (natI sy.d), ?_⟩
    dsimp only at q
    rw [rmul] at q
    exact ⟨_, _, rfl, Int.mul_pos (rden_pos x) (rden_pos y), sz4 (natI sx.d) (natI sy.d), q⟩
abbrev s__law_quotient : Stmt := topS 48
abbrev N__law_quotient : List Str := ["one", "two"]
theorem sc__law_quotient : FnScope N__law_quotient ["one", "two"] (defScope s__law_quotient) := ⟨rfl, rfl, rfl, by decide +kernel, rfl, by decide +kernel, by decide +kernel⟩
theorem ok_law_quotient (D__law_lowest : Df P w K mg base "_law_lowest" 2 ["upper", "lower"] spFrac) (F : At K mg "_law_quotient" s__law_quotient) : Df P w K mg base "_law_quotient" 3 ["one", "two"] (spR2 K (· / ·) fun y => 0 < y) := by
  have sc := sc__law_quotient
  refine Df.mk' F sc (fun vs H Q E h => ?_) (fun _ _ _ _ _ _ us hl => match us, hl with | [_, _], _ => rfl) (fun f cdv A outer s H vs Q E hr h => ?_)
  · obtain ⟨v, w, x, y, rfl, _⟩ := h
    rfl
  · obtain ⟨v, w, x, y, rfl, hx, hy, sx, sy, yp, q⟩ := h
    obtain ⟨p, rfl, hp⟩ := fqT hx
    obtain ⟨p', rfl, hp'⟩ := fqT hy
    refine ⟨_, (pss_one (ps_ret (pe_fn D__law_lowest (by decide) hr (pa_cons (pe_op op_mulW (pe_ix ix_tup (pv 0) pe_int (fun _ _ => rfl)) (pe_ix ix_tup (pv 1) pe_int (fun _ _ => rfl))) (pa_cons (pe_op op_mulW (pe_ix ix_tup (pv 0) pe_int (fun _ _ => rfl)) (pe_ix ix_tup (pv 1) pe_int (fun _ _ => rfl))) pa_nil))))), ?_⟩
    refine ⟨_, rfl, _, _, _, _, rfl, rfl, hp, at20, _, rfl, _, _, _, _, rfl, rfl, hp', at21, _, _, rfl, rfl, mulW4 sx.n (natI sy.d), ?_⟩
    refine ⟨_, rfl, _, _, _, _, rfl, rfl, hp, at21, _, rfl, _, _, _, _, rfl, rfl, hp', at20, _, _, rfl, rfl, mulW4 (natI sx.d) sy.n, ?_⟩
    dsimp only at q
    rw [rdiv] at q
    exact ⟨_, _, rfl, Int.mul_pos (rden_pos x) (rnum_pos yp), sz4 (natI sx.d) sy.n, q⟩
abbrev s__law_up_to : Stmt := topS 46
abbrev N__law_up_to : List Str := ["one", "two"]
theorem sc__law_up_to : FnScope N__law_up_to ["one", "two"] (defScope s__law_up_to) := ⟨rfl, rfl, rfl, by decide +kernel, rfl, by decide +kernel, by decide +kernel⟩
theorem ok_law_up_to (F : At K mg "_law_up_to" s__law_up_to) : Df P w K mg base "_law_up_to" 1 ["one", "two"] (spR2b K fun x y => decide (x ≤ y)) := by
  have sc := sc__law_up_to
  refine Df.mk' F sc (fun vs H Q E h => ?_) (fun _ _ _ _ _ _ us hl => match us, hl with | [_, _], _ => rfl) (fun f cdv A outer s H vs Q E hr h => ?_)
  · obtain ⟨v, w, x, y, rfl, _⟩ := h
    rfl
  · obtain ⟨v, w, x, y, rfl, hx, hy, sx, sy, q⟩ := h
    obtain ⟨p, rfl, hp⟩ := fqT hx
    obtain ⟨p', rfl, hp'⟩ := fqT hy
    refine ⟨_, (pss_one (ps_ret (pe_cmpR op_le (pe_op op_mulW (pe_ix ix_tup (pv 0) pe_int (fun _ _ => rfl)) (pe_ix ix_tup (pv 1) pe_int (fun _ _ => rfl))) (pe_op op_mulW (pe_ix ix_tup (pv 1) pe_int (fun _ _ => rfl)) (pe_ix ix_tup (pv 0) pe_int (fun _ _ => rfl))) (nomark _)))), ?_⟩
    refine ⟨_, rfl, _, _, _, _, rfl, rfl, hp, at20, _, rfl, _, _, _, _, rfl, rfl, hp', at21, _, _, rfl, rfl, mulW4 sx.n (natI sy.d), ?_⟩
    refine ⟨_, rfl, _, _, _, _, rfl, rfl, hp', at20, _, rfl, _, _, _, _, rfl, rfl, hp, at21, _, _, rfl, rfl, mulW4 sy.n (natI sx.d), ?_⟩
    dsimp only at q
    rw [← rle] at q
    exact ⟨_, _, rfl, rfl, q⟩
abbrev s__law_is_whole : Stmt := topS 34
abbrev N__law_is_whole : List Str := ["thing"]
theorem sc__law_is_whole : FnScope N__law_is_whole ["thing"] (defScope s__law_is_whole) := ⟨rfl, rfl, rfl, by decide +kernel, rfl, by decide +kernel, by decide +kernel⟩
def spLWhole : Sp := fun vs H Q _ => ∃ i : Int, vs = [.int i] ∧ Q (.bl true) H
theorem ok_lwhole (T : Gs K mg) (F : At K mg "_law_is_whole" s__law_is_whole) : Df P w K mg base "_law_is_whole" 1 ["thing"] spLWhole := by
  have sc := sc__law_is_whole
  refine Df.mk' F sc (fun vs H Q E h => ?_) (fun _ _ _ _ _ _ us hl => match us, hl with | [_], _ => rfl) (fun f cdv A outer s H vs Q E hr h => ?_)
  · obtain ⟨i, rfl, _⟩ := h
    rfl
  · obtain ⟨i, rfl, q⟩ := h
    refine ⟨_, (pss_one (ps_ret (pe_and (pe_callB call_isi (by rfl) T.isinstance (by decide +kernel) (pa_cons (pv 0) (pa_cons (pe_bltn (v := .ty "int") (by rfl) T.int_ (by decide +kernel) rfl) pa_nil))) (pe_one (pe_not (pe_callB call_isi (by rfl) T.isinstance (by decide +kernel) (pa_cons (pv 0) (pa_cons (pe_bltn (v := .ty "bool") (by rfl) T.bool_ (by decide +kernel) rfl) pa_nil)))))))), ?_⟩
    refine ⟨_, rfl, _, _, _, _, _, rfl, .ty _, .base (.int i), rfl, _, rfl, ifT rfl ?_⟩
    refine ⟨_, rfl, _, _, _, _, _, rfl, .ty _, .base (.int i), rfl, _, rfl, ?_⟩
    exact q
abbrev s__law_is_fraction : Stmt := topS 35
abbrev N__law_is_fraction : List Str := ["thing"]
theorem sc__law_is_fraction : FnScope N__law_is_fraction ["thing"] (defScope s__law_is_fraction) := ⟨rfl, rfl, rfl, by decide +kernel, rfl, by decide +kernel, by decide +kernel⟩
theorem ok_lfrac (T : Gs K mg) (D__law_is_whole : Df P w K mg base "_law_is_whole" 1 ["thing"] spLWhole) (D__law_common : Df P w K mg base "_law_common" 1 ["one", "two"] spCommon) (F : At K mg "_law_is_fraction" s__law_is_fraction) :
    Df P w K mg base "_law_is_fraction" 2 ["thing"] (spIsFr K) := by
  have sc := sc__law_is_fraction
  refine Df.mk' F sc (fun vs H Q E h => ?_) (fun _ _ _ _ _ _ us hl => match us, hl with | [_], _ => rfl) (fun f cdv A outer s H vs Q E hr h => ?_)
  · obtain ⟨a, q, rfl, _⟩ := h
    rfl
  · obtain ⟨v, x, rfl, hx, q⟩ := h
    obtain ⟨p, rfl, hp⟩ := fqT hx
    refine ⟨_, (pss_cons (ps_if (PW.pt (pw_or (pt_not (pt_val (pe_callB call_isi (by rfl) T.isinstance (by decide +kernel) (pa_cons (pv 0) (pa_cons (pe_bltn (v := .ty "tuple") (by rfl) T.tuple_ (by decide +kernel) rfl) pa_nil))))) (pw_or (pt_cmpR op_ne (pe_callB call_len_seq (by rfl) T.len PySem.boot_len (pa_cons (pv 0) pa_nil)) pe_int (nomark _)) (pw_or (pt_not (pt_val (pe_fn D__law_is_whole (by decide) hr (pa_cons (pe_ix ix_tup (pv 0) pe_int (fun _ _ => rfl)) pa_nil)))) (pw_or1 (pt_not (pt_val (pe_fn D__law_is_whole (by decide) hr (pa_cons (pe_ix ix_tup (pv 0) pe_int (fun _ _ => rfl)) pa_nil))))))))) (pss_one (ps_ret pe_bl)) pss_nil) (pss_one (ps_ret (pe_and (pe_cmpR op_gt (pe_ix ix_tup (pv 0) pe_int (fun _ _ => rfl)) pe_int (nomark _)) (pe_one (pe_cmpR op_eq (pe_fn D__law_common (by decide) hr (pa_cons (pe_ix ix_tup (pv 0) pe_int (fun _ _ => rfl)) (pa_cons (pe_ix ix_tup (pv 0) pe_int (fun _ _ => rfl)) pa_nil))) pe_int (nomark _))))))), ?_⟩
    refine ⟨_, rfl, _, _, _, _, _, rfl, .ty _, tyT hp, rfl, _, rfl, ifF rfl ?_⟩
    refine ⟨_, rfl, _, _, rfl, .inr hp, rfl, _, rfl, ifF (by simp) ?_⟩
    refine ⟨_, rfl, _, _, _, _, rfl, rfl, hp, at20, _, rfl, _, rfl, ifF rfl ?_⟩
    refine ⟨_, rfl, _, _, _, _, rfl, rfl, hp, at21, _, rfl, _, rfl, ifF rfl ?_⟩
    refine ⟨_, rfl, _, _, _, _, rfl, rfl, hp, at21, _, _, rfl, rfl, _, rfl, ifT (decide_eq_true (rden_pos x)) ?_⟩
    refine ⟨_, rfl, _, _, _, _, rfl, rfl, hp, at20, _, rfl, _, _, _, _, rfl, rfl, hp, at21, _, _, rfl, ?_⟩
    have e : Int.gcd x.num (x.den : Int) = 1 := by
      unfold Int.gcd
      rw [Int.natAbs_natCast]
      exact x.reduced
    rw [e]
    exact ⟨rfl, q⟩
end
end V3
set_option maxHeartbeats 8000000
namespace V3
open PySem.Spec PySem L2 PyProof.Rows RZ GxR
/-- rows of whole numbers, so many of them, each so long, the numbers below 2 ^ b -/
def Mat (H : Hp) (p : Addr) (n m b : Nat) : Prop := ∃ xs : List V, H p = some (.lst xs) ∧ xs.length = n ∧ ∀ v ∈ xs, ∃ (q : Addr) (ns : List Int), v = .ref q ∧ H q = some (.lst (ns.map V.int)) ∧ ns.length = m ∧ ∀ x ∈ ns, x.natAbs < 2 ^ b
theorem Mat.same {H H' : Hp} {p : Addr} {n m b : Nat} (h : Mat H p n m b) (s : Same H H') : Mat H' p n m b := by
  obtain ⟨xs, e, l, k⟩ := h
  refine ⟨xs, s _ _ e, l, fun v hv => ?_⟩
  obtain ⟨q, ns, e1, e2, e3⟩ := k v hv
  exact ⟨q, ns, e1, s _ _ e2, e3⟩
theorem atMap {ns : List Int} {i : Nat} (h : i < ns.length) : atI (ns.map V.int) (i : Int) = some (.int (ns[i])) := atI_nat (by rw [List.getElem?_map, List.getElem?_eq_getElem h]; rfl)
theorem sum_lt {B : Nat} : ∀ (xs : List Int), (∀ x ∈ xs, x.natAbs < B) → xs.sum.natAbs ≤ xs.length * B
  | [], _ => by simp
  | x :: r, h => by
    have h1 := h x List.mem_cons_self
    have h2 := sum_lt r fun y hy => h y (List.mem_cons_of_mem _ hy)
    have e : (r.length + 1) * B = r.length * B + B := Nat.succ_mul _ _
    rw [List.sum_cons, List.length_cons, e]
    omega
section
variable {mg : Str → Option Value} {base : Heap} {K : PySem.W.Frag} {P : Program} {w : World}
abbrev s__law_dot : Stmt := topS 36
abbrev N__law_dot : List Str := ["one", "two", "k"]
theorem sc__law_dot : FnScope N__law_dot ["one", "two"] (defScope s__law_dot) := ⟨rfl, rfl, rfl, by decide +kernel, rfl, by decide +kernel, by decide +kernel⟩
def spDot (K : PySem.W.Frag) : Sp := fun vs H Q _ => ∃ (p q : Addr) (xs ys : List Int) (b c : Nat), vs = [.ref p, .ref q] ∧ H p = some (.lst (xs.map V.int)) ∧ H q = some (.lst (ys.map V.int)) ∧ xs.length = ys.length ∧ xs.length ≤ 8 ∧ b ≤ 1000 ∧ c ≤ 1000 ∧
  (∀ x ∈ xs, x.natAbs < 2 ^ b) ∧ (∀ x ∈ ys, x.natAbs < 2 ^ c) ∧ ∀ H' r, Same H H' → r.natAbs < 2 ^ (b + c + 4) → Q (.int r) H'
theorem ok_dot (T : Gs K mg) (F : At K mg "_law_dot" s__law_dot) : Df P w K mg base "_law_dot" 1 ["one", "two"] (spDot K) := by
  have sc := sc__law_dot
  refine Df.mk' F sc (fun vs H Q E h => ?_) (fun _ _ _ _ _ _ us hl => match us, hl with | [_, _], _ => rfl) (fun f cdv A outer s H vs Q E hr h => ?_)
  · obtain ⟨p, q, xs, ys, b, c, rfl, _⟩ := h
    rfl
  · obtain ⟨p, q', xs, ys, b, c, rfl, hp, hq, hl, l8, hb, hc, bx, by', q⟩ := h
    refine ⟨_, (pss_one (ps_ret (pe_callB (cr_sum rfl) (by rfl) T.sum (by decide +kernel) (pa_cons (pe_lc (own := [("k", 2)]) (g := gName 2) rfl sc.nd (pi_range1 rfl T.range (pa_cons (pe_callB call_len_seq (by rfl) T.len PySem.boot_len (pa_cons (pv 0) pa_nil)) pa_nil)) (blkOk_by (own := [("k", 2)]) (N := N__law_dot) (sc := defScope s__law_dot) (by decide +kernel)) (fun _ _ _ _ _ => (pg_name (i := 2) sc.nd rfl (.inl rfl))) (fun _ _ _ _ _ => pts_nil) (fun _ _ _ _ _ => (pe_op op_mulW (pe_ix (ixLK (K := K) rfl) (pv 0) (pv 2) (fun _ _ => rfl)) (pe_ix (ixLK (K := K) rfl) (pv 1) (pv 2) (fun _ _ => rfl))))) pa_nil)))), ?_⟩
    refine ⟨_, rfl, p, _, rfl, .inl (SqL.of hp), ?_⟩
    refine ⟨_, rfl, by omega, by rw [List.length_map]; omega, fun D hD => lc_range (lo := 0) (n := _) (fun i H' => Same H H' ∧ ∃ zs : List Int, H' D = some (.lst (zs.map V.int)) ∧ zs.length = i ∧ ∀ z ∈ zs, z.natAbs < 2 ^ (b + c)) ⟨same_upd hD, [], upd_same, rfl, fun z hz => by cases hz⟩ ?_ ?_⟩
    · rintro i H' hi ⟨sm, zs, hz, lz, bz⟩
      have hi' : i < xs.length := by
        rw [List.length_map] at hi
        omega
      have hi2 : i < ys.length := by omega
      refine ⟨rfl, yesIf ?_⟩
      have e0 : ((0 : Int) + (i : Int)) = (i : Int) := Int.zero_add _
      have b1 := bx _ (List.getElem_mem hi')
      have b2 := by' _ (List.getElem_mem hi2)
      refine ⟨_, rfl, _, rfl, p, _, _, .int xs[i], rfl, rfl, SqL.of (sm _ _ hp), ?_, ?_⟩
      · rw [e0]
        exact atMap hi'
      refine ⟨_, rfl, _, rfl, q', _, _, .int ys[i], rfl, rfl, SqL.of (sm _ _ hq), ?_, ?_⟩
      · rw [e0]
        exact atMap hi2
      refine ⟨_, _, rfl, rfl, wide_mul (a := b + 1) (b := c + 1) (Nat.lt_of_lt_of_le b1 (pw (by omega))) (Nat.lt_of_lt_of_le b2 (pw (by omega))) (by omega) (by omega) (by omega), ?_⟩
      refine ⟨_, hz, small1000 (by rw [List.length_map]; omega), same_updN sm hD, zs ++ [xs[i] * ys[i]], ?_, by rw [List.length_append, lz]; rfl, fun z hz' => ?_⟩
      · rw [upd_same, List.map_append]
        rfl
      · rcases List.mem_append.mp hz' with h | h
        · exact bz z h
        · rw [List.mem_singleton.mp h]
          exact mulI b1 b2
    · rintro H' ⟨sm, zs, hz, lz, bz⟩
      refine ⟨D, zs, rfl, SqL.of hz, q H' _ sm ?_⟩
      have h1 := sum_lt zs bz
      have h2 : zs.length ≤ 8 := by
        rw [List.length_map] at lz
        omega
      have h3 : zs.length * 2 ^ (b + c) ≤ 8 * 2 ^ (b + c) := Nat.mul_le_mul_right _ h2
      have h4 : 2 ^ (b + c + 4) = 2 ^ (b + c) * 16 := by rw [Nat.pow_add]
      have h5 : 0 < 2 ^ (b + c) := Nat.two_pow_pos _
      omega
abbrev s__law_along : Stmt := topS 39
abbrev N__law_along : List Str := ["numbers", "size", "i", "j"]
theorem sc__law_along : FnScope N__law_along ["numbers"] (defScope s__law_along) := ⟨rfl, rfl, rfl, by decide +kernel, rfl, by decide +kernel, by decide +kernel⟩
def spAlong (K : PySem.W.Frag) : Sp := fun vs H Q _ => ∃ (p : Addr) (xs : List Int) (b : Nat), vs = [.ref p] ∧ H p = some (.lst (xs.map V.int)) ∧ xs.length ≤ 8 ∧ (∀ x ∈ xs, x.natAbs < 2 ^ b) ∧ ∀ H' p', Same H H' → H p' = none → Mat H' p' xs.length xs.length b → Q (.ref p') H'
theorem ok_along (T : Gs K mg) (F : At K mg "_law_along" s__law_along) : Df P w K mg base "_law_along" 1 ["numbers"] (spAlong K) := by
  have sc := sc__law_along
  refine Df.mk' F sc (fun vs H Q E h => ?_) (fun _ _ _ _ _ _ us hl => match us, hl with | [_], _ => rfl) (fun f cdv A outer s H vs Q E hr h => ?_)
  · obtain ⟨p, xs, b, rfl, _⟩ := h
    rfl
  · obtain ⟨p, xs, b, rfl, hp, l8, bx, q⟩ := h
    refine ⟨_, (pss_cons (ps_set (i := 1) sc.nd rfl (.inr rfl) (pe_callB call_len_seq (by rfl) T.len PySem.boot_len (pa_cons (pv 0) pa_nil))) (pss_one (ps_ret (pe_lc (own := [("i", 2)]) (g := gName 2) rfl sc.nd (pi_range1 rfl T.range (pa_cons (pv 1) pa_nil)) (blkOk_by (own := [("i", 2)]) (N := N__law_along) (sc := defScope s__law_along) (by decide +kernel)) (fun _ _ _ _ _ => (pg_name (i := 2) sc.nd rfl (.inr rfl))) (fun _ _ _ _ _ => pts_nil) (fun _ _ _ _ _ => (pe_lc (own := [("j", 3)]) (g := gName 3) rfl sc.nd (pi_range1 rfl T.range (pa_cons (pv 1) pa_nil)) (blkOk_by (own := [("j", 3)]) (N := N__law_along) (sc := ({ kind := .function, names := [(".0", .local), ("i", .cell), ("range", .globalImplicit), ("numbers", .cell), ("size", .cell)], isGenerator := false, isCoroutine := false } : Scope)) (by decide +kernel)) (fun _ _ _ _ _ => (pg_name (i := 3) sc.nd rfl (.inl rfl))) (fun _ _ _ _ _ => pts_nil) (fun _ _ _ _ _ => (pe_ifExp (pt_cmpR op_eq (pv 2) (pv 3) (nomark _)) (pe_ix (ixLK (K := K) rfl) (pv 0) (pv 2) (fun _ _ => rfl)) pe_int)))))))), ?_⟩
    refine ⟨_, rfl, p, _, rfl, .inl (SqL.of hp), ?_⟩
    refine ⟨_, rfl, _, rfl, by omega, by rw [List.length_map]; omega, fun D hD => lc_range (lo := 0) (n := _) (fun i H' => Same H H' ∧ ∃ ys : List V, H' D = some (.lst ys) ∧ ys.length = i ∧ ∀ v ∈ ys, ∃ (q : Addr) (ns : List Int), v = .ref q ∧ H' q = some (.lst (ns.map V.int)) ∧ q ≠ D ∧ ns.length = xs.length ∧ ∀ x ∈ ns, x.natAbs < 2 ^ b)
      ⟨same_upd hD, [], upd_same, rfl, fun z hz => by cases hz⟩ ?_ ?_⟩
    · rintro i H1 hi ⟨sm, ys, hy, ly, ky⟩
      have hi' : i < xs.length := by
        rw [List.length_map] at hi
        omega
      refine ⟨rfl, yesIf ?_⟩
      refine ⟨_, rfl, _, rfl, by omega, by rw [List.length_map]; omega, fun D2 hD2 => lc_range (lo := 0) (n := _) (fun j H' => Same H1 H' ∧ ∃ zs : List Int, H' D2 = some (.lst (zs.map V.int)) ∧ zs.length = j ∧ ∀ z ∈ zs, z.natAbs < 2 ^ b)
        ⟨same_upd hD2, [], upd_same, rfl, fun z hz => by cases hz⟩ ?_ ?_⟩
      · rintro j H2 hj ⟨sm2, zs, hz, lz, kz⟩
        have hj' : j < xs.length := by
          rw [List.length_map] at hj
          omega
        refine ⟨rfl, yesIf ?_⟩
        have fin : ∀ z : Int, z.natAbs < 2 ^ b → ∃ acc, H2 D2 = some (.lst acc) ∧ acc.length < sizeLine ∧ Same H1 (upd H2 D2 (.lst (acc ++ [.int z]))) ∧ ∃ zs : List Int, (upd H2 D2 (.lst (acc ++ [.int z]))) D2 = some (.lst (zs.map V.int)) ∧ zs.length = j + 1 ∧ ∀ z ∈ zs, z.natAbs < 2 ^ b := fun z bz => by
          refine ⟨_, hz, small1000 (by rw [List.length_map]; omega), same_updN sm2 hD2, zs ++ [z], ?_, by rw [List.length_append, lz]; rfl, fun y hy' => ?_⟩
          · rw [upd_same, List.map_append]
            rfl
          · rcases List.mem_append.mp hy' with h | h
            · exact kz y h
            · rw [List.mem_singleton.mp h]
              exact bz
        refine ⟨_, rfl, _, rfl, rfl, _, rfl, if2 (fun e => ?_) (fun e => ?_)⟩
        · refine ⟨_, rfl, _, rfl, p, _, _, .int xs[i], rfl, rfl, SqL.of (sm2 _ _ (sm _ _ hp)), ?_, ?_⟩
          · rw [Int.zero_add]
            exact atMap hi'
          · exact fin _ (bx _ (List.getElem_mem hi'))
        · exact fin 0 (Nat.two_pow_pos _)
      · rintro H2 ⟨sm2, zs, hz, lz, kz⟩
        have hne : D2 ≠ D := fun z => by
          rw [z, hy] at hD2
          cases hD2
        refine ⟨ys, sm2 _ _ hy, small1000 (by omega), same_updN (sm.trans sm2) hD, ys ++ [.ref D2], upd_same, by rw [List.length_append, ly]; rfl, fun v hv => ?_⟩
        rcases List.mem_append.mp hv with h | h
        · obtain ⟨q1, ns, e1, e2, e3, e4⟩ := ky v h
          exact ⟨q1, ns, e1, by rw [upd_ne e3]; exact sm2 _ _ e2, e3, e4⟩
        · exact ⟨D2, zs, List.mem_singleton.mp h, by rw [upd_ne hne]; exact hz, hne, by rw [List.length_map] at lz; omega, kz⟩
    · rintro H' ⟨sm, ys, hy, ly, ky⟩
      refine q H' D sm hD ⟨ys, hy, by rw [List.length_map] at ly; omega, fun v hv => ?_⟩
      obtain ⟨q1, ns, e1, e2, e3, e4⟩ := ky v hv
      exact ⟨q1, ns, e1, e2, e4⟩
end
end V3
namespace V3
open PySem.Spec PySem L2 PyProof.Rows RZ GxR
section
variable {mg : Str → Option Value} {base : Heap} {K : PySem.W.Frag} {P : Program} {w : World}
theorem mem6 {x : V} {l : List Int} {i : Nat} (h : (l.map V.int)[i]? = some x) : ∃ n, x = .int n ∧ n ∈ l := by
  obtain ⟨n, hn, e⟩ := List.mem_map.mp (List.mem_of_getElem? h)
  exact ⟨n, e.symm, hn⟩
abbrev s__law_mirror : Stmt := topS 38
abbrev N__law_mirror : List Str := ["well", "size", "eye", "by", "turn", "i", "j"]
theorem sc__law_mirror : FnScope N__law_mirror ["well", "size"] (defScope s__law_mirror) := ⟨rfl, rfl, rfl, by decide +kernel, rfl, by decide +kernel, by decide +kernel⟩
def spMirror : Sp := fun vs H Q _ => ∃ (a : Addr) (n k : Nat), vs = [.ref a, .int n] ∧ Well H a k ∧ k ≤ 900000 ∧ 1 ≤ n ∧ n ≤ 5 ∧ ∀ H' p pm z, But a H H' → Well H' a (k + 5) → H' p = some (.tup [.ref pm, .int z]) → Mat H' pm n n 20 → z.natAbs < 2 ^ 40 → Q (.ref p) H'
theorem ok_mirror (T : Gs K mg) (D__law_pick : Df P w K mg base "_law_pick" 2 ["well", "some"] (spPick K)) (D__law_dot : Df P w K mg base "_law_dot" 1 ["one", "two"] (spDot K)) (F : At K mg "_law_mirror" s__law_mirror) : Df P w K mg base "_law_mirror" 3 ["well", "size"] spMirror := by
  have sc := sc__law_mirror
  refine Df.mk' F sc (fun vs H Q E h => ?_) (fun _ _ _ _ _ _ us hl => match us, hl with | [_, _], _ => rfl) (fun f cdv A outer s H vs Q E hr h => ?_)
  · obtain ⟨a, n, k, rfl, _⟩ := h
    rfl
  · obtain ⟨a, n, k, rfl, hw, kl, n1, n5, q⟩ := h
    refine ⟨_, (pss_cons (ps_set (i := 2) sc.nd rfl (.inr rfl) (pe_lc (own := [("turn", 4)]) (g := gName 4) rfl sc.nd (pi_range1 rfl T.range (pa_cons (pv 1) pa_nil)) (blkOk_by (own := [("turn", 4)]) (N := N__law_mirror) (sc := defScope s__law_mirror) (by decide +kernel)) (fun _ _ _ _ _ => (pg_name (i := 4) sc.nd rfl (.inl rfl))) (fun _ _ _ _ _ => pts_nil) (fun _ _ _ _ _ => (pe_fn D__law_pick (by decide) hr (pa_cons (pv 0) (pa_cons (pe_lst (pa_cons pe_int (pa_cons pe_int (pa_cons (pe_un un_neg pe_int) (pa_cons pe_int (pa_cons pe_int (pa_cons pe_int pa_nil))))))) pa_nil)))))) (pss_cons (ps_if (pt_cmpR op_eq (pe_fn D__law_dot (by decide) hr (pa_cons (pv 2) (pa_cons (pv 2) pa_nil))) pe_int (nomark _)) (pss_one (ps_asg pe_int (pg_sub (pv 2) pe_int set_list))) pss_nil) (pss_cons (ps_set (i := 3) sc.nd rfl (.inr rfl) (pe_fn D__law_dot (by decide) hr (pa_cons (pv 2) (pa_cons (pv 2) pa_nil)))) (pss_one (ps_ret (pe_tup (pa_cons (pe_lc (own := [("i", 5)]) (g := gName 5) rfl sc.nd (pi_range1 rfl T.range (pa_cons (pv 1) pa_nil)) (blkOk_by (own := [("i", 5)]) (N := N__law_mirror) (sc := defScope s__law_mirror) (by decide +kernel)) (fun _ _ _ _ _ => (pg_name (i := 5) sc.nd rfl (.inr rfl))) (fun _ _ _ _ _ => pts_nil) (fun _ _ _ _ _ => (pe_lc (own := [("j", 6)]) (g := gName 6) rfl sc.nd (pi_range1 rfl T.range (pa_cons (pv 1) pa_nil)) (blkOk_by (own := [("j", 6)]) (N := N__law_mirror) (sc := ({ kind := .function, names := [(".0", .local), ("i", .cell), ("range", .globalImplicit), ("by", .cell), ("eye", .cell), ("size", .cell)], isGenerator := false, isCoroutine := false } : Scope)) (by decide +kernel)) (fun _ _ _ _ _ => (pg_name (i := 6) sc.nd rfl (.inl rfl))) (fun _ _ _ _ _ => pts_nil) (fun _ _ _ _ _ => (pe_op op_sub (pe_ifExp (pt_cmpR op_eq (pv 5) (pv 6) (nomark _)) (pv 3) pe_int) (pe_op op_mulW (pe_op op_mulW pe_int (pe_ix (ixLK (K := K) rfl) (pv 2) (pv 5) (fun _ _ => rfl))) (pe_ix (ixLK (K := K) rfl) (pv 2) (pv 6) (fun _ _ => rfl)))))))) (pa_cons (pe_op op_mulW (pv 3) (pv 3)) pa_nil)))))))), ?_⟩
    have hne : ∀ {D : Addr}, H D = none → a ≠ D := fun e => hw.ne e
    refine ⟨_, rfl, _, rfl, by omega, by omega, fun D hD => lc_range (lo := 0) (n := _) (fun i H' => But a H H' ∧ Well H' a (k + i) ∧ ∃ zs : List Int, H' D = some (.lst (zs.map V.int)) ∧ zs.length = i ∧ ∀ z ∈ zs, z.natAbs < 2 ^ 2)
      ⟨Same.but (same_upd hD), hw.same (same_upd hD), [], upd_same, rfl, fun z hz => by cases hz⟩ ?_ ?_⟩
    · rintro i H1 hi ⟨b1, w1, zs, hz, lz, kz⟩
      have hi' : i < n := by omega
      refine ⟨rfl, yesIf ?_⟩
      refine ⟨_, rfl, _, rfl, by show 6 ≤ sizeLine; decide, fun pl hpl => ?_⟩
      have s2 : Same H1 (upd H1 pl (.lst (([1, 1, -1, 2, 3, 0] : List Int).map V.int))) := same_upd hpl
      refine ⟨a, pl, ([1, 1, -1, 2, 3, 0] : List Int).map V.int, k + i, rfl, w1.same s2, by omega, upd_same, w1.ne hpl, by decide, by decide, fun H2 j x b2 w2 hx => ?_⟩
      obtain ⟨z, rfl, hm⟩ := mem6 hx
      have bz : z.natAbs < 2 ^ 2 := by
        (simp only [List.mem_cons, List.not_mem_nil, or_false] at hm)
        omega
      have hz2 : H2 D = some (.lst (zs.map V.int)) := b2 _ _ (Ne.symm (hne hD)) (s2 _ _ hz)
      refine ⟨_, hz2, small1000 (by rw [List.length_map]; omega), ((b1.trans (Same.but s2)).trans b2).updN hD, w2.upd (hne hD), zs ++ [z], ?_, by rw [List.length_append, lz]; rfl, fun y hy => ?_⟩
      · rw [upd_same, List.map_append]
        rfl
      · rcases List.mem_append.mp hy with h | h
        · exact kz y h
        · rw [List.mem_singleton.mp h]
          exact bz
    · rintro H1 ⟨b1, w1, zs, hz, lz, kz⟩
      have lz' : zs.length = n := by omega
      refine ⟨_, rfl, _, rfl, D, D, zs, zs, 2, 2, rfl, hz, hz, rfl, by omega, by decide, by decide, kz, kz, fun H2 r0 s2 br0 => ?_⟩
      refine ⟨rfl, _, rfl, if2 (fun e => ?a) (fun e => ?b)⟩
      case' a =>
        have hz2 := s2 _ _ hz
        refine ⟨_, rfl, D, _, _, 0, rfl, rfl, hz2, ixNat rfl (by rw [List.length_map]; omega), ?_⟩
        have hz3 : (upd H2 D (.lst ((zs.map V.int).set 0 (.int 1)))) D = some (.lst ((zs.set 0 1).map V.int)) := by rw [upd_same, List.map_set]
        have b3 : But a H (upd H2 D (.lst ((zs.map V.int).set 0 (.int 1)))) := (b1.trans (Same.but s2)).updN hD
        have w3 : Well (upd H2 D (.lst ((zs.map V.int).set 0 (.int 1)))) a (k + 5) := ((w1.same s2).mono (by omega)).upd (hne hD)
        have l3 : (zs.set 0 1).length = n := by rw [List.length_set]; exact lz'
        have k3 : ∀ z ∈ zs.set 0 1, z.natAbs < 2 ^ 2 := fun z hz' => by
          rcases List.mem_or_eq_of_mem_set hz' with h | h
          · exact kz z h
          · rw [h]
            decide
        generalize upd H2 D (.lst ((zs.map V.int).set 0 (.int 1))) = H3 at hz3 b3 w3
        generalize zs.set 0 1 = z3 at hz3 l3 k3
      case' b =>
        have hz3 := s2 _ _ hz
        have b3 : But a H H2 := b1.trans (Same.but s2)
        have w3 : Well H2 a (k + 5) := (w1.same s2).mono (by omega)
        have l3 := lz'
        have k3 := kz
        generalize H2 = H3 at hz3 b3 w3
        generalize zs = z3 at hz3 l3 k3
      all_goals
        clear hz s2 lz lz' kz w1 b1
        refine ⟨_, rfl, _, rfl, D, D, z3, z3, 2, 2, rfl, hz3, hz3, rfl, by omega, by decide, by decide, k3, k3, fun H4 r s4 br => ?_⟩
        have hz4 := s4 _ _ hz3
        refine ⟨_, rfl, _, rfl, by omega, by omega, fun D1 hD1 => lc_range (lo := 0) (n := _) (fun i H' => Same H4 H' ∧ ∃ ys : List V, H' D1 = some (.lst ys) ∧ ys.length = i ∧ ∀ v ∈ ys, ∃ (q : Addr) (ns : List Int), v = .ref q ∧ H' q = some (.lst (ns.map V.int)) ∧ q ≠ D1 ∧ ns.length = n ∧ ∀ x ∈ ns, x.natAbs < 2 ^ 20)
          ⟨same_upd hD1, [], upd_same, rfl, fun z hz => by cases hz⟩ ?_ ?_⟩
        · rintro i H5 hi ⟨sm, ys, hy, ly, ky⟩
          have hi' : i < z3.length := by omega
          refine ⟨rfl, yesIf ?_⟩
          refine ⟨_, rfl, _, rfl, by omega, by omega, fun D2 hD2 => lc_range (lo := 0) (n := _) (fun j H' => Same H5 H' ∧ ∃ zs : List Int, H' D2 = some (.lst (zs.map V.int)) ∧ zs.length = j ∧ ∀ z ∈ zs, z.natAbs < 2 ^ 20)
            ⟨same_upd hD2, [], upd_same, rfl, fun z hz => by cases hz⟩ ?_ ?_⟩
          · rintro j H6 hj ⟨sm2, zz, hzz, lzz, kzz⟩
            have hj' : j < z3.length := by omega
            have hz6 := sm2 _ _ (sm _ _ hz4)
            refine ⟨rfl, yesIf ?_⟩
            have e1 := k3 _ (List.getElem_mem hi')
            have e2 := k3 _ (List.getElem_mem hj')
            have m1 : ((2 : Int) * z3[i]).natAbs < 2 ^ 4 := mulI (a := 2) (b := 2) (by decide) e1
            have m2 : ((2 : Int) * z3[i] * z3[j]).natAbs < 2 ^ 6 := mulI (b := 2) m1 e2
            have fin : ∀ x : Int, x.natAbs < 2 ^ 8 → ∃ acc, H6 D2 = some (.lst acc) ∧ acc.length < sizeLine ∧ Same H5 (upd H6 D2 (.lst (acc ++ [.int (x - 2 * z3[i] * z3[j])]))) ∧ ∃ zs : List Int, (upd H6 D2 (.lst (acc ++ [.int (x - 2 * z3[i] * z3[j])]))) D2 = some (.lst (zs.map V.int)) ∧ zs.length = j + 1 ∧ ∀ z ∈ zs, z.natAbs < 2 ^ 20 := fun x bx => by
              refine ⟨_, hzz, small1000 (by rw [List.length_map]; omega), same_updN sm2 hD2, zz ++ [x - 2 * z3[i] * z3[j]], ?_, by rw [List.length_append, lzz]; rfl, fun y hy' => ?_⟩
              · rw [upd_same, List.map_append]
                rfl
              · rcases List.mem_append.mp hy' with h | h
                · exact kzz y h
                · rw [List.mem_singleton.mp h]
                  exact Nat.lt_of_lt_of_le (sub_lt_pw (a := 8) bx (Nat.lt_of_lt_of_le m2 (pw (by decide)))) (pw (by decide))
            refine ⟨_, rfl, _, rfl, rfl, _, rfl, if2 (fun e => ?_) (fun e => ?_)⟩
            all_goals
              first
                | refine ⟨_, rfl, _, rfl, D, _, _, .int z3[i], rfl, rfl, SqL.of hz6, ?_, ?_⟩
                | refine ⟨_, rfl, _, rfl, _, rfl, D, _, _, .int z3[i], rfl, rfl, SqL.of hz6, ?_, ?_⟩
              · rw [Int.zero_add]
                exact atMap hi'
              refine ⟨_, _, rfl, rfl, wide_mul (a := 2) (b := 2) (by decide) e1 (by decide) (by decide) (by decide), ?_⟩
              refine ⟨_, rfl, _, rfl, D, _, _, .int z3[j], rfl, rfl, SqL.of hz6, ?_, ?_⟩
              · rw [Int.zero_add]
                exact atMap hj'
              refine ⟨_, _, rfl, rfl, wide_mul (a := 4) (b := 2) m1 e2 (by decide) (by decide) (by decide), ?_⟩
              refine ⟨_, _, rfl, rfl, ?_⟩
              first
                | exact fin r br
                | exact fin 0 (by decide)
          · rintro H6 ⟨sm2, zz, hzz, lzz, kzz⟩
            have hn2 : D2 ≠ D1 := fun z => by
              rw [z, hy] at hD2
              cases hD2
            refine ⟨ys, sm2 _ _ hy, small1000 (by omega), same_updN (sm.trans sm2) hD1, ys ++ [.ref D2], upd_same, by rw [List.length_append, ly]; rfl, fun v hv => ?_⟩
            rcases List.mem_append.mp hv with h | h
            · obtain ⟨q1, ns, e1, e2, e3, e4⟩ := ky v h
              exact ⟨q1, ns, e1, by rw [upd_ne e3]; exact sm2 _ _ e2, e3, e4⟩
            · exact ⟨D2, zz, List.mem_singleton.mp h, by rw [upd_ne hn2]; exact hzz, hn2, by omega, kzz⟩
        · rintro H5 ⟨sm, ys, hy, ly, ky⟩
          refine ⟨_, rfl, _, rfl, _, _, rfl, rfl, wide_mul (a := 8) (b := 8) br br (by decide) (by decide) (by decide), by show 2 ≤ sizeLine; decide, fun p hp => ?_⟩
          have s5 := same_upd (o := .tup [.ref D1, .int (r * r)]) hp
          have s45 := s4.trans (sm.trans s5)
          refine q _ p D1 (r * r) (b3.trans (Same.but s45)) (w3.same s45) upd_same ?_ (Nat.lt_of_lt_of_le (mulI br br) (pw (by decide)))
          refine Mat.same ⟨ys, hy, by omega, fun v hv => ?_⟩ s5
          obtain ⟨q1, ns, e1, e2, e3, e4⟩ := ky v hv
          exact ⟨q1, ns, e1, e2, e4⟩
end
end V3
namespace V3
open PySem.Spec PySem L2 PyProof.Rows RZ GxR
section
variable {mg : Str → Option Value} {base : Heap} {K : PySem.W.Frag} {P : Program} {w : World}
abbrev s__law_framed : Stmt := topS 37
abbrev N__law_framed : List Str := ["ways", "rows", "leds", "way", "row", "led"]
theorem sc__law_framed : FnScope N__law_framed ["ways", "rows"] (defScope s__law_framed) := ⟨rfl, rfl, rfl, by decide +kernel, rfl, by decide +kernel, by decide +kernel⟩
def spFramed : Sp := fun vs H Q _ => ∃ (p q : Addr) (n b c : Nat), vs = [.ref p, .ref q] ∧ Mat H p n n b ∧ Mat H q n n c ∧ n ≤ 5 ∧ b ≤ 100 ∧ c ≤ 100 ∧ ∀ H' r, Same H H' → Q (.ref r) H'
theorem ok_framed (T : Gs K mg) (D__law_dot : Df P w K mg base "_law_dot" 1 ["one", "two"] (spDot K)) (F : At K mg "_law_framed" s__law_framed) : Df P w K mg base "_law_framed" 2 ["ways", "rows"] spFramed := by
  have sc := sc__law_framed
  refine Df.mk' F sc (fun vs H Q E h => ?_) (fun _ _ _ _ _ _ us hl => match us, hl with | [_, _], _ => rfl) (fun f cdv A outer s H vs Q E hr h => ?_)
  · obtain ⟨p, q, n, b, c, rfl, _⟩ := h
    rfl
  · obtain ⟨p, q', n, b, c, rfl, hp, hq, n5, hb, hc, q⟩ := h
    refine ⟨_, (pss_cons (ps_set (i := 2) sc.nd rfl (.inr rfl) (pe_lc (own := [("way", 3)]) (g := gName 3) rfl sc.nd (pi_list (pv 0)) (blkOk_by (own := [("way", 3)]) (N := N__law_framed) (sc := defScope s__law_framed) (by decide +kernel)) (fun _ _ _ _ _ => (pg_name (i := 3) sc.nd rfl (.inr rfl))) (fun _ _ _ _ _ => pts_nil) (fun _ _ _ _ _ => (pe_lc (own := [("row", 4)]) (g := gName 4) rfl sc.nd (pi_listK (K := K) rfl (pv 1)) (blkOk_by (own := [("row", 4)]) (N := N__law_framed) (sc := ({ kind := .function, names := [(".0", .local), ("way", .cell), ("rows", .cell)], isGenerator := false, isCoroutine := false } : Scope)) (by decide +kernel)) (fun _ _ _ _ _ => (pg_name (i := 4) sc.nd rfl (.inl rfl))) (fun _ _ _ _ _ => pts_nil) (fun _ _ _ _ _ => (pe_fn D__law_dot (by decide) hr (pa_cons (pv 4) (pa_cons (pv 3) pa_nil)))))))) (pss_one (ps_ret (pe_lc (own := [("way", 3)]) (g := gName 3) rfl sc.nd (pi_list (pv 0)) (blkOk_by (own := [("way", 3)]) (N := N__law_framed) (sc := defScope s__law_framed) (by decide +kernel)) (fun _ _ _ _ _ => (pg_name (i := 3) sc.nd rfl (.inr rfl))) (fun _ _ _ _ _ => pts_nil) (fun _ _ _ _ _ => (pe_lc (own := [("led", 5)]) (g := gName 5) rfl sc.nd (pi_listK (K := K) rfl (pv 2)) (blkOk_by (own := [("led", 5)]) (N := N__law_framed) (sc := ({ kind := .function, names := [(".0", .local), ("way", .cell), ("leds", .cell)], isGenerator := false, isCoroutine := false } : Scope)) (by decide +kernel)) (fun _ _ _ _ _ => (pg_name (i := 5) sc.nd rfl (.inl rfl))) (fun _ _ _ _ _ => pts_nil) (fun _ _ _ _ _ => (pe_fn D__law_dot (by decide) hr (pa_cons (pv 3) (pa_cons (pv 5) pa_nil)))))))))), ?_⟩
    obtain ⟨xs, hxs, lx, kx⟩ := hp
    obtain ⟨ys, hys, ly, ky⟩ := hq
    refine ⟨_, rfl, p, rfl, ⟨_, SqL.of hxs⟩, fun D hD => lc_list (K := K) (a := p) (xs := xs) (fun i H' => Same H H' ∧ ∃ zs : List V, H' D = some (.lst zs) ∧ zs.length = i ∧ ∀ v ∈ zs, ∃ (q : Addr) (ns : List Int), v = .ref q ∧ H' q = some (.lst (ns.map V.int)) ∧ q ≠ D ∧ ns.length = n ∧ ∀ x ∈ ns, x.natAbs < 2 ^ 204)
      ⟨same_upd hD, [], upd_same, rfl, fun z hz => by cases hz⟩ (fun i H' _ h => SqL.of (h.1 _ _ hxs)) ?_ ?_⟩
    · rintro i x H1 hi ⟨sm, zs, hz, lz, kz⟩
      obtain ⟨qw, nw, rfl, hqw, lw, kw⟩ := kx x (List.mem_of_getElem? hi)
      have hil : i < xs.length := (List.getElem?_eq_some_iff.mp hi).1
      refine ⟨rfl, yesIf ?_⟩
      refine ⟨_, rfl, q', rfl, ⟨_, SqL.of (sm _ _ hys)⟩, fun D2 hD2 => lc_list (K := K) (a := q') (xs := ys) (fun j H' => Same H1 H' ∧ ∃ zs : List Int, H' D2 = some (.lst (zs.map V.int)) ∧ zs.length = j ∧ ∀ z ∈ zs, z.natAbs < 2 ^ 204)
        ⟨same_upd hD2, [], upd_same, rfl, fun z hz => by cases hz⟩ (fun j H' _ h => SqL.of (h.1 _ _ (sm _ _ hys))) ?_ ?_⟩
      · rintro j y H2 hj ⟨sm2, zz, hzz, lzz, kzz⟩
        obtain ⟨qr, nr, rfl, hqr, lr, kr⟩ := ky y (List.mem_of_getElem? hj)
        have hjl : j < ys.length := (List.getElem?_eq_some_iff.mp hj).1
        have s12 := sm.trans sm2
        refine ⟨rfl, yesIf ?_⟩
        refine ⟨_, rfl, _, rfl, qr, qw, nr, nw, c, b, rfl, s12 _ _ hqr, s12 _ _ hqw, by omega, by omega, by omega, by omega, kr, kw, fun H3 r s3 br => ?_⟩
        refine ⟨_, s3 _ _ hzz, small1000 (by rw [List.length_map]; omega), same_updN (sm2.trans s3) hD2, zz ++ [r], ?_, by rw [List.length_append, lzz]; rfl, fun y hy' => ?_⟩
        · rw [upd_same, List.map_append]
          rfl
        · rcases List.mem_append.mp hy' with h | h
          · exact kzz y h
          · rw [List.mem_singleton.mp h]
            exact Nat.lt_of_lt_of_le br (pw (by omega))
      · rintro H2 ⟨sm2, zz, hzz, lzz, kzz⟩
        have hn2 : D2 ≠ D := fun z => by
          rw [z, hz] at hD2
          cases hD2
        refine ⟨zs, sm2 _ _ hz, small1000 (by omega), same_updN (sm.trans sm2) hD, zs ++ [.ref D2], upd_same, by rw [List.length_append, lz]; rfl, fun v hv => ?_⟩
        rcases List.mem_append.mp hv with h | h
        · obtain ⟨q1, ns, e1, e2, e3, e4⟩ := kz v h
          exact ⟨q1, ns, e1, by rw [upd_ne e3]; exact sm2 _ _ e2, e3, e4⟩
        · exact ⟨D2, zz, List.mem_singleton.mp h, by rw [upd_ne hn2]; exact hzz, hn2, by omega, kzz⟩
    · rintro H1 ⟨sm, zs, hz, lz, kz⟩
      refine ⟨_, rfl, p, rfl, ⟨_, SqL.of (sm _ _ hxs)⟩, fun D3 hD3 => lc_list (K := K) (a := p) (xs := xs) (fun i H' => Same H1 H' ∧ ∃ zs : List V, H' D3 = some (.lst zs) ∧ zs.length = i)
        ⟨same_upd hD3, [], upd_same, rfl⟩ (fun i H' _ h => SqL.of (h.1 _ _ (sm _ _ hxs))) ?_ ?_⟩
      · rintro i x H2 hi ⟨sm2, us, hu, lu⟩
        obtain ⟨qw, nw, rfl, hqw, lw, kw⟩ := kx x (List.mem_of_getElem? hi)
        have hil : i < xs.length := (List.getElem?_eq_some_iff.mp hi).1
        have s12 := sm.trans sm2
        refine ⟨rfl, yesIf ?_⟩
        refine ⟨_, rfl, D, rfl, ⟨_, SqL.of (sm2 _ _ hz)⟩, fun D2 hD2 => lc_list (K := K) (a := D) (xs := zs) (fun j H' => Same H2 H' ∧ ∃ us : List V, H' D2 = some (.lst us) ∧ us.length = j)
          ⟨same_upd hD2, [], upd_same, rfl⟩ (fun j H' _ h => SqL.of (h.1 _ _ (sm2 _ _ hz))) ?_ ?_⟩
        · rintro j y H3 hj ⟨sm3, zz, hzz, lzz⟩
          obtain ⟨qr, nr, rfl, hqr, hne, lr, kr⟩ := kz y (List.mem_of_getElem? hj)
          have hjl : j < zs.length := (List.getElem?_eq_some_iff.mp hj).1
          refine ⟨rfl, yesIf ?_⟩
          refine ⟨_, rfl, _, rfl, qw, qr, nw, nr, b, 204, rfl, (s12.trans sm3) _ _ hqw, (sm2.trans sm3) _ _ hqr, by omega, by omega, by omega, by omega, kw, kr, fun H4 r s4 br => ?_⟩
          exact ⟨_, s4 _ _ hzz, small1000 (by omega), same_updN (sm3.trans s4) hD2, zz ++ [.int r], upd_same, by rw [List.length_append, lzz]; rfl⟩
        · rintro H3 ⟨sm3, zz, hzz, lzz⟩
          exact ⟨us, sm3 _ _ hu, small1000 (by omega), same_updN (sm2.trans sm3) hD3, us ++ [.ref D2], upd_same, by rw [List.length_append, lu]; rfl⟩
      · rintro H2 ⟨sm2, _⟩
        exact q H2 D3 (sm.trans sm2)
end
end V3
namespace V3
open PySem.Spec PySem L2 PyProof.Rows RZ GxR
section
variable {mg : Str → Option Value} {base : Heap} {K : PySem.W.Frag} {P : Program} {w : World}
theorem lt9000 {u : Int} (h1 : 0 ≤ u) (h2 : u < 2 ^ 40) : u.natAbs < 2 ^ 9000 := Nat.lt_of_lt_of_le (show u.natAbs < 2 ^ 40 by omega) (pw (by decide))
theorem bq_small {n u : Int} {b : Nat} (h : 0 < u) (hn : n.natAbs < 2 ^ b) (hu : u.natAbs < 2 ^ b) : Bq b (Rat.divInt n u) := bq_div h hn hu
abbrev s__law_number : Stmt := topS 40
abbrev N__law_number : List Str := ["well"]
theorem sc__law_number : FnScope N__law_number ["well"] (defScope s__law_number) := ⟨rfl, rfl, rfl, by decide +kernel, rfl, by decide +kernel, by decide +kernel⟩
def spNumber : Sp := fun vs H Q _ => ∃ (a : Addr) (k : Nat), vs = [.ref a] ∧ Well H a k ∧ k ≤ 900000 ∧ ∀ H' p x, But a H H' → Well H' a (k + 3) → H' p = some (frO x) → Bq 20 x → Q (.ref p) H'
theorem ok_number (T : Gs K mg) (D__law_draw : Df P w K mg base "_law_draw" 1 ["well", "size"] spDraw) (D__law_pick : Df P w K mg base "_law_pick" 2 ["well", "some"] (spPick K)) (D__law_lowest : Df P w K mg base "_law_lowest" 2 ["upper", "lower"] spFrac) (F : At K mg "_law_number" s__law_number) :
    Df P w K mg base "_law_number" 3 ["well"] spNumber := by
  have sc := sc__law_number
  refine Df.mk' F sc (fun vs H Q E h => ?_) (fun _ _ _ _ _ _ us hl => match us, hl with | [_], _ => rfl) (fun f cdv A outer s H vs Q E hr h => ?_)
  · obtain ⟨a, k, rfl, _⟩ := h
    rfl
  · obtain ⟨a, k, rfl, hw, kl, q⟩ := h
    refine ⟨_, (pss_cons (ps_if (pt_cmpR op_eq (pe_fn D__law_draw (by decide) hr (pa_cons (pv 0) (pa_cons pe_int pa_nil))) pe_int (nomark _)) (pss_one (ps_ret (pe_fn D__law_lowest (by decide) hr (pa_cons (pe_op op_sub (pe_fn D__law_draw (by decide) hr (pa_cons (pv 0) (pa_cons pe_int pa_nil))) pe_int) (pa_cons (pe_op op_add pe_int (pe_fn D__law_draw (by decide) hr (pa_cons (pv 0) (pa_cons pe_int pa_nil)))) pa_nil))))) pss_nil) (pss_one (ps_ret (pe_fn D__law_lowest (by decide) hr (pa_cons (pe_op op_sub (pe_fn D__law_draw (by decide) hr (pa_cons (pv 0) (pa_cons pe_int pa_nil))) pe_int) (pa_cons (pe_fn D__law_pick (by decide) hr (pa_cons (pv 0) (pa_cons (pe_lst (pa_cons pe_int (pa_cons pe_int (pa_cons pe_int (pa_cons pe_int (pa_cons pe_int (pa_cons pe_int (pa_cons pe_int pa_nil)))))))) pa_nil))) pa_nil)))))), ?_⟩
    refine ⟨_, rfl, a, _, k, rfl, hw, by omega, by decide, by decide, fun H1 d1 b1 w1 d10 d1l => ?_⟩
    refine ⟨rfl, _, rfl, if2 (fun e => ?_) (fun e => ?_)⟩
    · refine ⟨_, rfl, a, _, k + 1, rfl, w1, by omega, by decide, by decide, fun H2 d2 b2 w2 d20 d2l => ?_⟩
      refine ⟨_, _, rfl, rfl, ?_⟩
      refine ⟨_, rfl, a, _, k + 2, rfl, w2, by omega, by decide, by decide, fun H3 d3 b3 w3 d30 d3l => ?_⟩
      refine ⟨_, _, rfl, rfl, _, _, rfl, by omega, lt9000 (by omega) (by omega), fun H4 p s4 hp => ?_⟩
      exact q H4 _ _ (((b1.trans b2).trans b3).trans (Same.but s4)) (w3.same s4) hp (bq_small (by omega) (by omega) (by omega))
    · refine ⟨_, rfl, a, _, k + 1, rfl, w1, by omega, by decide, by decide, fun H2 d2 b2 w2 d20 d2l => ?_⟩
      refine ⟨_, _, rfl, rfl, ?_⟩
      refine ⟨_, rfl, by show 7 ≤ sizeLine; decide, fun pl hpl => ?_⟩
      have s2 : Same H2 (upd H2 pl (.lst (([1, 1, 1, 1, 2, 3, 4] : List Int).map V.int))) := same_upd hpl
      refine ⟨a, pl, ([1, 1, 1, 1, 2, 3, 4] : List Int).map V.int, k + 2, rfl, w2.same s2, by omega, upd_same, w2.ne hpl, by decide, by decide, fun H3 j x b3 w3 hx => ?_⟩
      obtain ⟨z, rfl, hm⟩ := mem6 hx
      have bz : 1 ≤ z ∧ z ≤ 4 := by
        (simp only [List.mem_cons, List.not_mem_nil, or_false] at hm)
        omega
      refine ⟨_, _, rfl, by omega, lt9000 (by omega) (by omega), fun H4 p s4 hp => ?_⟩
      exact q H4 _ _ ((((b1.trans b2).trans (Same.but s2)).trans b3).trans (Same.but s4)) (w3.same s4) hp (bq_small (by omega) (by omega) (by omega))
abbrev s__law_plant : Stmt := topS 41
abbrev N__law_plant : List Str := ["well", "size", "scale", "some", "roots", "led", "by", "turn", "root"]
theorem sc__law_plant : FnScope N__law_plant ["well"] (defScope s__law_plant) := ⟨rfl, rfl, rfl, by decide +kernel, rfl, by decide +kernel, by decide +kernel⟩
def spPlant (K : PySem.W.Frag) : Sp := fun vs H Q _ => ∃ (a : Addr) (k : Nat), vs = [.ref a] ∧ Well H a k ∧ k ≤ 800000 ∧
  ∀ H' p r1 z pr vs (qs : List Rat) (sc : Nat), But a H H' → Well H' a (k + 30) → H' p = some (.tup [.ref r1, .int z, .ref pr]) → H' pr = some (.lst vs) → a ≠ pr → DpTAll K H' vs (qs.map frd) → 1 ≤ qs.length → qs.length ≤ 5 → 1 ≤ sc → sc ≤ 3 → (∀ q ∈ qs, Sc sc 6 q) → Q (.ref p) H'
theorem ok_plant (T : Gs K mg) (D__law_draw : Df P w K mg base "_law_draw" 1 ["well", "size"] spDraw) (D__law_pick : Df P w K mg base "_law_pick" 2 ["well", "some"] (spPick K)) (D__law_lowest : Df P w K mg base "_law_lowest" 2 ["upper", "lower"] spFrac)
    (D__law_mirror : Df P w K mg base "_law_mirror" 3 ["well", "size"] spMirror) (D__law_framed : Df P w K mg base "_law_framed" 2 ["ways", "rows"] spFramed) (D__law_along : Df P w K mg base "_law_along" 1 ["numbers"] (spAlong K)) (F : At K mg "_law_plant" s__law_plant) :
    Df P w K mg base "_law_plant" 4 ["well"] (spPlant K) := by
  have sc := sc__law_plant
  refine Df.mk' F sc (fun vs H Q E h => ?_) (fun _ _ _ _ _ _ us hl => match us, hl with | [_], _ => rfl) (fun f cdv A outer s H vs Q E hr h => ?_)
  · obtain ⟨a, k, rfl, _⟩ := h
    rfl
  · obtain ⟨a, k, rfl, hw, kl, q⟩ := h
    refine ⟨_, (pss_cons (ps_asg (pe_tup (pa_cons (pe_op op_add pe_int (pe_fn D__law_draw (by decide) hr (pa_cons (pv 0) (pa_cons pe_int pa_nil)))) (pa_cons (pe_fn D__law_pick (by decide) hr (pa_cons (pv 0) (pa_cons (pe_lst (pa_cons pe_int (pa_cons pe_int (pa_cons pe_int (pa_cons pe_int (pa_cons pe_int pa_nil)))))) pa_nil))) pa_nil))) (pg_tup rfl (pgs_cons (pg_name (i := 1) sc.nd rfl (.inl rfl)) (pgs_cons (pg_name (i := 2) sc.nd rfl (.inr rfl)) pgs_nil)))) (pss_cons (ps_set (i := 3) sc.nd rfl (.inr rfl) (pe_lc (own := [("turn", 7)]) (g := gName 7) rfl sc.nd (pi_range1 rfl T.range (pa_cons pe_int pa_nil)) (blkOk_by (own := [("turn", 7)]) (N := N__law_plant) (sc := defScope s__law_plant) (by decide +kernel)) (fun _ _ _ _ _ => (pg_name (i := 7) sc.nd rfl (.inl rfl))) (fun _ _ _ _ _ => pts_nil) (fun _ _ _ _ _ => (pe_op op_sub (pe_fn D__law_draw (by decide) hr (pa_cons (pv 0) (pa_cons pe_int pa_nil))) pe_int)))) (pss_cons (ps_setLc (i := 4) (own := [("turn", 7)]) (g := gName 7) rfl sc.nd rfl rfl (sw_true rfl rfl rfl (by decide +kernel)) (pi_range1 rfl T.range (pa_cons (pv 1) pa_nil)) (blkOk_by (own := [("turn", 7)]) (N := N__law_plant) (sc := defScope s__law_plant) (by decide +kernel)) (fun _ _ _ _ _ => (pg_name (i := 7) sc.nd rfl (.inl rfl))) (fun _ _ _ _ _ => pts_nil) (fun _ _ _ _ _ => (pe_fn D__law_pick (by decide) hr (pa_cons (pv 0) (pa_cons (pe_op op_cat (pv 3) (pe_lst (pa_cons (pe_op op_sub (pe_fn D__law_draw (by decide) hr (pa_cons (pv 0) (pa_cons pe_int pa_nil))) pe_int) pa_nil))) pa_nil))))) (pss_cons (ps_asg (pe_fn D__law_mirror (by decide) hr (pa_cons (pv 0) (pa_cons (pv 1) pa_nil))) (pg_tup rfl (pgs_cons (pg_name (i := 5) sc.nd rfl (.inl rfl)) (pgs_cons (pg_name (i := 6) sc.nd rfl (.inl rfl)) pgs_nil)))) (pss_one (ps_ret (pe_tup (pa_cons (pe_fn D__law_framed (by decide) hr (pa_cons (pv 5) (pa_cons (pe_fn D__law_along (by decide) hr (pa_cons (pv 4) pa_nil)) pa_nil))) (pa_cons (pe_op op_mulW (pv 2) (pv 6)) (pa_cons (pe_lc (own := [("root", 8)]) (g := gName 8) rfl sc.nd (pi_list (pv 4)) (blkOk_by (own := [("root", 8)]) (N := N__law_plant) (sc := defScope s__law_plant) (by decide +kernel)) (fun _ _ _ _ _ => (pg_name (i := 8) sc.nd rfl (.inl rfl))) (fun _ _ _ _ _ => pts_nil) (fun _ _ _ _ _ => (pe_fn D__law_lowest (by decide) hr (pa_cons (pv 8) (pa_cons (pv 2) pa_nil))))) pa_nil)))))))))), ?_⟩
    refine ⟨_, rfl, a, _, k, rfl, hw, by omega, by decide, by decide, fun H1 d1 b1 w1 d10 d1l => ?_⟩
    refine ⟨_, _, rfl, rfl, ?_⟩
    refine ⟨_, rfl, by show 5 ≤ sizeLine; decide, fun pl hpl => ?_⟩
    have s2 : Same H1 (upd H1 pl (.lst (([1, 1, 1, 2, 3] : List Int).map V.int))) := same_upd hpl
    refine ⟨a, pl, ([1, 1, 1, 2, 3] : List Int).map V.int, k + 1, rfl, w1.same s2, by omega, upd_same, w1.ne hpl, by decide, by decide, fun H3 j x b3 w3 hx => ?_⟩
    obtain ⟨z, rfl, hm⟩ := mem6 hx
    have bz : 1 ≤ z ∧ z ≤ 3 := by
      (simp only [List.mem_cons, List.not_mem_nil, or_false] at hm)
      omega
    have b13 : But a H H3 := (b1.trans (Same.but s2)).trans b3
    obtain ⟨n, hn⟩ : ∃ n : Nat, (1 : Int) + d1 = n := ⟨(1 + d1).toNat, by omega⟩
    refine ⟨by show 2 ≤ sizeLine; decide, fun pt hpt => ?_⟩
    have s4 : Same H3 (upd H3 pt (.tup [.int (1 + d1), .int z])) := same_upd hpt
    refine ⟨pt, _, rfl, SqT.of upd_same, rfl, _, _, rfl, _, _, rfl, rfl, ?_⟩
    have b4 : But a H (upd H3 pt (.tup [.int (1 + d1), .int z])) := b13.trans (Same.but s4)
    have w4 := w3.same s4
    have n1 : 1 ≤ n := by omega
    have n5 : n ≤ 5 := by omega
    -- some
    refine ⟨_, rfl, by decide, by decide, fun Ds hDs => lc_range (lo := 0) (n := _) (fun i H' => But a (upd H3 pt (.tup [.int (1 + d1), .int z])) H' ∧ Well H' a (k + 2 + i) ∧ ∃ zs : List Int, H' Ds = some (.lst (zs.map V.int)) ∧ zs.length = i ∧ ∀ z ∈ zs, z.natAbs ≤ 6)
      ⟨Same.but (same_upd hDs), (w4.mono (by omega)).same (same_upd hDs), [], upd_same, rfl, fun z hz => by cases hz⟩ ?_ ?_⟩
    · rintro i H5 hi ⟨b5, w5, zs, hz, lz, kz⟩
      have hi3 : i < 3 := hi
      refine ⟨rfl, yesIf ?_⟩
      refine ⟨_, rfl, a, _, k + 2 + i, rfl, w5, by omega, by decide, by decide, fun H6 d b6 w6 d0 dl => ?_⟩
      refine ⟨_, _, rfl, rfl, ?_⟩
      have hz6 := b6 _ _ (Ne.symm (w4.ne hDs)) hz
      refine ⟨_, hz6, small1000 (by rw [List.length_map]; omega), (b5.trans b6).updN hDs, w6.upd (w4.ne hDs), zs ++ [d - 4], ?_, by rw [List.length_append, lz]; rfl, fun y hy => ?_⟩
      · rw [upd_same, List.map_append]
        rfl
      · rcases List.mem_append.mp hy with h | h
        · exact kz y h
        · rw [List.mem_singleton.mp h]
          omega
    rintro H5 ⟨b5, w5, zs, hz, lz, kz⟩
    have lz3 : zs.length = 3 := lz
    have w5' : Well H5 a (k + 5) := w5.mono (by show k + 2 + 3 ≤ k + 5; omega)
    have b45 := b4.trans b5
    -- roots
    refine ⟨_, rfl, _, rfl, by omega, by omega, fun Dr hDr => lc_range (lo := 0) (n := _) (fun i H' => But a H5 H' ∧ Well H' a (k + 5 + 2 * i) ∧ ∃ rs : List Int, H' Dr = some (.lst (rs.map V.int)) ∧ rs.length = i ∧ ∀ z ∈ rs, z.natAbs ≤ 6)
      ⟨Same.but (same_upd hDr), (w5'.mono (by omega)).same (same_upd hDr), [], upd_same, rfl, fun z hz => by cases hz⟩ ?_ ?_⟩
    · rintro i H6 hi ⟨b6, w6, rs, hr', lr, kr⟩
      have hi5 : i < 5 := by omega
      refine ⟨rfl, yesIf ?_⟩
      refine ⟨_, rfl, _, rfl, _, rfl, a, _, k + 5 + 2 * i, rfl, w6, by omega, by decide, by decide, fun H7 d b7 w7 d0 dl => ?_⟩
      refine ⟨_, _, rfl, rfl, by show 1 ≤ sizeLine; decide, fun p8 hp8 => ?_⟩
      have s8 : Same H7 (upd H7 p8 (.lst [.int (d - 6)])) := same_upd hp8
      have hz7 := b7 _ _ (Ne.symm (w4.ne hDs)) (b6 _ _ (Ne.symm (w4.ne hDs)) hz)
      refine ⟨Ds, p8, _, _, rfl, rfl, s8 _ _ hz7, upd_same, by rw [List.length_map, lz3]; show 4 ≤ sizeLine; decide, fun p9 hp9 => ?_⟩
      have e9 : (zs.map V.int) ++ [V.int (d - 6)] = (zs ++ [d - 6]).map V.int := by rw [List.map_append]; rfl
      rw [e9]
      have s9 : Same (upd H7 p8 (.lst [.int (d - 6)])) (upd (upd H7 p8 (.lst [.int (d - 6)])) p9 (.lst ((zs ++ [d - 6]).map V.int))) := same_upd hp9
      have w9 := (w7.same s8).same s9
      have b79 : But a H7 _ := Same.but (s8.trans s9)
      refine ⟨a, p9, _, _, rfl, w9, by omega, upd_same, (w7.same s8).ne hp9, by rw [List.length_map, List.length_append]; show 0 < zs.length + 1; omega, by rw [List.length_map, List.length_append]; show zs.length + 1 ≤ 1000; omega, fun H10 j x b10 w10 hx => ?_⟩
      obtain ⟨z2, rfl, hm2⟩ := mem6 hx
      have bz2 : z2.natAbs ≤ 6 := by
        rcases List.mem_append.mp hm2 with h | h
        · exact kz _ h
        · rw [List.mem_singleton.mp h]
          omega
      have b610 : But a H6 H10 := (b7.trans b79).trans b10
      have hr10 := b610 _ _ (Ne.symm (w5.ne hDr)) hr'
      refine ⟨_, hr10, small1000 (by rw [List.length_map]; omega), (b6.trans b610).updN hDr, (w10.mono (by omega)).upd (w5.ne hDr), rs ++ [z2], ?_, by rw [List.length_append, lr]; rfl, fun y hy => ?_⟩
      · rw [upd_same, List.map_append]
        rfl
      · rcases List.mem_append.mp hy with h | h
        · exact kr y h
        · rw [List.mem_singleton.mp h]
          exact bz2
    rintro H6 ⟨b6, w6, rs, hr', lr, kr⟩
    have lrn : rs.length = n := by omega
    have w6' : Well H6 a (k + 15) := w6.mono (by omega)
    -- led, by
    refine ⟨_, rfl, _, rfl, a, n, k + 15, by show [V.ref a, V.int (1 + d1)] = _; rw [hn], w6', by omega, n1, n5, fun H7 p7 pm zz b7 w7 h7 m7 bzz => ?_⟩
    refine ⟨p7, _, rfl, SqT.of h7, rfl, _, _, rfl, _, _, rfl, rfl, ?_⟩
    have hr7 := b7 _ _ (Ne.symm (w5.ne hDr)) hr'
    have b3r : ∀ z ∈ rs, z.natAbs < 2 ^ 3 := fun z hz' => by
      have := kr z hz'
      omega
    refine ⟨_, rfl, _, rfl, Dr, rs, 3, rfl, hr7, by omega, b3r, fun H8 p8 s8 hn8 m8 => ?_⟩
    rw [lrn] at m8
    refine ⟨pm, p8, n, 20, 3, rfl, m7.same s8, m8, n5, by decide, by decide, fun H9 r9 s9 => ?_⟩
    refine ⟨_, rfl, _, rfl, _, _, rfl, rfl, wide_mul (a := 2) (b := 40) (by omega) bzz (by decide) (by decide) (by decide), ?_⟩
    have s79 := s8.trans s9
    have hr9 := s79 _ _ hr7
    have w9 := w7.same s79
    obtain ⟨sn, hsn⟩ : ∃ sn : Nat, z = sn := ⟨z.toNat, by omega⟩
    refine ⟨_, rfl, Dr, rfl, ⟨_, SqL.of hr9⟩, fun Dq hDq => lc_list (K := K) (a := Dr) (xs := rs.map V.int) (fun i H' => Same H9 H' ∧ ∃ (us : List V) (qs : List Rat), H' Dq = some (.lst us) ∧ DpTAll K H' us (qs.map frd) ∧ qs.length = i ∧ ∀ q ∈ qs, Sc sn 6 q)
      ⟨same_upd hDq, [], [], upd_same, .nil, rfl, fun z hz => by cases hz⟩ (fun i H' _ h => SqL.of (h.1 _ _ hr9)) ?_ ?_⟩
    · rintro i x H10 hi ⟨sm, us, qs, hu, hq, lq, kq⟩
      obtain ⟨z2, rfl, hm2⟩ := mem6 hi
      have bz2 := kr z2 hm2
      have hil : i < rs.length := by
        (have := (List.getElem?_eq_some_iff.mp hi).1)
        rw [List.length_map] at this
        exact this
      refine ⟨rfl, yesIf ?_⟩
      refine ⟨_, rfl, _, rfl, _, _, rfl, by omega, lt9000 (by omega) (by omega), fun H11 p11 s11 h11 => ?_⟩
      have hu11 := s11 _ _ hu
      have lu := fqLen hq
      refine ⟨us, hu11, small1000 (by omega), same_updN (sm.trans s11) hDq, us ++ [.ref p11], qs ++ [Rat.divInt z2 z], upd_same, ?_, by rw [List.length_append, lq]; rfl, fun y hy => ?_⟩
      · rw [List.map_append]
        exact dtAll_app ((hq.keep (Same.kt s11)).keep (kt_lst hu11)) (.cons (DpT.keep (kt_lst hu11) (fqO h11)) .nil)
      · rcases List.mem_append.mp hy with h | h
        · exact kq y h
        · rw [List.mem_singleton.mp h, hsn]
          exact Sc.of.mono bz2
    rintro H10 ⟨sm, us, qs, hu, hq, lq, kq⟩
    refine ⟨by show 3 ≤ sizeLine; decide, fun pf hpf => ?_⟩
    have sf := same_upd (o := .tup [.ref r9, .int (z * zz), .ref Dq]) hpf
    have lqn : qs.length = n := by
      rw [lq, List.length_map]
      exact lrn
    exact q _ pf r9 _ Dq us qs sn ((b45.trans (b6.trans b7)).trans (Same.but (s79.trans (sm.trans sf)))) ((w9.same (sm.trans sf)).mono (by omega)) upd_same (sf _ _ hu) (w9.ne hDq) (hq.keep (Same.kt sf)) (by omega) (by omega) (by omega) (by omega) kq
end
end V3
namespace V3
open PySem.Spec PySem L2 PyProof.Rows RZ GxR
/-- a list of fractions at p -/
structure FrL (K : PySem.W.Frag) (H : Hp) (p : Addr) (us : List V) (qs : List Rat) : Prop where
  at_ : H p = some (.lst us)
  dat : DpTAll K H us (qs.map frd)
  n1 : 1 ≤ qs.length
  n8 : qs.length ≤ 8
  bq : ∀ q ∈ qs, Bq 23 q
theorem FrL.but {K : PySem.W.Frag} {H H' : Hp} {a p : Addr} {us : List V} {qs : List Rat} {k : Nat} (h : FrL K H p us qs) (b : But a H H') (w : Well H a k) (n : a ≠ p) : FrL K H' p us qs :=
  ⟨b _ _ (Ne.symm n) h.at_, h.dat.keep (b.ktW w), h.n1, h.n8, h.bq⟩
theorem FrL.same {K : PySem.W.Frag} {H H' : Hp} {p : Addr} {us : List V} {qs : List Rat} (h : FrL K H p us qs) (s : Same H H') : FrL K H' p us qs :=
  ⟨s _ _ h.at_, h.dat.keep (Same.kt s), h.n1, h.n8, h.bq⟩
section
variable {mg : Str → Option Value} {base : Heap} {K : PySem.W.Frag} {P : Program} {w : World}
abbrev s__law_at : Stmt := topS 42
abbrev N__law_at : List Str := ["well", "roots"]
theorem sc__law_at : FnScope N__law_at ["well", "roots"] (defScope s__law_at) := ⟨rfl, rfl, rfl, by decide +kernel, rfl, by decide +kernel, by decide +kernel⟩
def spAt (K : PySem.W.Frag) : Sp := fun vs H Q _ => ∃ (a pr : Addr) (us : List V) (qs : List Rat) (k : Nat), vs = [.ref a, .ref pr] ∧ Well H a k ∧ k ≤ 800000 ∧ FrL K H pr us qs ∧ a ≠ pr ∧
  ∀ H' v x, But a H H' → Well H' a (k + 4) → DpT K H' v (frd x) → Bq 23 x → Q v H'
theorem ok_at (T : Gs K mg) (D__law_draw : Df P w K mg base "_law_draw" 1 ["well", "size"] spDraw) (D__law_pick : Df P w K mg base "_law_pick" 2 ["well", "some"] (spPick K)) (D__law_number : Df P w K mg base "_law_number" 3 ["well"] spNumber)
    (F : At K mg "_law_at" s__law_at) : Df P w K mg base "_law_at" 4 ["well", "roots"] (spAt K) := by
  have sc := sc__law_at
  refine Df.mk' F sc (fun vs H Q E h => ?_) (fun _ _ _ _ _ _ us hl => match us, hl with | [_, _], _ => rfl) (fun f cdv A outer s H vs Q E hr h => ?_)
  · obtain ⟨a, pr, us, qs, k, rfl, _⟩ := h
    rfl
  · obtain ⟨a, pr, us, qs, k, rfl, hw, kl, fl, hne, q⟩ := h
    refine ⟨_, (pss_one (ps_ret (pe_ifExp (PW.pt (pw_and (pt_cmpR (op_neD hr.units) (pv 1) (pe_lst pa_nil) (nomark _)) (pw_and1 (pt_cmpR op_gt (pe_fn D__law_draw (by decide) hr (pa_cons (pv 0) (pa_cons pe_int pa_nil))) pe_int (nomark _))))) (pe_fn D__law_pick (by decide) hr (pa_cons (pv 0) (pa_cons (pv 1) pa_nil))) (pe_fn D__law_number (by decide) hr (pa_cons (pv 0) pa_nil))))), ?_⟩
    refine ⟨_, rfl, by show 0 ≤ sizeLine; decide, fun pe hpe => ?_⟩
    have s1 : Same H (upd H pe (.lst [])) := same_upd hpe
    have f1 := fl.same s1
    refine ⟨.list (qs.map frd), .list [], .lst (SqL.of f1.at_) f1.dat.dp, .lst (SqL.of upd_same) .nil, shaped_frds _, rfl, _, rfl, ?_⟩
    rw [eqv_nil]
    have w1 := hw.same s1
    refine if2 (fun c => ?_) (fun c => ?_)
    · refine ⟨_, rfl, a, _, k, rfl, w1, by omega, by decide, by decide, fun H2 d b2 w2 d0 dl => ?_⟩
      have f2 := f1.but b2 w1 hne
      refine ⟨_, _, rfl, rfl, _, rfl, if2 (fun e => ?_) (fun e => ?_)⟩
      · refine ⟨_, rfl, _, rfl, a, pr, us, k + 1, rfl, w2, by omega, f2.at_, hne, by rw [fqLen f2.dat]; exact f2.n1, by rw [fqLen f2.dat]; have := f2.n8; omega, fun H3 i x b3 w3 hx => ?_⟩
        have f3 := f2.but b3 w2 hne
        obtain ⟨y, hy, dy⟩ := fqGetV f3.dat hx
        exact q H3 x y (((Same.but s1).trans b2).trans b3) (w3.mono (by omega)) dy (f3.bq y (List.mem_of_getElem? hy))
      · refine ⟨_, rfl, a, k + 1, rfl, w2, by omega, fun H3 p x b3 w3 hp bx => ?_⟩
        exact q H3 _ x (((Same.but s1).trans b2).trans b3) w3 (fqO hp) (bx.mono (by decide))
    · refine ⟨_, rfl, a, k, rfl, w1, by omega, fun H3 p x b3 w3 hp bx => ?_⟩
      exact q H3 _ x ((Same.but s1).trans b3) (w3.mono (by omega)) (fqO hp) (bx.mono (by decide))
abbrev s__law_span : Stmt := topS 43
abbrev N__law_span : List Str := ["well", "roots", "low", "high"]
theorem sc__law_span : FnScope N__law_span ["well", "roots"] (defScope s__law_span) := ⟨rfl, rfl, rfl, by decide +kernel, rfl, by decide +kernel, by decide +kernel⟩
def spSpan (K : PySem.W.Frag) : Sp := fun vs H Q _ => ∃ (a pr : Addr) (us : List V) (qs : List Rat) (k : Nat), vs = [.ref a, .ref pr] ∧ Well H a k ∧ k ≤ 700000 ∧ FrL K H pr us qs ∧ a ≠ pr ∧
  ∀ H' p v1 v2 l h, But a H H' → Well H' a (k + 9) → H' p = some (.tup [v1, v2]) → DpT K H' v1 (frd l) → DpT K H' v2 (frd h) → Bq 23 l → Bq 23 h → l ≤ h → Q (.ref p) H'
theorem ok_span (T : Gs K mg) (D__law_draw : Df P w K mg base "_law_draw" 1 ["well", "size"] spDraw) (D__law_at : Df P w K mg base "_law_at" 4 ["well", "roots"] (spAt K))
    (F : At K mg "_law_span" s__law_span) : Df P w K mg base "_law_span" 5 ["well", "roots"] (spSpan K) := by
  have sc := sc__law_span
  refine Df.mk' F sc (fun vs H Q E h => ?_) (fun _ _ _ _ _ _ us hl => match us, hl with | [_, _], _ => rfl) (fun f cdv A outer s H vs Q E hr h => ?_)
  · obtain ⟨a, pr, us, qs, k, rfl, _⟩ := h
    rfl
  · obtain ⟨a, pr, us, qs, k, rfl, hw, kl, fl, hne, q⟩ := h
    refine ⟨_, (pss_cons (ps_par (i := 2) (j := 3) rfl sc.nd rfl rfl (by decide) rfl rfl (pa_cons (pe_fn D__law_at (by decide) hr (pa_cons (pv 0) (pa_cons (pv 1) pa_nil))) (pa_cons (pe_fn D__law_at (by decide) hr (pa_cons (pv 0) (pa_cons (pv 1) pa_nil))) pa_nil)) (by rfl)) (pss_cons (ps_if (pt_cmpR op_gt (pe_op op_mulW (pe_ix ix_tup (pv 2) pe_int (fun _ _ => rfl)) (pe_ix ix_tup (pv 3) pe_int (fun _ _ => rfl))) (pe_op op_mulW (pe_ix ix_tup (pv 3) pe_int (fun _ _ => rfl)) (pe_ix ix_tup (pv 2) pe_int (fun _ _ => rfl))) (nomark _)) (pss_one (ps_par (i := 2) (j := 3) rfl sc.nd rfl rfl (by decide) rfl rfl (pa_cons (pv 3) (pa_cons (pv 2) pa_nil)) (by rfl))) pss_nil) (pss_one (ps_ret (pe_ifExp (pt_cmpR op_eq (pe_fn D__law_draw (by decide) hr (pa_cons (pv 0) (pa_cons pe_int pa_nil))) pe_int (nomark _)) (pe_tup (pa_cons (pv 2) (pa_cons (pv 2) pa_nil))) (pe_tup (pa_cons (pv 2) (pa_cons (pv 3) pa_nil)))))))), ?_⟩
    refine ⟨_, rfl, _, rfl, a, pr, us, qs, k, rfl, hw, by omega, fl, hne, fun H1 v1 x1 b1 w1 dv1 bx1 => ?_⟩
    have f1 := fl.but b1 hw hne
    refine ⟨_, rfl, _, rfl, a, pr, us, qs, k + 4, rfl, w1, by omega, f1, hne, fun H2 v2 x2 b2 w2 dv2 bx2 => ?_⟩
    have dv1 := DpT.keep (b2.ktW w1) dv1
    have b12 := b1.trans b2
    have fin : ∀ (va vb : V) (xa xb : Rat), DpT K H2 va (frd xa) → DpT K H2 vb (frd xb) → Bq 23 xa → Bq 23 xb → xa ≤ xb → ∀ (H3 : Hp), But a H2 H3 → Well H3 a (k + 9) → (∀ p, H3 p = none → Q (.ref p) (upd H3 p (.tup [va, va]))) ∧ (∀ p, H3 p = none → Q (.ref p) (upd H3 p (.tup [va, vb]))) := fun va vb xa xb da db ba bb le H3 b3 w3 => by
      have da3 := DpT.keep (b3.ktW w2) da
      have db3 := DpT.keep (b3.ktW w2) db
      refine ⟨fun p hp => ?_, fun p hp => ?_⟩
      · exact q _ p va va xa xa ((b12.trans b3).trans (Same.but (same_upd hp))) (w3.same (same_upd hp)) upd_same (fqSame da3 (same_upd hp)) (fqSame da3 (same_upd hp)) ba ba Rat.le_refl
      · exact q _ p va vb xa xb ((b12.trans b3).trans (Same.but (same_upd hp))) (w3.same (same_upd hp)) upd_same (fqSame da3 (same_upd hp)) (fqSame db3 (same_upd hp)) ba bb le
    obtain ⟨p1, rfl, hp1⟩ := fqT dv1
    obtain ⟨p2, rfl, hp2⟩ := fqT dv2
    have m1 : Bq 4000 x1 := bx1.mono (by decide)
    have m2 : Bq 4000 x2 := bx2.mono (by decide)
    refine ⟨_, _, rfl, ?_⟩
    refine ⟨_, rfl, _, _, _, _, rfl, rfl, hp1, at20, _, rfl, _, _, _, _, rfl, rfl, hp2, at21, _, _, rfl, rfl, mulW4 m1.n (natI m2.d), ?_⟩
    refine ⟨_, rfl, _, _, _, _, rfl, rfl, hp2, at20, _, rfl, _, _, _, _, rfl, rfl, hp1, at21, _, _, rfl, rfl, mulW4 m2.n (natI m1.d), ?_⟩
    refine ⟨_, _, rfl, rfl, _, rfl, if2 (fun e => ?_) (fun e => ?_)⟩
    · rw [rlt] at e
      have lt : x2 < x1 := of_decide_eq_true e
      refine ⟨_, rfl, _, rfl, _, _, rfl, ?_⟩
      refine ⟨_, rfl, a, _, k + 8, rfl, w2, by omega, by decide, by decide, fun H3 d b3 w3 d0 dl => ?_⟩
      obtain ⟨g1, g2⟩ := fin _ _ x2 x1 dv2 dv1 bx2 bx1 (Rat.le_of_lt lt) H3 b3 w3
      refine ⟨rfl, _, rfl, if2 (fun e => ?_) (fun e => ?_)⟩
      · exact ⟨_, rfl, _, rfl, by show 2 ≤ sizeLine; decide, g1⟩
      · exact ⟨_, rfl, _, rfl, by show 2 ≤ sizeLine; decide, g2⟩
    · rw [rlt] at e
      have le : x1 ≤ x2 := Rat.not_lt.mp (of_decide_eq_false e)
      refine ⟨_, rfl, a, _, k + 8, rfl, w2, by omega, by decide, by decide, fun H3 d b3 w3 d0 dl => ?_⟩
      obtain ⟨g1, g2⟩ := fin _ _ x1 x2 dv1 dv2 bx1 bx2 le H3 b3 w3
      refine ⟨rfl, _, rfl, if2 (fun e => ?_) (fun e => ?_)⟩
      · exact ⟨_, rfl, _, rfl, by show 2 ≤ sizeLine; decide, g1⟩
      · exact ⟨_, rfl, _, rfl, by show 2 ≤ sizeLine; decide, g2⟩
end
end V3
namespace V3
open PySem.Spec PySem L2 PyProof.Rows RZ GxR
theorem sum_bd : ∀ (ns : List Int), (∀ z ∈ ns, 0 ≤ z ∧ z ≤ 7) → 0 ≤ ns.sum ∧ ns.sum ≤ 7 * ns.length
  | [], _ => by simp
  | x :: r, h => by
    have h1 := h x List.mem_cons_self
    have h2 := sum_bd r fun y hy => h y (List.mem_cons_of_mem _ hy)
    (rw [List.sum_cons, List.length_cons])
    omega
theorem sq_nn (x : Rat) : 0 ≤ x * x := by
  rcases Rat.le_total (a := 0) (b := x) with h | h
  · exact Rat.mul_nonneg h h
  · have : 0 ≤ -x := by grind
    have := Rat.mul_nonneg this this
    grind
theorem bq00 (b : Nat) (hb : 1 ≤ b) : Bq b 0 := Bq.mono (a := 1) ⟨by decide +kernel, by decide +kernel⟩ hb
section
variable {mg : Str → Option Value} {base : Heap} {K : PySem.W.Frag} {P : Program} {w : World}
abbrev s__law_shared : Stmt := topS 45
abbrev N__law_shared : List Str := ["roots", "parts", "whole", "mean", "spread", "k", "gap"]
theorem sc__law_shared : FnScope N__law_shared ["roots", "parts"] (defScope s__law_shared) := ⟨rfl, rfl, rfl, by decide +kernel, rfl, by decide +kernel, by decide +kernel⟩
def spShared (K : PySem.W.Frag) : Sp := fun vs H Q _ => ∃ (pr pp : Addr) (us : List V) (qs : List Rat) (ns : List Int) (sn : Nat), vs = [.ref pr, .ref pp] ∧ H pr = some (.lst us) ∧ DpTAll K H us (qs.map frd) ∧ qs.length ≤ 5 ∧ 1 ≤ sn ∧ sn ≤ 3 ∧ (∀ q ∈ qs, Sc sn 6 q) ∧
  H pp = some (.lst (ns.map V.int)) ∧ ns.length = qs.length ∧ (∀ z ∈ ns, 0 ≤ z ∧ z ≤ 7) ∧ 0 < ns.sum ∧
  ∀ H' p v1 v2 m s, Same H H' → H' p = some (.tup [v1, v2]) → DpT K H' v1 (frd m) → DpT K H' v2 (frd s) → Bq 20 m → Bq 40 s → 0 ≤ s → Q (.ref p) H'
theorem ok_shared (T : Gs K mg) (D__law_lowest : Df P w K mg base "_law_lowest" 2 ["upper", "lower"] spFrac) (D__law_plus : Df P w K mg base "_law_plus" 3 ["one", "two"] (spR2 K (· + ·) fun _ => True)) (D__law_minus : Df P w K mg base "_law_minus" 3 ["one", "two"] (spR2 K (· - ·) fun _ => True))
    (D__law_times : Df P w K mg base "_law_times" 3 ["one", "two"] (spR2 K (· * ·) fun _ => True)) (F : At K mg "_law_shared" s__law_shared) : Df P w K mg base "_law_shared" 4 ["roots", "parts"] (spShared K) := by
  have sc := sc__law_shared
  refine Df.mk' F sc (fun vs H Q E h => ?_) (fun _ _ _ _ _ _ us hl => match us, hl with | [_, _], _ => rfl) (fun f cdv A outer s H vs Q E hr h => ?_)
  · obtain ⟨a, pr, us, qs, ns, sn, rfl, _⟩ := h
    rfl
  · obtain ⟨pr, pp, us, qs, ns, sn, rfl, hp, hd, l5, s1, s3, kq, hpp, ln, kn, W0, q⟩ := h
    refine ⟨_, (pss_cons (ps_par3 (i := 2) (j := 3) (l := 4) rfl sc.nd rfl rfl rfl (by decide) (by decide) (by decide) rfl rfl rfl (pa_cons (pe_callB (cr_sum rfl) (by rfl) T.sum (by decide +kernel) (pa_cons (pv 1) pa_nil)) (pa_cons (pe_tup (pa_cons pe_int (pa_cons pe_int pa_nil))) (pa_cons (pe_tup (pa_cons pe_int (pa_cons pe_int pa_nil))) pa_nil))) (by rfl)) (pss_cons (ps_for PassesOwn.never rfl (pi_range1 rfl T.range (pa_cons (pe_callB call_len_seq (by rfl) T.len PySem.boot_len (pa_cons (pv 0) pa_nil)) pa_nil)) (pg_name (i := 5) sc.nd rfl (.inl rfl)) (pss_one (ps_set (i := 3) sc.nd rfl (.inl rfl) (pe_fn D__law_plus (by decide) hr (pa_cons (pv 3) (pa_cons (pe_fn D__law_times (by decide) hr (pa_cons (pe_ix ix_list (pv 0) (pv 5) (fun _ _ => rfl)) (pa_cons (pe_fn D__law_lowest (by decide) hr (pa_cons (pe_ix ix_list (pv 1) (pv 5) (fun _ _ => rfl)) (pa_cons (pv 2) pa_nil))) pa_nil))) pa_nil)))))) (pss_cons (ps_for PassesOwn.never rfl (pi_range1 rfl T.range (pa_cons (pe_callB call_len_seq (by rfl) T.len PySem.boot_len (pa_cons (pv 0) pa_nil)) pa_nil)) (pg_name (i := 5) sc.nd rfl (.inl rfl)) (pss_cons (ps_set (i := 6) sc.nd rfl (.inl rfl) (pe_fn D__law_minus (by decide) hr (pa_cons (pe_ix ix_list (pv 0) (pv 5) (fun _ _ => rfl)) (pa_cons (pv 3) pa_nil)))) (pss_one (ps_set (i := 4) sc.nd rfl (.inl rfl) (pe_fn D__law_plus (by decide) hr (pa_cons (pv 4) (pa_cons (pe_fn D__law_times (by decide) hr (pa_cons (pe_fn D__law_times (by decide) hr (pa_cons (pv 6) (pa_cons (pv 6) pa_nil))) (pa_cons (pe_fn D__law_lowest (by decide) hr (pa_cons (pe_ix ix_list (pv 1) (pv 5) (fun _ _ => rfl)) (pa_cons (pv 2) pa_nil))) pa_nil))) pa_nil))))))) (pss_one (ps_ret (pe_tup (pa_cons (pv 3) (pa_cons (pv 4) pa_nil)))))))), ?_⟩
    obtain ⟨W, hW⟩ : ∃ W : Nat, ns.sum = W := ⟨ns.sum.toNat, by omega⟩
    have Wb := sum_bd ns kn
    have W1 : 1 ≤ W := by omega
    have W35 : W ≤ 35 := by omega
    have sW : sn * W ≤ 3 * 35 := Nat.mul_le_mul s3 W35
    have sW1 : 1 ≤ sn * W := Nat.mul_le_mul s1 W1
    have lu : us.length = qs.length := fqLen hd
    have share : ∀ z ∈ ns, Sc W 7 (Rat.divInt z ns.sum) := fun z hz => by
      rw [hW]
      have := kn z hz
      exact Sc.of.mono (by omega)
    have share0 : ∀ z ∈ ns, 0 ≤ Rat.divInt z ns.sum := fun z hz => Rat.divInt_nonneg (kn z hz).1 (by omega)
    have root : ∀ x ∈ qs, Sc (sn * W) (W * 6) x := fun x hx => by
      have := (kq x hx).up W (by omega)
      rw [Nat.mul_comm sn W]
      exact this
    have W6 : W * 6 ≤ 210 := by omega
    refine ⟨_, rfl, pp, ns, rfl, SqL.of hpp, ?_⟩
    refine ⟨by show 2 ≤ sizeLine; decide, fun p1 hp1 => ?_⟩
    have t1 : Same H (upd H p1 (.tup [.int 0, .int 1])) := same_upd hp1
    refine ⟨by show 2 ≤ sizeLine; decide, fun p2 hp2 => ?_⟩
    have t2 : Same (upd H p1 (.tup [.int 0, .int 1])) (upd (upd H p1 (.tup [.int 0, .int 1])) p2 (.tup [.int 0, .int 1])) := same_upd hp2
    have z1 : DpT K (upd (upd H p1 (.tup [.int 0, .int 1])) p2 (.tup [.int 0, .int 1])) (.ref p1) (frd 0) := fqI (t2 _ _ upd_same) rfl rfl
    have z2 : DpT K (upd (upd H p1 (.tup [.int 0, .int 1])) p2 (.tup [.int 0, .int 1])) (.ref p2) (frd 0) := fqI upd_same rfl rfl
    have t12 := t1.trans t2
    generalize hH2 : upd (upd H p1 (.tup [.int 0, .int 1])) p2 (.tup [.int 0, .int 1]) = H2 at z1 z2 t12
    refine ⟨_, _, _, rfl, ?_⟩
    have gW : ∀ {Hx : Hp}, Same H Hx → ∀ (i : Nat), i < us.length → ∃ z, ns[i]? = some z ∧ z ∈ ns ∧ atI (ns.map V.int) ((0 : Int) + (i : Int)) = some (.int z) := fun _ i hi => by
      have hi2 : i < ns.length := by omega
      refine ⟨ns[i], List.getElem?_eq_getElem hi2, List.getElem_mem hi2, ?_⟩
      rw [Int.zero_add]
      exact atMap hi2
    have gQ : ∀ {Hx : Hp}, Same H Hx → ∀ (i : Nat), i < us.length → ∃ v x, atI us ((0 : Int) + (i : Int)) = some v ∧ DpT K Hx v (frd x) ∧ x ∈ qs := fun sm i hi => by
      have hi2 : i < qs.length := by omega
      obtain ⟨v, hv, dv⟩ := fqGet hd (List.getElem?_eq_getElem hi2)
      refine ⟨v, qs[i], ?_, fqSame dv sm, List.getElem_mem hi2⟩
      rw [Int.zero_add]
      exact atI_nat hv
    have sz9 : ns.sum.natAbs < 2 ^ 9000 := lt9000 (by omega) (by omega)
    -- the mean
    refine ⟨_, rfl, pr, _, rfl, .inl (SqL.of (t12 _ _ hp)), ?_⟩
    refine ⟨_, rfl, by omega, by omega, for_range (lo := 0) (n := _) (fun i σ H' => ∃ (vm : V) (m : Rat) (y5 y6 : Option V), σ = [some (.ref pr), some (.ref pp), some (.int ns.sum), some vm, some (.ref p2), y5, y6] ∧ Same H2 H' ∧ DpT K H' vm (frd m) ∧ Sc (sn * W) (i * 42) m)
      ⟨_, 0, _, _, rfl, Same.refl _, z1, ⟨0, by rw [Rat.zero_divInt], by simp⟩⟩ ?_ ?_⟩
    · rintro i σ H3 hi ⟨vm, m, y5, y6, rfl, sm, dm, km⟩
      have hi' : i < us.length := by omega
      have sH := t12.trans sm
      obtain ⟨v, x, hv, dv, hx⟩ := gQ sH i hi'
      obtain ⟨z, hz, hzm, hza⟩ := gW sH i hi'
      refine ⟨_, rfl, _, rfl, _, rfl, pr, us, _, v, rfl, rfl, SqL.of (sH _ _ hp), hv, ?_⟩
      refine ⟨_, rfl, _, rfl, pp, _, _, _, rfl, rfl, SqL.of (sH _ _ hpp), hza, ?_⟩
      refine ⟨_, rfl, z, _, rfl, W0, sz9, fun H4 p4 s4 h4 => ?_⟩
      have k1 := kq x hx
      have k2 := share z hzm
      have k12 : Sc (sn * W) (6 * 7) (x * Rat.divInt z ns.sum) := k1.mul k2
      refine ⟨_, _, x, _, rfl, fqSame dv s4, fqO h4, (k1.bq (b := 10) (by omega) (by omega) (by decide)).mono (by decide), (k2.bq (b := 10) (by omega) (by omega) (by decide)).mono (by decide), .intro, fun H5 p5 s5 h5 => ?_⟩
      have b5 : Bq 10 (x * Rat.divInt z ns.sum) := k12.bq (by omega) (by omega) (by decide)
      have bm : Bq 10 m := km.bq (by omega) (by omega) (by omega)
      refine ⟨_, _, m, _, rfl, fqSame dm (s4.trans s5), fqO h5, bm.mono (by decide), b5.mono (by decide), .intro, fun H6 p6 s6 h6 => ?_⟩
      refine ⟨_, m + x * Rat.divInt z ns.sum, _, _, rfl, sm.trans ((s4.trans s5).trans s6), fqO h6, ?_⟩
      have := km.add (by omega) k12
      exact this.mono (by omega)
    rintro σ H3 ⟨vm, m, y5, y6, rfl, sm, dm, km⟩
    have km' : Sc (sn * W) 210 m := km.mono (by omega)
    have bm : Bq 20 m := km'.bq (by omega) (by omega) (by decide)
    have sH3 := t12.trans sm
    have z3 : DpT K H3 (.ref p2) (frd 0) := fqSame z2 sm
    -- the spread
    refine ⟨_, rfl, pr, _, rfl, .inl (SqL.of (sH3 _ _ hp)), ?_⟩
    refine ⟨_, rfl, by omega, by omega, for_range (lo := 0) (n := _) (fun i σ H' => ∃ (vs : V) (s : Rat) (y5 y6 : Option V), σ = [some (.ref pr), some (.ref pp), some (.int ns.sum), some vm, some vs, y5, y6] ∧ Same H3 H' ∧ DpT K H' vs (frd s) ∧ Sc ((sn * W) * (sn * W) * W) (i * 1234800) s ∧ 0 ≤ s)
      ⟨_, 0, _, _, rfl, Same.refl _, z3, ⟨0, by rw [Rat.zero_divInt], by simp⟩, Rat.le_refl⟩ ?_ ?_⟩
    · rintro i σ H4 hi ⟨vs, s, y5, y6, rfl, sm4, ds, ks, s0⟩
      have hi' : i < us.length := by omega
      have sH := sH3.trans sm4
      obtain ⟨v, x, hv, dv, hx⟩ := gQ sH i hi'
      obtain ⟨z, hz, hzm, hza⟩ := gW sH i hi'
      have k1 := kq x hx
      have k2 := share z hzm
      have kg : Sc (sn * W) 420 (x - m) := ((root x hx).sub (by omega) km').mono (by omega)
      have kgg : Sc ((sn * W) * (sn * W)) (420 * 420) ((x - m) * (x - m)) := kg.mul kg
      have kgs : Sc ((sn * W) * (sn * W) * W) (420 * 420 * 7) ((x - m) * (x - m) * Rat.divInt z ns.sum) := kgg.mul k2
      have D2 : (sn * W) * (sn * W) ≤ 105 * 105 := Nat.mul_le_mul sW sW
      have D3 : (sn * W) * (sn * W) * W ≤ 105 * 105 * 35 := Nat.mul_le_mul D2 W35
      have D21 : 1 ≤ (sn * W) * (sn * W) := Nat.mul_le_mul sW1 sW1
      have D31 : 1 ≤ (sn * W) * (sn * W) * W := Nat.mul_le_mul D21 W1
      have bx : Bq 4000 x := (k1.bq (b := 10) (by omega) (by omega) (by decide)).mono (by decide)
      have bg : Bq 10 (x - m) := kg.bq (by omega) (by omega) (by decide)
      have bgg : Bq 20 ((x - m) * (x - m)) := kgg.bq (by omega) (by omega) (by decide)
      have bgs : Bq 25 ((x - m) * (x - m) * Rat.divInt z ns.sum) := kgs.bq (by omega) (by omega) (by decide)
      have bs : Bq 25 s := ks.bq (by omega) (by omega) (by omega)
      have bsh : Bq 4000 (Rat.divInt z ns.sum) := (k2.bq (b := 10) (by omega) (by omega) (by decide)).mono (by decide)
      refine ⟨_, rfl, _, rfl, pr, us, _, v, rfl, rfl, SqL.of (sH _ _ hp), hv, ?_⟩
      refine ⟨_, rfl, _, _, x, m, rfl, dv, fqSame dm sm4, bx, bm.mono (by decide), .intro, fun H5 p5 s5 h5 => ?_⟩
      refine ⟨_, rfl, _, rfl, _, rfl, _, _, x - m, x - m, rfl, fqO h5, fqO h5, bg.mono (by decide), bg.mono (by decide), .intro, fun H6 p6 s6 h6 => ?_⟩
      have s46 := s5.trans s6
      refine ⟨_, rfl, _, rfl, pp, _, _, _, rfl, rfl, SqL.of (s46 _ _ (sH _ _ hpp)), hza, ?_⟩
      refine ⟨_, rfl, z, _, rfl, W0, sz9, fun H7 p7 s7 h7 => ?_⟩
      refine ⟨_, _, _, _, rfl, fqSame (fqO h6) s7, fqO h7, bgg.mono (by decide), bsh, .intro, fun H8 p8 s8 h8 => ?_⟩
      refine ⟨_, _, s, _, rfl, fqSame ds ((s46.trans s7).trans s8), fqO h8, bs.mono (by decide), bgs.mono (by decide), .intro, fun H9 p9 s9 h9 => ?_⟩
      refine ⟨_, s + (x - m) * (x - m) * Rat.divInt z ns.sum, _, _, rfl, sm4.trans (((s46.trans s7).trans s8).trans s9), fqO h9, ?_, ?_⟩
      · have := ks.add (by omega) kgs
        exact this.mono (by omega)
      · have := Rat.mul_nonneg (sq_nn (x - m)) (share0 z hzm)
        grind
    · rintro σ H4 ⟨vs, s, y5, y6, rfl, sm4, ds, ks, s0⟩
      have D2 : (sn * W) * (sn * W) ≤ 105 * 105 := Nat.mul_le_mul sW sW
      have D3 : (sn * W) * (sn * W) * W ≤ 105 * 105 * 35 := Nat.mul_le_mul D2 W35
      have D21 : 1 ≤ (sn * W) * (sn * W) := Nat.mul_le_mul sW1 sW1
      have D31 : 1 ≤ (sn * W) * (sn * W) * W := Nat.mul_le_mul D21 W1
      have bs : Bq 40 s := ks.bq (by omega) (by omega) (by omega)
      refine ⟨_, rfl, _, rfl, by show 2 ≤ sizeLine; decide, fun p hp' => ?_⟩
      have s5 := same_upd (o := .tup [vm, vs]) hp'
      exact q _ p vm vs m s ((sH3.trans sm4).trans s5) upd_same (fqSame dm (sm4.trans s5)) (fqSame ds s5) bm bs s0
end
end V3
namespace V3
open PySem.Spec PySem L2 PyProof.Rows RZ GxR
section
variable {mg : Str → Option Value} {base : Heap} {K : PySem.W.Frag} {P : Program} {w : World}
abbrev s__law_surely : Stmt := topS 47
abbrev N__law_surely : List Str := ["mean", "spread", "low", "high"]
theorem sc__law_surely : FnScope N__law_surely ["mean", "spread", "low", "high"] (defScope s__law_surely) := ⟨rfl, rfl, rfl, by decide +kernel, rfl, by decide +kernel, by decide +kernel⟩
theorem ok_surely (D__law_up_to : Df P w K mg base "_law_up_to" 1 ["one", "two"] (spR2b K fun x y => decide (x ≤ y))) (D__law_times : Df P w K mg base "_law_times" 3 ["one", "two"] (spR2 K (· * ·) fun _ => True)) (D__law_minus : Df P w K mg base "_law_minus" 3 ["one", "two"] (spR2 K (· - ·) fun _ => True))
    (F : At K mg "_law_surely" s__law_surely) : Df P w K mg base "_law_surely" 4 ["mean", "spread", "low", "high"] (spSure K) := by
  have sc := sc__law_surely
  refine Df.mk' F sc (fun vs H Q E h => ?_) (fun _ _ _ _ _ _ us hl => match us, hl with | [_, _, _, _], _ => rfl) (fun f cdv A outer s H vs Q E hr h => ?_)
  · obtain ⟨v1, v2, v3, v4, m, s, l, h, rfl, _⟩ := h
    rfl
  · obtain ⟨v1, v2, v3, v4, m, s, l, h, rfl, d1, d2, d3, d4, o, q⟩ := h
    refine ⟨_, (pss_cons (ps_if (PW.pt (pw_or (pt_not (pt_val (pe_fn D__law_up_to (by decide) hr (pa_cons (pv 2) (pa_cons (pv 0) pa_nil))))) (pw_or1 (pt_not (pt_val (pe_fn D__law_up_to (by decide) hr (pa_cons (pv 0) (pa_cons (pv 3) pa_nil)))))))) (pss_one (ps_ret pe_bl)) pss_nil) (pss_one (ps_ret (pe_fn D__law_up_to (by decide) hr (pa_cons (pv 1) (pa_cons (pe_fn D__law_times (by decide) hr (pa_cons (pe_fn D__law_minus (by decide) hr (pa_cons (pv 0) (pa_cons (pv 2) pa_nil))) (pa_cons (pe_fn D__law_minus (by decide) hr (pa_cons (pv 3) (pa_cons (pv 0) pa_nil))) pa_nil))) pa_nil)))))), ?_⟩
    have m4 : Bq 4000 m := o.bm.mono (by decide)
    have s4 : Bq 4000 s := o.bs.mono (by decide)
    have l4 : Bq 4000 l := o.bl.mono (by decide)
    have h4 : Bq 4000 h := o.bh.mono (by decide)
    rw [sure_law o.s0 o.lh] at q
    refine ⟨_, rfl, _, rfl, _, _, l, m, rfl, d3, d1, l4, m4, _, rfl, if2 (fun c => ?_) (fun c => ?_)⟩
    · have c1 : ¬ l ≤ m := by simpa using c
      simp only [c1, decide_false, Bool.false_and] at q
      exact q H (Same.refl _)
    · have c1 : l ≤ m := by simpa using c
      refine ⟨_, rfl, _, rfl, _, _, m, h, rfl, d1, d4, m4, h4, _, rfl, if2 (fun c => ?_) (fun c => ?_)⟩
      · have c2 : ¬ m ≤ h := by simpa using c
        simp only [c2, decide_false, Bool.and_false, Bool.false_and] at q
        exact q H (Same.refl _)
      · have c2 : m ≤ h := by simpa using c
        simp only [c1, c2, decide_true, Bool.true_and] at q
        have b1 : Bq 161 (m - l) := o.bm.sub o.bl (by decide)
        have b2 : Bq 161 (h - m) := o.bh.sub o.bm (by decide)
        refine ⟨_, rfl, _, rfl, _, rfl, _, _, m, l, rfl, d1, d3, m4, l4, .intro, fun H1 p1 s1 h1 => ?_⟩
        refine ⟨_, rfl, _, rfl, _, _, h, m, rfl, fqSame d4 s1, fqSame d1 s1, h4, m4, .intro, fun H2 p2 s2 h2 => ?_⟩
        refine ⟨_, _, m - l, h - m, rfl, fqSame (fqO h1) s2, fqO h2, b1.mono (by decide), b2.mono (by decide), .intro, fun H3 p3 s3 h3 => ?_⟩
        exact ⟨_, _, s, (m - l) * (h - m), rfl, fqSame d2 ((s1.trans s2).trans s3), fqO h3, s4, b1.mul b2 (by decide), q H3 ((s1.trans s2).trans s3)⟩
abbrev s__law_ends : Stmt := topS 49
abbrev N__law_ends : List Str := ["well", "mean", "spread", "roots", "way", "low", "other", "high", "more"]
theorem sc__law_ends : FnScope N__law_ends ["well", "mean", "spread", "roots"] (defScope s__law_ends) := ⟨rfl, rfl, rfl, by decide +kernel, rfl, by decide +kernel, by decide +kernel⟩
def spEnds (K : PySem.W.Frag) : Sp := fun vs H Q _ => ∃ (a pr : Addr) (vm vs_ : V) (us : List V) (qs : List Rat) (m s : Rat) (k : Nat), vs = [.ref a, vm, vs_, .ref pr] ∧ Well H a k ∧ k ≤ 700000 ∧ FrL K H pr us qs ∧ qs.length ≤ 5 ∧ a ≠ pr ∧ DpT K H vm (frd m) ∧ DpT K H vs_ (frd s) ∧ Bq 20 m ∧ Bq 40 s ∧ 0 ≤ s ∧
  ∀ H' p v1 v2 l h, But a H H' → Well H' a (k + 9) → H' p = some (.tup [v1, v2]) → DpT K H' v1 (frd l) → DpT K H' v2 (frd h) → Oa m s l h → Q (.ref p) H'
theorem ok_ends (T : Gs K mg) (D__law_draw : Df P w K mg base "_law_draw" 1 ["well", "size"] spDraw) (D__law_pick : Df P w K mg base "_law_pick" 2 ["well", "some"] (spPick K)) (D__law_lowest : Df P w K mg base "_law_lowest" 2 ["upper", "lower"] spFrac)
    (D__law_plus : Df P w K mg base "_law_plus" 3 ["one", "two"] (spR2 K (· + ·) fun _ => True)) (D__law_minus : Df P w K mg base "_law_minus" 3 ["one", "two"] (spR2 K (· - ·) fun _ => True)) (D__law_quotient : Df P w K mg base "_law_quotient" 3 ["one", "two"] (spR2 K (· / ·) fun y => 0 < y))
    (D__law_up_to : Df P w K mg base "_law_up_to" 1 ["one", "two"] (spR2b K fun x y => decide (x ≤ y))) (F : At K mg "_law_ends" s__law_ends) : Df P w K mg base "_law_ends" 4 ["well", "mean", "spread", "roots"] (spEnds K) := by
  have sc := sc__law_ends
  refine Df.mk' F sc (fun vs H Q E h => ?_) (fun _ _ _ _ _ _ us hl => match us, hl with | [_, _, _, _], _ => rfl) (fun f cdv A outer s H vs Q E hr h => ?_)
  · obtain ⟨a, pr, vm, vs_, us, qs, m, s, k, rfl, _⟩ := h
    rfl
  · obtain ⟨a, pr, vm, vs_, us, qs, m, s, k, rfl, hw, kl, fl, l5, hne, dm, ds, bm, bs, s0, q⟩ := h
    refine ⟨_, (pss_cons (ps_par (i := 4) (j := 5) rfl sc.nd rfl rfl (by decide) rfl rfl (pa_cons (pe_fn D__law_draw (by decide) hr (pa_cons (pv 0) (pa_cons pe_int pa_nil))) (pa_cons (pe_fn D__law_pick (by decide) hr (pa_cons (pv 0) (pa_cons (pe_op op_cat (pv 3) (pe_lst (pa_cons (pv 1) pa_nil))) pa_nil))) pa_nil)) (by rfl)) (pss_cons (ps_if (pt_cmpR op_lt (pv 4) pe_int (nomark _)) (pss_cons (ps_set (i := 5) sc.nd rfl (.inl rfl) (pe_fn D__law_minus (by decide) hr (pa_cons (pv 1) (pa_cons (pe_fn D__law_lowest (by decide) hr (pa_cons (pe_op op_add pe_int (pe_fn D__law_draw (by decide) hr (pa_cons (pv 0) (pa_cons pe_int pa_nil)))) (pa_cons (pe_op op_add pe_int (pe_fn D__law_draw (by decide) hr (pa_cons (pv 0) (pa_cons pe_int pa_nil)))) pa_nil))) pa_nil)))) (pss_cons (ps_set (i := 7) sc.nd rfl (.inl rfl) (pe_fn D__law_plus (by decide) hr (pa_cons (pv 1) (pa_cons (pe_fn D__law_quotient (by decide) hr (pa_cons (pv 2) (pa_cons (pe_fn D__law_minus (by decide) hr (pa_cons (pv 1) (pa_cons (pv 5) pa_nil))) pa_nil))) pa_nil)))) (pss_cons (ps_set (i := 8) sc.nd rfl (.inl rfl) (pe_fn D__law_pick (by decide) hr (pa_cons (pv 0) (pa_cons (pe_lst (pa_cons (pe_tup (pa_cons pe_int (pa_cons pe_int pa_nil))) (pa_cons (pe_tup (pa_cons pe_int (pa_cons pe_int pa_nil))) (pa_cons (pe_tup (pa_cons (pe_un un_neg pe_int) (pa_cons pe_int pa_nil))) (pa_cons (pe_tup (pa_cons (pe_un un_neg pe_int) (pa_cons (pe_op op_pow pe_int pe_int) pa_nil))) pa_nil))))) pa_nil)))) (pss_one (ps_ret (pe_tup (pa_cons (pv 5) (pa_cons (pe_ifExp (pt_val (pe_fn D__law_up_to (by decide) hr (pa_cons (pv 5) (pa_cons (pe_fn D__law_plus (by decide) hr (pa_cons (pv 7) (pa_cons (pv 8) pa_nil))) pa_nil)))) (pe_fn D__law_plus (by decide) hr (pa_cons (pv 7) (pa_cons (pv 8) pa_nil))) (pv 7)) pa_nil)))))))) pss_nil) (pss_cons (ps_set (i := 6) sc.nd rfl (.inl rfl) (pe_fn D__law_pick (by decide) hr (pa_cons (pv 0) (pa_cons (pe_op op_cat (pv 3) (pe_lst (pa_cons (pv 1) (pa_cons (pe_fn D__law_plus (by decide) hr (pa_cons (pv 1) (pa_cons (pe_tup (pa_cons pe_int (pa_cons pe_int pa_nil))) pa_nil))) (pa_cons (pe_fn D__law_minus (by decide) hr (pa_cons (pv 1) (pa_cons (pe_tup (pa_cons pe_int (pa_cons pe_int pa_nil))) pa_nil))) pa_nil))))) pa_nil)))) (pss_one (ps_ret (pe_ifExp (pt_val (pe_fn D__law_up_to (by decide) hr (pa_cons (pv 5) (pa_cons (pv 6) pa_nil)))) (pe_tup (pa_cons (pv 5) (pa_cons (pv 6) pa_nil))) (pe_tup (pa_cons (pv 6) (pa_cons (pv 5) pa_nil))))))))), ?_⟩
    have m4 : Bq 4000 m := bm.mono (by decide)
    have s4000 : Bq 4000 s := bs.mono (by decide)
    -- way
    refine ⟨_, rfl, a, _, k, rfl, hw, by omega, by decide, by decide, fun H1 way b1 w1 d10 d1l => ?_⟩
    have f1 := fl.but b1 hw hne
    have dm1 := DpT.keep (b1.ktW hw) dm
    have ds1 := DpT.keep (b1.ktW hw) ds
    -- roots + [mean]
    refine ⟨_, rfl, _, rfl, _, rfl, by show 1 ≤ sizeLine; decide, fun p2 hp2 => ?_⟩
    have t2 : Same H1 (upd H1 p2 (.lst [vm])) := same_upd hp2
    have lu : us.length = qs.length := fqLen f1.dat
    refine ⟨pr, p2, us, _, rfl, rfl, t2 _ _ f1.at_, upd_same, Nat.le_of_lt (small1000 (by show us.length + 1 ≤ 1000; omega)), fun p3 hp3 => ?_⟩
    have t3 : Same (upd H1 p2 (.lst [vm])) (upd (upd H1 p2 (.lst [vm])) p3 (.lst (us ++ [vm]))) := same_upd hp3
    have t23 := t2.trans t3
    have hl3 : (upd (upd H1 p2 (.lst [vm])) p3 (.lst (us ++ [vm]))) p3 = some (.lst (us ++ [vm])) := upd_same
    have wp3 := (w1.same t2).ne hp3
    generalize upd (upd H1 p2 (.lst [vm])) p3 (.lst (us ++ [vm])) = H3 at t23 hl3
    refine ⟨a, p3, us ++ [vm], k + 1, rfl, w1.same t23, by omega, hl3, wp3, by rw [List.length_append]; show 0 < us.length + 1; omega, by rw [List.length_append]; show us.length + 1 ≤ 1000; omega, fun H4 i x b4 w4 hx => ?_⟩
    have kt14 : KeepT H1 H4 := (Same.kt t23).trans (b4.ktW (w1.same t23))
    have dm4 := DpT.keep kt14 dm1
    have ds4 := DpT.keep kt14 ds1
    have f4 : FrL K H4 pr us qs := (f1.same t23).but b4 (w1.same t23) hne
    have dapp : ∀ {Hx : Hp} {vl : List V} {ql : List Rat}, DpTAll K Hx us (qs.map frd) → DpTAll K Hx vl (ql.map frd) → DpTAll K Hx (us ++ vl) ((qs ++ ql).map frd) := fun h1 h2 => by
      rw [List.map_append]
      exact dtAll_app h1 h2
    obtain ⟨lo, hlo, dlo⟩ := fqGetV (dapp (ql := [m]) f4.dat (.cons dm4 .nil)) hx
    have blo : Bq 23 lo := by
      rcases List.mem_append.mp (List.mem_of_getElem? hlo) with h | h
      · exact fl.bq _ h
      · rw [List.mem_singleton.mp h]
        exact bm.mono (by decide)
    have bh4 : But a H H4 := (b1.trans (Same.but t23)).trans b4
    refine ⟨_, _, rfl, ?_⟩
    refine ⟨_, rfl, _, _, rfl, rfl, _, rfl, if2 (fun e => ?_) (fun e => ?_)⟩
    · -- about the mean
      refine ⟨_, rfl, _, rfl, a, _, k + 2, rfl, w4, by omega, by decide, by decide, fun H5 d5 b5 w5 d50 d5l => ?_⟩
      refine ⟨_, _, rfl, rfl, ?_⟩
      refine ⟨_, rfl, a, _, k + 3, rfl, w5, by omega, by decide, by decide, fun H6 d6 b6 w6 d60 d6l => ?_⟩
      refine ⟨_, _, rfl, rfl, _, _, rfl, by omega, lt9000 (by omega) (by omega), fun H7 p7 s7 h7 => ?_⟩
      obtain ⟨t, ht⟩ : ∃ t, t = Rat.divInt (1 + d5) (1 + d6) := ⟨_, rfl⟩
      rw [← ht] at h7
      have bt : Bq 4 t := by
        rw [ht]
        exact bq_small (by omega) (by omega) (by omega)
      have t0 : 0 < t := by
        rw [ht]
        have h1 : 0 ≤ Rat.divInt (1 + d5) (1 + d6) := Rat.divInt_nonneg (by omega) (by omega)
        have h2 : Rat.divInt (1 + d5) (1 + d6) ≠ 0 := fun z => by
          rw [Rat.divInt_eq_div] at z
          have h3 : ((1 + d5 : Int) : Rat) ≠ 0 := fun z2 => by
            have := Rat.intCast_eq_zero_iff.mp z2
            omega
          have h4 : ((1 + d6 : Int) : Rat) ≠ 0 := fun z2 => by
            have := Rat.intCast_eq_zero_iff.mp z2
            omega
          have := Rat.div_mul_cancel (a := ((1 + d5 : Int) : Rat)) h4
          rw [z] at this
          grind
        grind
      have kt47 : KeepT H4 H7 := ((b5.trans b6).ktW w4).trans (Same.kt s7)
      have dm7 := DpT.keep kt47 dm4
      have ds7 := DpT.keep kt47 ds4
      have w7 := w6.same s7
      have bh7 : But a H H7 := (bh4.trans (b5.trans b6)).trans (Same.but s7)
      refine ⟨_, _, m, t, rfl, dm7, fqO h7, m4, bt.mono (by decide), .intro, fun H8 p8 s8 h8 => ?_⟩
      have e1 : m - (m - t) = t := by grind
      have bl : Bq 25 (m - t) := bm.sub bt (by decide)
      -- high
      refine ⟨_, rfl, _, rfl, _, rfl, _, rfl, _, _, m, m - t, rfl, fqSame dm7 s8, fqO h8, m4, bl.mono (by decide), .intro, fun H9 p9 s9 h9 => ?_⟩
      dsimp only at h9
      rw [e1] at h9
      refine ⟨_, _, s, t, rfl, fqSame ds7 (s8.trans s9), fqO h9, s4000, bt.mono (by decide), t0, fun H10 p10 s10 h10 => ?_⟩
      have bst : Bq 44 (s / t) := bs.div bt t0 (by decide)
      have st0 := div_nonneg' s0 t0
      have s810 := (s8.trans s9).trans s10
      refine ⟨_, _, m, s / t, rfl, fqSame dm7 s810, fqO h10, m4, bst.mono (by decide), .intro, fun H11 p11 s11 h11 => ?_⟩
      have bhi : Bq 65 (m + s / t) := bm.add bst (by decide)
      have s811 := s810.trans s11
      -- more
      refine ⟨_, rfl, by show 2 ≤ sizeLine; decide, fun q1 hq1 => ?_⟩
      have u1 : Same H11 (upd H11 q1 (.tup [.int 0, .int 1])) := same_upd hq1
      have v1 : (upd H11 q1 (.tup [.int 0, .int 1])) q1 = some (.tup [.int 0, .int 1]) := upd_same
      generalize upd H11 q1 (.tup [.int 0, .int 1]) = G1 at u1 v1
      refine ⟨by show 2 ≤ sizeLine; decide, fun q2 hq2 => ?_⟩
      have u2 : Same G1 (upd G1 q2 (.tup [.int 1, .int 7])) := same_upd hq2
      have v2 : (upd G1 q2 (.tup [.int 1, .int 7])) q2 = some (.tup [.int 1, .int 7]) := upd_same
      generalize upd G1 q2 (.tup [.int 1, .int 7]) = G2 at u2 v2
      refine ⟨_, rfl, by show 2 ≤ sizeLine; decide, fun q3 hq3 => ?_⟩
      have u3 : Same G2 (upd G2 q3 (.tup [.int (-1), .int 9])) := same_upd hq3
      have v3 : (upd G2 q3 (.tup [.int (-1), .int 9])) q3 = some (.tup [.int (-1), .int 9]) := upd_same
      refine ⟨_, rfl, _, _, rfl, rfl, ⟨by decide, by decide, by decide⟩, by show 2 ≤ sizeLine; decide, fun q4 hq4 => ?_⟩
      have u4 : Same (upd G2 q3 (.tup [.int (-1), .int 9])) (upd (upd G2 q3 (.tup [.int (-1), .int 9])) q4 (.tup [.int (-1), .int (10 ^ 12)])) := same_upd hq4
      have v4 : (upd (upd G2 q3 (.tup [.int (-1), .int 9])) q4 (.tup [.int (-1), .int (10 ^ 12)])) q4 = some (.tup [.int (-1), .int (10 ^ 12)]) := upd_same
      have v3' := u4 _ _ v3
      have u34 := u3.trans u4
      refine ⟨by show 4 ≤ sizeLine; decide, fun q5 hq5 => ?_⟩
      have u5 : Same (upd (upd G2 q3 (.tup [.int (-1), .int 9])) q4 (.tup [.int (-1), .int (10 ^ 12)])) (upd (upd (upd G2 q3 (.tup [.int (-1), .int 9])) q4 (.tup [.int (-1), .int (10 ^ 12)])) q5 (.lst [.ref q1, .ref q2, .ref q3, .ref q4])) := same_upd hq5
      have s1115 : Same H11 (upd (upd (upd G2 q3 (.tup [.int (-1), .int 9])) q4 (.tup [.int (-1), .int (10 ^ 12)])) q5 (.lst [.ref q1, .ref q2, .ref q3, .ref q4])) := ((u1.trans u2).trans u34).trans u5
      have s715 := s811.trans s1115
      have dmo : DpTAll K (upd (upd (upd G2 q3 (.tup [.int (-1), .int 9])) q4 (.tup [.int (-1), .int (10 ^ 12)])) q5 (.lst [.ref q1, .ref q2, .ref q3, .ref q4])) [.ref q1, .ref q2, .ref q3, .ref q4] (([0, Rat.divInt 1 7, Rat.divInt (-1) 9, Rat.divInt (-1) (10 ^ 12)] : List Rat).map frd) :=
        .cons (fqSame (fqI v1 rfl rfl) ((u2.trans u34).trans u5)) (.cons (fqSame (fqI v2 (by decide +kernel) (by decide +kernel)) (u34.trans u5)) (.cons (fqSame (fqI v3' (by decide +kernel) (by decide +kernel)) u5) (.cons (fqSame (fqI v4 (by decide +kernel) (by decide +kernel)) u5) .nil)))
      refine ⟨a, q5, _, k + 4, rfl, w7.same s715, by omega, upd_same, (w7.same (s811.trans ((u1.trans u2).trans u34))).ne hq5, by show 0 < 4; decide, by show 4 ≤ 1000; decide, fun H12 i x b12 w12 hx => ?_⟩
      obtain ⟨mo, hmo, dmo2⟩ := fqGetV (dmo.keep (b12.ktW (w7.same s715))) hx
      have bmo : Bq 41 mo := by
        have hm := List.mem_of_getElem? hmo
        (simp only [List.mem_cons, List.not_mem_nil, or_false] at hm)
        (rcases hm with rfl | rfl | rfl | rfl)
        · exact bq00 41 (by decide)
        · exact bq_small (by decide) (by decide) (by decide)
        · exact bq_small (by decide) (by decide) (by decide)
        · exact bq_small (by decide) (by decide) (by decide)
      have kt8 : KeepT H8 H12 := (Same.kt (((s9.trans s10).trans s11).trans s1115)).trans (b12.ktW (w7.same s715))
      have kt11 : KeepT H11 H12 := (Same.kt s1115).trans (b12.ktW (w7.same s715))
      have dlow : DpT K H12 (.ref p8) (frd (m - t)) := DpT.keep kt8 (fqO h8)
      have dhigh : DpT K H12 (.ref p11) (frd (m + s / t)) := DpT.keep kt11 (fqO h11)
      have b0 : But a H H12 := (bh7.trans (Same.but s715)).trans b12
      have bsum : Bq 120 (m + s / t + mo) := bhi.add bmo (by decide)
      refine ⟨_, rfl, _, rfl, _, rfl, _, rfl, _, _, m + s / t, mo, rfl, dhigh, dmo2, bhi.mono (by decide), bmo.mono (by decide), .intro, fun H13 p13 s13 h13 => ?_⟩
      refine ⟨_, _, m - t, m + s / t + mo, rfl, fqSame dlow s13, fqO h13, bl.mono (by decide), bsum.mono (by decide), _, rfl, if2 (fun c => ?_) (fun c => ?_)⟩
      · have c1 : m - t ≤ m + s / t + mo := of_decide_eq_true c
        refine ⟨_, rfl, _, rfl, _, _, m + s / t, mo, rfl, fqSame dhigh s13, fqSame dmo2 s13, bhi.mono (by decide), bmo.mono (by decide), .intro, fun H14 p14 s14 h14 => ?_⟩
        refine ⟨by show 2 ≤ sizeLine; decide, fun pt hpt => ?_⟩
        have s15 := same_upd (o := .tup [.ref p8, .ref p14]) hpt
        exact q _ pt _ _ _ _ (b0.trans (Same.but ((s13.trans s14).trans s15))) ((w12.same ((s13.trans s14).trans s15)).mono (by omega)) upd_same (fqSame dlow ((s13.trans s14).trans s15)) (fqSame (fqO h14) s15) ⟨bm, bs, bl.mono (by decide), bsum.mono (by decide), s0, c1⟩
      · refine ⟨_, rfl, by show 2 ≤ sizeLine; decide, fun pt hpt => ?_⟩
        have s15 := same_upd (o := .tup [.ref p8, .ref p11]) hpt
        exact q _ pt _ _ _ _ (b0.trans (Same.but (s13.trans s15))) ((w12.same (s13.trans s15)).mono (by omega)) upd_same (fqSame dlow (s13.trans s15)) (fqSame dhigh (s13.trans s15)) ⟨bm, bs, bl.mono (by decide), bhi.mono (by decide), s0, by grind⟩
    · -- two of the roots, the mean and beside it
      refine ⟨_, rfl, _, rfl, _, rfl, _, rfl, by show 2 ≤ sizeLine; decide, fun q1 hq1 => ?_⟩
      have u1 : Same H4 (upd H4 q1 (.tup [.int 1, .int 1])) := same_upd hq1
      have v1 : (upd H4 q1 (.tup [.int 1, .int 1])) q1 = some (.tup [.int 1, .int 1]) := upd_same
      generalize upd H4 q1 (.tup [.int 1, .int 1]) = G1 at u1 v1
      refine ⟨_, _, m, 1, rfl, fqSame dm4 u1, fqI v1 rfl rfl, m4, bqOne.mono (by decide), .intro, fun H6 p6 s6 h6 => ?_⟩
      refine ⟨_, rfl, by show 2 ≤ sizeLine; decide, fun q2 hq2 => ?_⟩
      have u2 : Same H6 (upd H6 q2 (.tup [.int 1, .int 2])) := same_upd hq2
      have v2 : (upd H6 q2 (.tup [.int 1, .int 2])) q2 = some (.tup [.int 1, .int 2]) := upd_same
      generalize upd H6 q2 (.tup [.int 1, .int 2]) = G2 at u2 v2
      refine ⟨_, _, m, half, rfl, fqSame dm4 ((u1.trans s6).trans u2), fqI v2 half_q.1 half_q.2, m4, bqHalf.mono (by decide), .intro, fun H7 p7 s7 h7 => ?_⟩
      refine ⟨by show 3 ≤ sizeLine; decide, fun q3 hq3 => ?_⟩
      have u3 : Same H7 (upd H7 q3 (.lst [vm, .ref p6, .ref p7])) := same_upd hq3
      have s47 := ((u1.trans s6).trans u2).trans s7
      have f7 := f4.same s47
      refine ⟨pr, q3, us, _, rfl, rfl, u3 _ _ f7.at_, upd_same, Nat.le_of_lt (small1000 (by show us.length + 3 ≤ 1000; omega)), fun q4 hq4 => ?_⟩
      have u4 : Same (upd H7 q3 (.lst [vm, .ref p6, .ref p7])) (upd (upd H7 q3 (.lst [vm, .ref p6, .ref p7])) q4 (.lst (us ++ [vm, .ref p6, .ref p7]))) := same_upd hq4
      have u34 := u3.trans u4
      have s4x := s47.trans u34
      have w7 := w4.same s4x
      have hne4 := (w4.same (s47.trans u3)).ne hq4
      have hl4 : (upd (upd H7 q3 (.lst [vm, .ref p6, .ref p7])) q4 (.lst (us ++ [vm, .ref p6, .ref p7]))) q4 = some (.lst (us ++ [vm, .ref p6, .ref p7])) := upd_same
      generalize upd (upd H7 q3 (.lst [vm, .ref p6, .ref p7])) q4 (.lst (us ++ [vm, .ref p6, .ref p7])) = G4 at u34 s4x w7 hl4
      have dall : DpTAll K G4 (us ++ [vm, .ref p6, .ref p7]) ((qs ++ [m, m + 1, m - half]).map frd) :=
        dapp ((f4.same s4x).dat) (.cons (fqSame dm4 s4x) (.cons (fqSame (fqO h6) ((u2.trans s7).trans u34)) (.cons (fqSame (fqO h7) u34) .nil)))
      refine ⟨a, q4, _, k + 2, rfl, w7, by omega, hl4, hne4, by rw [List.length_append]; show 0 < us.length + 3; omega, by rw [List.length_append]; show us.length + 3 ≤ 1000; omega, fun H8 j y b8 w8 hy => ?_⟩
      obtain ⟨ot, hot, dot⟩ := fqGetV (dall.keep (b8.ktW w7)) hy
      have bot : Bq 23 ot := by
        rcases List.mem_append.mp (List.mem_of_getElem? hot) with h | h
        · exact fl.bq _ h
        · simp only [List.mem_cons, List.not_mem_nil, or_false] at h
          rcases h with rfl | rfl | rfl
          · exact bm.mono (by decide)
          · exact bm.add bqOne (by decide)
          · exact bm.sub bqHalf (by decide)
      have dlo8 : DpT K H8 x (frd lo) := DpT.keep ((Same.kt s4x).trans (b8.ktW w7)) dlo
      have b0 : But a H H8 := (bh4.trans (Same.but s4x)).trans b8
      refine ⟨_, rfl, _, rfl, _, _, lo, ot, rfl, dlo8, dot, blo.mono (by decide), bot.mono (by decide), _, rfl, if2 (fun c => ?_) (fun c => ?_)⟩
      · have c1 : lo ≤ ot := of_decide_eq_true c
        refine ⟨_, rfl, _, rfl, by show 2 ≤ sizeLine; decide, fun pt hpt => ?_⟩
        have s9 := same_upd (o := .tup [x, y]) hpt
        exact q _ pt _ _ _ _ (b0.trans (Same.but s9)) ((w8.same s9).mono (by omega)) upd_same (fqSame dlo8 s9) (fqSame dot s9) ⟨bm, bs, blo.mono (by decide), bot.mono (by decide), s0, c1⟩
      · have c1 : ot ≤ lo := by
          have := of_decide_eq_false c
          grind
        refine ⟨_, rfl, _, rfl, by show 2 ≤ sizeLine; decide, fun pt hpt => ?_⟩
        have s9 := same_upd (o := .tup [y, x]) hpt
        exact q _ pt _ _ _ _ (b0.trans (Same.but s9)) ((w8.same s9).mono (by omega)) upd_same (fqSame dot s9) (fqSame dlo8 s9) ⟨bm, bs, bot.mono (by decide), blo.mono (by decide), s0, c1⟩
end
end V3
namespace V3
open PySem.Spec PySem L2 PyProof.Rows RZ GxR
section
variable {mg : Str → Option Value} {base : Heap} {K : PySem.W.Frag} {P : Program} {w : World}
abbrev s__law_are_outside : Stmt := topS 50
abbrev N__law_are_outside : List Str := ["told", "mean", "spread", "low", "high", "lower", "upper", "share", "rest", "gap", "each"]
theorem sc__law_are_outside : FnScope N__law_are_outside ["told", "mean", "spread", "low", "high"] (defScope s__law_are_outside) := ⟨rfl, rfl, rfl, by decide +kernel, rfl, by decide +kernel, by decide +kernel⟩
/-- what is told is outside -/
structure Told (K : PySem.W.Frag) (H : Hp) (p : Addr) (m s l h : Rat) : Prop where
  ex : ∃ p1 p2 p3, H p = some (.tup [.ref p1, .ref p2, .ref p3]) ∧ H p1 = some (frO (m - stepR m s l h)) ∧ H p2 = some (frO (m + s / stepR m s l h)) ∧ H p3 = some (frO (s / (stepR m s l h * stepR m s l h + s)))
def spAre (K : PySem.W.Frag) : Sp := fun vs H Q _ => ∃ (p : Addr) (v1 v2 v3 v4 : V) (m s l h : Rat), vs = [.ref p, v1, v2, v3, v4] ∧ Told K H p m s l h ∧ DpT K H v1 (frd m) ∧ DpT K H v2 (frd s) ∧ DpT K H v3 (frd l) ∧ DpT K H v4 (frd h) ∧ Oa m s l h ∧ sureR m s l h = false ∧ ∀ H', Same H H' → Q (.bl true) H'
theorem ok_are (T : Gs K mg) (D__law_is_fraction : Df P w K mg base "_law_is_fraction" 2 ["thing"] (spIsFr K)) (D__law_plus : Df P w K mg base "_law_plus" 3 ["one", "two"] (spR2 K (· + ·) fun _ => True)) (D__law_minus : Df P w K mg base "_law_minus" 3 ["one", "two"] (spR2 K (· - ·) fun _ => True))
    (D__law_times : Df P w K mg base "_law_times" 3 ["one", "two"] (spR2 K (· * ·) fun _ => True)) (D__law_up_to : Df P w K mg base "_law_up_to" 1 ["one", "two"] (spR2b K fun x y => decide (x ≤ y)))
    (F : At K mg "_law_are_outside" s__law_are_outside) : Df P w K mg base "_law_are_outside" 4 ["told", "mean", "spread", "low", "high"] (spAre K) := by
  have sc := sc__law_are_outside
  refine Df.mk' F sc (fun vs H Q E h => ?_) (fun _ _ _ _ _ _ us hl => match us, hl with | [_, _, _, _, _], _ => rfl) (fun f cdv A outer s H vs Q E hr h => ?_)
  · obtain ⟨p, v1, v2, v3, v4, m, s, l, h, rfl, _⟩ := h
    rfl
  · obtain ⟨p, v1, v2, v3, v4, m, s, l, h, rfl, ⟨p1, p2, p3, hp, h1, h2, h3⟩, d1, d2, d3, d4, o, ns, q⟩ := h
    refine ⟨_, (pss_cons (ps_if (PW.pt (pw_or (pt_not (pt_val (pe_callB call_isi (by rfl) T.isinstance (by decide +kernel) (pa_cons (pv 0) (pa_cons (pe_bltn (v := .ty "tuple") (by rfl) T.tuple_ (by decide +kernel) rfl) pa_nil))))) (pw_or (pt_cmpR op_ne (pe_callB call_len_seq (by rfl) T.len PySem.boot_len (pa_cons (pv 0) pa_nil)) pe_int (nomark _)) (pw_or1 (pt_cmpR (op_neD hr.units) (pe_lc (own := [("each", 10)]) (g := gName 10) rfl sc.nd (pi_tup (pv 0)) (blkOk_by (own := [("each", 10)]) (N := N__law_are_outside) (sc := defScope s__law_are_outside) (by decide +kernel)) (fun _ _ _ _ _ => (pg_name (i := 10) sc.nd rfl (.inl rfl))) (fun _ _ _ _ _ => (pts_one (pt_not (pt_val (pe_fn D__law_is_fraction (by decide) hr (pa_cons (pv 10) pa_nil)))))) (fun _ _ _ _ _ => (pv 10))) (pe_lst pa_nil) (nomark _)))))) (pss_one (ps_ret pe_bl)) pss_nil) (pss_cons (ps_asg (pv 0) (pg_tup rfl (pgs_cons (pg_name (i := 5) sc.nd rfl (.inl rfl)) (pgs_cons (pg_name (i := 6) sc.nd rfl (.inl rfl)) (pgs_cons (pg_name (i := 7) sc.nd rfl (.inl rfl)) pgs_nil))))) (pss_cons (ps_set (i := 8) sc.nd rfl (.inl rfl) (pe_fn D__law_minus (by decide) hr (pa_cons (pe_tup (pa_cons pe_int (pa_cons pe_int pa_nil))) (pa_cons (pv 7) pa_nil)))) (pss_cons (ps_if (PW.pt (pw_or (pt_not (pt_val (pe_fn D__law_up_to (by decide) hr (pa_cons (pv 5) (pa_cons (pv 6) pa_nil))))) (pw_or (pt_cmpR op_lt (pe_ix ix_tup (pv 7) pe_int (fun _ _ => rfl)) pe_int (nomark _)) (pw_or1 (pt_cmpR op_lt (pe_ix ix_tup (pv 8) pe_int (fun _ _ => rfl)) pe_int (nomark _)))))) (pss_one (ps_ret pe_bl)) pss_nil) (pss_cons (ps_if (pt_cmpR (op_neD hr.units) (pe_lc (own := [("each", 10)]) (g := gName 10) rfl sc.nd (pi_list (pe_lst (pa_cons (pv 5) (pa_cons (pv 6) pa_nil)))) (blkOk_by (own := [("each", 10)]) (N := N__law_are_outside) (sc := defScope s__law_are_outside) (by decide +kernel)) (fun _ _ _ _ _ => (pg_name (i := 10) sc.nd rfl (.inl rfl))) (fun _ _ _ _ _ => (pts_one (PW.pt (pw_and (pt_val (pe_fn D__law_up_to (by decide) hr (pa_cons (pv 3) (pa_cons (pv 10) pa_nil)))) (pw_and1 (pt_val (pe_fn D__law_up_to (by decide) hr (pa_cons (pv 10) (pa_cons (pv 4) pa_nil))))))))) (fun _ _ _ _ _ => (pv 10))) (pe_lst pa_nil) (nomark _)) (pss_one (ps_ret pe_bl)) pss_nil) (pss_cons (ps_if (pt_cmpR (op_neD hr.units) (pe_fn D__law_plus (by decide) hr (pa_cons (pe_fn D__law_times (by decide) hr (pa_cons (pv 7) (pa_cons (pv 5) pa_nil))) (pa_cons (pe_fn D__law_times (by decide) hr (pa_cons (pv 8) (pa_cons (pv 6) pa_nil))) pa_nil))) (pv 1) (nomark _)) (pss_one (ps_ret pe_bl)) pss_nil) (pss_cons (ps_set (i := 9) sc.nd rfl (.inl rfl) (pe_fn D__law_minus (by decide) hr (pa_cons (pv 6) (pa_cons (pv 5) pa_nil)))) (pss_one (ps_ret (pe_cmpR (op_eqD hr.units) (pe_fn D__law_times (by decide) hr (pa_cons (pe_fn D__law_times (by decide) hr (pa_cons (pv 9) (pa_cons (pv 9) pa_nil))) (pa_cons (pe_fn D__law_times (by decide) hr (pa_cons (pv 7) (pa_cons (pv 8) pa_nil))) pa_nil))) (pv 2) (nomark _))))))))))), ?_⟩
    have ns' : ¬ s ≤ (m - l) * (h - m) := of_decide_eq_false ns
    have t0 := step_pos o.s0 ns'
    have bt := bq_step o
    obtain ⟨e1, e2, e3, e4, e5, e6⟩ := out_facts (m := m) o.s0 t0
    have e7 := step_low o.s0 o.lh ns'
    have e8 := step_up o.s0 o.lh ns'
    generalize stepR m s l h = t at *
    have bst : Bq 460 (s / t) := o.bs.div bt t0 (by decide)
    have blo : Bq 480 (m - t) := o.bm.sub bt (by decide)
    have bup : Bq 500 (m + s / t) := o.bm.add bst (by decide)
    have btt : Bq 881 (t * t + s) := (bt.mul bt (Nat.le_refl _)).add o.bs (by decide)
    have bsh : Bq 921 (s / (t * t + s)) := o.bs.div btt e1 (by decide)
    have bre : Bq 923 (1 - s / (t * t + s)) := bqOne.sub bsh (by decide)
    generalize m - t = lo at *
    generalize m + s / t = up at *
    generalize s / (t * t + s) = sh at *
    have hpT := SqT.of (K := K) hp
    refine ⟨_, rfl, _, _, _, _, _, rfl, .ty _, tyT hpT, rfl, _, rfl, ifF rfl ?_⟩
    refine ⟨_, rfl, _, _, rfl, .inr hpT, rfl, _, rfl, ifF (by simp) ?_⟩
    refine ⟨_, rfl, p, rfl, ⟨_, hpT⟩, fun D hD => lc_tup (K := K) (a := p) (xs := [.ref p1, .ref p2, .ref p3]) (fun i H' => Same H H' ∧ H' D = some (.lst [])) ⟨same_upd hD, upd_same⟩ (fun i H' _ h => sameT h.1 hpT) ?_ ?_⟩
    · rintro i x H' hi ⟨sm, hd⟩
      have hx : ∃ y, DpT K H' x (frd y) := by
        (have hm := List.mem_of_getElem? hi)
        (simp only [List.mem_cons, List.not_mem_nil, or_false] at hm)
        rcases hm with rfl | rfl | rfl
        · exact ⟨_, fqO (sm _ _ h1)⟩
        · exact ⟨_, fqO (sm _ _ h2)⟩
        · exact ⟨_, fqO (sm _ _ h3)⟩
      obtain ⟨y, hy⟩ := hx
      refine ⟨rfl, ?_⟩
      exact ⟨_, rfl, _, y, rfl, hy, _, rfl, ifF rfl ⟨sm, hd⟩⟩
    rintro H1 ⟨sm1, hd1⟩
    refine ⟨by show 0 ≤ sizeLine; decide, fun E1 hE1 => ?_⟩
    have s2 := same_upd (o := .lst []) hE1
    refine ⟨.list [], .list [], .lst (SqL.of (s2 _ _ hd1)) .nil, .lst (SqL.of upd_same) .nil, rfl, rfl, _, rfl, ifF rfl ?_⟩
    have s02 := sm1.trans s2
    generalize upd H1 E1 (.lst []) = H2 at s02
    clear s2 hd1
    refine ⟨_, rfl, p, _, rfl, SqT.of (s02 _ _ hp), rfl, _, _, rfl, _, _, rfl, _, _, rfl, rfl, ?_⟩
    -- rest
    refine ⟨by show 2 ≤ sizeLine; decide, fun q1 hq1 => ?_⟩
    have u1 : Same H2 (upd H2 q1 (.tup [.int 1, .int 1])) := same_upd hq1
    have v1' : (upd H2 q1 (.tup [.int 1, .int 1])) q1 = some (.tup [.int 1, .int 1]) := upd_same
    generalize upd H2 q1 (.tup [.int 1, .int 1]) = H3 at u1 v1'
    have s03 := s02.trans u1
    refine ⟨_, rfl, _, _, 1, sh, rfl, fqI v1' rfl rfl, fqO (s03 _ _ h3), bqOne.mono (by decide), bsh.mono (by decide), .intro, fun H4 p4 s4 h4 => ?_⟩
    have s04 := s03.trans s4
    refine ⟨_, rfl, _, rfl, _, _, lo, up, rfl, fqO (s04 _ _ h1), fqO (s04 _ _ h2), blo.mono (by decide), bup.mono (by decide), _, rfl, ifF (by simp [e4]) ?_⟩
    have n1 : ¬ sh.num < 0 := by
      have := Rat.num_nonneg.mpr e2
      omega
    have n2 : ¬ (1 - sh).num < 0 := by
      have := Rat.num_nonneg.mpr e3
      omega
    obtain ⟨r3, er3, hr3⟩ := fqT (fqO (K := K) (s04 _ _ h3))
    cases er3
    obtain ⟨r4, er4, hr4⟩ := fqT (fqO (K := K) h4)
    cases er4
    refine ⟨_, rfl, _, _, _, _, rfl, rfl, hr3, at20, _, _, rfl, rfl, _, rfl, ifF (by simp; omega) ?_⟩
    refine ⟨_, rfl, _, _, _, _, rfl, rfl, hr4, at20, _, _, rfl, rfl, _, rfl, ifF (decide_eq_false n2) ?_⟩
    -- neither is from low to high
    refine ⟨_, rfl, _, rfl, by show 2 ≤ sizeLine; decide, fun L1 hL1 => ?_⟩
    have u5 : Same H4 (upd H4 L1 (.lst [.ref p1, .ref p2])) := same_upd hL1
    have hl5 : (upd H4 L1 (.lst [.ref p1, .ref p2])) L1 = some (.lst [.ref p1, .ref p2]) := upd_same
    generalize upd H4 L1 (.lst [.ref p1, .ref p2]) = H5 at u5 hl5
    have s05 := s04.trans u5
    refine ⟨L1, rfl, ⟨_, SqL.of hl5⟩, fun D2 hD2 => lc_list (K := K) (a := L1) (xs := [.ref p1, .ref p2]) (fun i H' => Same H5 H' ∧ H' D2 = some (.lst [])) ⟨same_upd hD2, upd_same⟩ (fun i H' _ h => SqL.of (h.1 _ _ hl5)) ?_ ?_⟩
    · rintro i x H' hi ⟨sm, hd⟩
      have s0x := s05.trans sm
      have hx : ∃ y, DpT K H' x (frd y) ∧ Bq 4000 y ∧ ¬ (l ≤ y ∧ y ≤ h) := by
        (have hm := List.mem_of_getElem? hi)
        (simp only [List.mem_cons, List.not_mem_nil, or_false] at hm)
        rcases hm with rfl | rfl
        · exact ⟨_, fqO (s0x _ _ h1), blo.mono (by decide), e7⟩
        · exact ⟨_, fqO (s0x _ _ h2), bup.mono (by decide), e8⟩
      obtain ⟨y, hy, by', ny⟩ := hx
      refine ⟨rfl, ?_⟩
      refine ⟨_, rfl, _, rfl, _, _, l, y, rfl, fqSame d3 s0x, hy, o.bl.mono (by decide), by', _, rfl, if2 (fun c => ?_) (fun c => ?_)⟩
      · have c1 : l ≤ y := of_decide_eq_true c
        have c2 : ¬ y ≤ h := fun z => ny ⟨c1, z⟩
        refine ⟨_, rfl, _, rfl, _, _, y, h, rfl, hy, fqSame d4 s0x, by', o.bh.mono (by decide), _, rfl, ?_⟩
        exact ifF (decide_eq_false c2) ⟨sm, hd⟩
      · exact ⟨sm, hd⟩
    rintro H6 ⟨sm6, hd6⟩
    refine ⟨by show 0 ≤ sizeLine; decide, fun E2 hE2 => ?_⟩
    have s7 := same_upd (o := .lst []) hE2
    refine ⟨.list [], .list [], .lst (SqL.of (s7 _ _ hd6)) .nil, .lst (SqL.of upd_same) .nil, rfl, rfl, _, rfl, ifF rfl ?_⟩
    have s57 := sm6.trans s7
    generalize upd H6 E2 (.lst []) = H7 at s57
    clear s7 hd6
    have s47 := u5.trans s57
    have s07 := s04.trans s47
    have dlo : DpT K H7 (.ref p1) (frd lo) := fqO (s07 _ _ h1)
    have dup : DpT K H7 (.ref p2) (frd up) := fqO (s07 _ _ h2)
    have dsh : DpT K H7 (.ref p3) (frd sh) := fqO (s07 _ _ h3)
    have dre : DpT K H7 (.ref p4) (frd (1 - sh)) := fqO (s47 _ _ h4)
    -- the mean
    refine ⟨_, rfl, _, rfl, _, _, sh, lo, rfl, dsh, dlo, bsh.mono (by decide), blo.mono (by decide), .intro, fun H8 p8 s8 h8 => ?_⟩
    refine ⟨_, rfl, _, rfl, _, _, 1 - sh, up, rfl, fqSame dre s8, fqSame dup s8, bre.mono (by decide), bup.mono (by decide), .intro, fun H9 p9 s9 h9 => ?_⟩
    have b8 : Bq 1401 (sh * lo) := bsh.mul blo (by decide)
    have b9 : Bq 1423 ((1 - sh) * up) := bre.mul bup (by decide)
    refine ⟨_, _, sh * lo, (1 - sh) * up, rfl, fqSame (fqO h8) s9, fqO h9, b8.mono (by decide), b9.mono (by decide), .intro, fun H10 p10 s10 h10 => ?_⟩
    dsimp only at h10
    rw [e5] at h10
    have s710 := (s8.trans s9).trans s10
    refine ⟨_, rfl, frd m, frd m, (fqO h10).dp, (fqSame d1 (s07.trans s710)).dp, shaped_frd m, shaped_frd m, _, rfl, ifF ?_ ?_⟩
    · rw [eqv_frd]
      simp
    -- the spread
    refine ⟨_, rfl, _, rfl, _, _, up, lo, rfl, fqSame dup s710, fqSame dlo s710, bup.mono (by decide), blo.mono (by decide), .intro, fun H11 p11 s11 h11 => ?_⟩
    have bg : Bq 981 (up - lo) := bup.sub blo (by decide)
    refine ⟨_, rfl, _, rfl, _, _, up - lo, up - lo, rfl, fqO h11, fqO h11, bg.mono (by decide), bg.mono (by decide), .intro, fun H12 p12 s12 h12 => ?_⟩
    have s712 := (s710.trans s11).trans s12
    refine ⟨_, rfl, _, rfl, _, _, sh, 1 - sh, rfl, fqSame dsh s712, fqSame dre s712, bsh.mono (by decide), bre.mono (by decide), .intro, fun H13 p13 s13 h13 => ?_⟩
    have b12 : Bq 1962 ((up - lo) * (up - lo)) := bg.mul bg (by decide)
    have b13 : Bq 1844 (sh * (1 - sh)) := bsh.mul bre (by decide)
    refine ⟨_, _, (up - lo) * (up - lo), sh * (1 - sh), rfl, fqSame (fqO h12) s13, fqO h13, b12.mono (by decide), b13.mono (by decide), .intro, fun H14 p14 s14 h14 => ?_⟩
    dsimp only at h14
    rw [e6] at h14
    have s014 := s07.trans ((s712.trans s13).trans s14)
    refine ⟨_, rfl, frd s, frd s, (fqO h14).dp, (fqSame d2 s014).dp, shaped_frd s, shaped_frd s, ?_⟩
    have e : PyData.eqv (frd s) (frd s) = true := by
      rw [eqv_frd]
      simp
    rw [e]
    exact q H14 s014
abbrev s__law_is_due : Stmt := topS 51
abbrev N__law_is_due : List Str := ["told", "mean", "spread", "low", "high"]
theorem sc__law_is_due : FnScope N__law_is_due ["told", "mean", "spread", "low", "high"] (defScope s__law_is_due) := ⟨rfl, rfl, rfl, by decide +kernel, rfl, by decide +kernel, by decide +kernel⟩
def spDue (K : PySem.W.Frag) : Sp := fun vs H Q _ => ∃ (v0 v1 v2 v3 v4 : V) (m s l h : Rat), vs = [v0, v1, v2, v3, v4] ∧ (sureR m s l h = true → v0 = .non) ∧ (sureR m s l h = false → ∃ p, v0 = .ref p ∧ Told K H p m s l h) ∧ DpT K H v1 (frd m) ∧ DpT K H v2 (frd s) ∧ DpT K H v3 (frd l) ∧ DpT K H v4 (frd h) ∧ Oa m s l h ∧ ∀ H', Same H H' → Q (.bl true) H'
theorem Told.same {K : PySem.W.Frag} {H H' : Hp} {p : Addr} {m s l h : Rat} (t : Told K H p m s l h) (e : Same H H') : Told K H' p m s l h := by
  obtain ⟨p1, p2, p3, a, b, c, d⟩ := t.ex
  exact ⟨p1, p2, p3, e _ _ a, e _ _ b, e _ _ c, e _ _ d⟩
theorem ok_due (D__law_surely : Df P w K mg base "_law_surely" 4 ["mean", "spread", "low", "high"] (spSure K)) (D__law_are_outside : Df P w K mg base "_law_are_outside" 4 ["told", "mean", "spread", "low", "high"] (spAre K))
    (F : At K mg "_law_is_due" s__law_is_due) : Df P w K mg base "_law_is_due" 5 ["told", "mean", "spread", "low", "high"] (spDue K) := by
  have sc := sc__law_is_due
  refine Df.mk' F sc (fun vs H Q E h => ?_) (fun _ _ _ _ _ _ us hl => match us, hl with | [_, _, _, _, _], _ => rfl) (fun f cdv A outer s H vs Q E hr h => ?_)
  · obtain ⟨v0, v1, v2, v3, v4, m, s, l, h, rfl, _⟩ := h
    rfl
  · obtain ⟨v0, v1, v2, v3, v4, m, s, l, h, rfl, t1, t2, d1, d2, d3, d4, o, q⟩ := h
    refine ⟨_, (pss_cons (ps_if (pt_val (pe_fn D__law_surely (by decide) hr (pa_cons (pv 1) (pa_cons (pv 2) (pa_cons (pv 3) (pa_cons (pv 4) pa_nil)))))) (pss_one (ps_ret (pe_cmpR op_isN (pv 0) pe_non (nomark _)))) pss_nil) (pss_one (ps_ret (pe_fn D__law_are_outside (by decide) hr (pa_cons (pv 0) (pa_cons (pv 1) (pa_cons (pv 2) (pa_cons (pv 3) (pa_cons (pv 4) pa_nil))))))))), ?_⟩
    refine ⟨_, rfl, _, rfl, _, rfl, _, rfl, _, _, _, _, m, s, l, h, rfl, d1, d2, d3, d4, o, fun H1 s1 => ?_⟩
    refine ⟨_, rfl, if2 (fun c => ?_) (fun c => ?_)⟩
    · rw [t1 c]
      exact ⟨_, rfl, rfl, q H1 s1⟩
    · obtain ⟨p, rfl, tp⟩ := t2 c
      exact ⟨_, rfl, _, rfl, _, rfl, _, rfl, _, rfl, p, _, _, _, _, m, s, l, h, rfl, tp.same s1, fqSame d1 s1, fqSame d2 s1, fqSame d3 s1, fqSame d4 s1, o, c, fun H2 s2 => q H2 (s1.trans s2)⟩
end
end V3
namespace V3
open PySem.Spec PySem L2 PyProof.Rows RZ GxR
/-! ### four keywords, the last parameter first -/
structure DfK4 (P : Program) (w : World) (K : PySem.W.Frag) (mg : Str → Option Value) (base : Heap) (x : Str) (k : Nat) (p1 p2 p3 p4 : Str) (sp : Sp) : Prop where
  ex : ∃ (f : Addr) (fd : FuncData), mg x = some (.ref f) ∧ PySem.W.keepIn K (.ref f) = true ∧ KBinds K fd [p1, p2, p3, p4] [p4, p3, p2, p1] (fun us ws => us ++ us ++ us ++ us ++ us ++ ws.reverse) (fun us ws => us ++ us ++ us ++ us ++ us ++ ws.reverse) ∧ FnOk P w K mg base CX0 k f fd [p1, p2, p3, p4] sp
theorem Df.kw4 {P : Program} {w : World} {K : PySem.W.Frag} {mg : Str → Option Value} {base : Heap} {x p1 p2 p3 p4 : Str} {st : Stmt} {k : Nat} {sp : Sp} (D : Df P w K mg base x k [p1, p2, p3, p4] sp) (F : At K mg x st)
    (hb : ∀ (kV doc pm : Value) (an : Option Addr) (cdv ct : Value) (u1 u2 u3 u4 : Value), bindArgs (PySem.W.fnOf x x (defArgs st) (defBody st) (defScope st) .none kV doc pm an cdv ct) ⟨[], [(p4, u4), (p3, u3), (p2, u2), (p1, u1)]⟩ = pure [(p1, u1), (p2, u2), (p3, u3), (p4, u4)]) :
    DfK4 P w K mg base x k p1 p2 p3 p4 sp := by
  obtain ⟨f, fd, g, kp, b, G, oc, od, osl, lk⟩ := D.ex
  obtain ⟨f', fd', g', F'⟩ := F.ex
  rw [g] at g'
  cases g'
  obtain ⟨oc', od', kV, doc, pm, an, cdv, ct, osl', e, lk', _⟩ := F'.ex
  rw [lk] at lk'
  cases lk'
  refine ⟨f, fd, g, kp, ⟨fun s us ws hk hl => ?_, fun r1 r2 => (((((r1.append r1).append r1).append r1).append r1)).append (Vals.rev r2)⟩, G⟩
  simp only [List.length_append, List.length_reverse, List.length_cons, List.length_nil] at hl hk
  have hu : us = [] := by
    cases us with
    | nil => rfl
    | cons a r =>
      simp only [List.length_cons] at hl
      omega
  subst hu
  match ws, hl with
  | [u4, u3, u2, u1], _ =>
    subst e
    exact .of_eq (hb kV doc pm an cdv ct u1 u2 u3 u4)
theorem pe_fnK4 {X : Cx} {x p1 p2 p3 p4 : Str} {p pos : Pos} {kws : List Keyword} {tk : TA} {k k0 : Nat} {sp : Sp} (D : DfK4 X.prog X.w X.K X.mg X.base x k p1 p2 p3 p4 sp) (hk0 : k ≤ k0) (hr : Room k0 X.A) (hkw : PK X kws tk)
    (hg : Gl X x := by rfl) (hdb : (x == ("__debug__" : Str)) = false := by decide) (hall : (backToKw pos (keywordEach kws X.env)).all (·.1.isSome) = true := by rfl) (hks : (backToKw pos (keywordEach kws X.env)).filterMap (·.1) = [p4, p3, p2, p1] := by rfl)
    (plain : ((backTo pos (starEach [] X.env)).any (·.1) || (backToKw pos (keywordEach kws X.env)).any (·.1.isNone)) = false := by rfl) :
    PE X (.Call (.Name x p) [] kws pos) (tFnK sp tk) := by
  obtain ⟨f, fd, hm, hk, hb, F⟩ := D.ex
  (refine ⟨fun pins s σ H Q I h => ?_⟩)
  (refine wpAny_Call_Name_kw (ld_glob I hg hm ?_ hdb))
  refine PySem.W.callWith_KW0 (h₀ := X.base) I.ok.mod.kin hk hall (thn (hkw.run pos pins s σ H _ I h) fun ws s2 ⟨zs, H2, I2, rz, q2⟩ => ⟨I2.kIn, ?_⟩) plain
  rw [hks]
  exact run_fnk (us := []) (vs := []) F (hr.mono hk0) hb pass0 I2 .nil rz q2
section
variable {mg : Str → Option Value} {base : Heap} {K : PySem.W.Frag} {P : Program} {w : World}
abbrev s__law_right : Stmt := topS 52
abbrev N__law_right : List Str := ["well", "rows", "scale", "roots", "parts", "mean", "spread", "turn", "low", "high"]
theorem sc__law_right : FnScope N__law_right ["well"] (defScope s__law_right) := ⟨rfl, rfl, rfl, by decide +kernel, rfl, by decide +kernel, by decide +kernel⟩
def spRight : Sp := fun vs H Q _ => ∃ (a : Addr), vs = [.ref a] ∧ Well H a 0 ∧ ∀ H', But a H H' → Q (.bl true) H'
theorem ok_right (T : Gs K mg) (D__law_draw : Df P w K mg base "_law_draw" 1 ["well", "size"] spDraw) (D__law_pick : Df P w K mg base "_law_pick" 2 ["well", "some"] (spPick K)) (D__law_lowest : Df P w K mg base "_law_lowest" 2 ["upper", "lower"] spFrac)
    (D__law_number : Df P w K mg base "_law_number" 3 ["well"] spNumber) (D__law_plant : Df P w K mg base "_law_plant" 4 ["well"] (spPlant K)) (D__law_shared : Df P w K mg base "_law_shared" 4 ["roots", "parts"] (spShared K))
    (D__law_ends : Df P w K mg base "_law_ends" 4 ["well", "mean", "spread", "roots"] (spEnds K)) (D__law_span : Df P w K mg base "_law_span" 5 ["well", "roots"] (spSpan K)) (D__law_is_due : Df P w K mg base "_law_is_due" 5 ["told", "mean", "spread", "low", "high"] (spDue K))
    (D_outside : Df P w K mg base "outside" 6 ["mean", "spread", "low", "high"] (spOutside K)) (DK_outside : DfK4 P w K mg base "outside" 6 "mean" "spread" "low" "high" (spOutside K)) (F : At K mg "_law_right" s__law_right) : Df P w K mg base "_law_right" 7 ["well"] spRight := by
  have sc := sc__law_right
  refine Df.mk' F sc (fun vs H Q E h => ?_) (fun _ _ _ _ _ _ us hl => match us, hl with | [_], _ => rfl) (fun f cdv A outer s H vs Q E hr h => ?_)
  · obtain ⟨a, rfl, _⟩ := h
    rfl
  · obtain ⟨a, rfl, hw, q⟩ := h
    refine ⟨_, (pss_cons (ps_asg (pe_fn D__law_plant (by decide) hr (pa_cons (pv 0) pa_nil)) (pg_tup rfl (pgs_cons (pg_name (i := 1) sc.nd rfl (.inl rfl)) (pgs_cons (pg_name (i := 2) sc.nd rfl (.inl rfl)) (pgs_cons (pg_name (i := 3) sc.nd rfl (.inl rfl)) pgs_nil))))) (pss_cons (ps_setLc (i := 4) (own := [("turn", 7)]) (g := gName 7) rfl sc.nd rfl rfl (sw_true rfl rfl rfl (by decide +kernel)) (pi_range1 rfl T.range (pa_cons (pe_callB call_len_seq (by rfl) T.len PySem.boot_len (pa_cons (pv 3) pa_nil)) pa_nil)) (blkOk_by (own := [("turn", 7)]) (N := N__law_right) (sc := defScope s__law_right) (by decide +kernel)) (fun _ _ _ _ _ => (pg_name (i := 7) sc.nd rfl (.inl rfl))) (fun _ _ _ _ _ => pts_nil) (fun _ _ _ _ _ => (pe_fn D__law_pick (by decide) hr (pa_cons (pv 0) (pa_cons (pe_lst (pa_cons pe_int (pa_cons pe_int (pa_cons pe_int (pa_cons pe_int (pa_cons pe_int pa_nil)))))) pa_nil))))) (pss_cons (ps_if (pt_cmpR op_eq (pe_callB (cr_sum rfl) (by rfl) T.sum (by decide +kernel) (pa_cons (pv 4) pa_nil)) pe_int (nomark _)) (pss_one (ps_asg pe_int (pg_sub (pv 4) pe_int set_list))) pss_nil) (pss_cons (ps_asg (pe_fn D__law_shared (by decide) hr (pa_cons (pv 3) (pa_cons (pv 4) pa_nil))) (pg_tup rfl (pgs_cons (pg_name (i := 5) sc.nd rfl (.inl rfl)) (pgs_cons (pg_name (i := 6) sc.nd rfl (.inl rfl)) pgs_nil)))) (pss_cons (ps_for PassesOwn.never rfl (pi_range1 rfl T.range (pa_cons pe_int pa_nil)) (pg_name (i := 7) sc.nd rfl (.inl rfl)) (pss_cons (ps_asg (pe_fn D__law_ends (by decide) hr (pa_cons (pv 0) (pa_cons (pv 5) (pa_cons (pv 6) (pa_cons (pv 3) pa_nil))))) (pg_tup rfl (pgs_cons (pg_name (i := 8) sc.nd rfl (.inl rfl)) (pgs_cons (pg_name (i := 9) sc.nd rfl (.inl rfl)) pgs_nil)))) (pss_one (ps_if (pt_not (pt_val (pe_fn D__law_is_due (by decide) hr (pa_cons (pe_fn D_outside (by decide) hr (pa_cons (pv 5) (pa_cons (pv 6) (pa_cons (pv 8) (pa_cons (pv 9) pa_nil))))) (pa_cons (pv 5) (pa_cons (pv 6) (pa_cons (pv 8) (pa_cons (pv 9) pa_nil)))))))) (pss_one (ps_ret pe_bl)) pss_nil)))) (pss_cons (ps_par (i := 5) (j := 6) rfl sc.nd rfl rfl (by decide) rfl rfl (pa_cons (pe_fn D__law_number (by decide) hr (pa_cons (pv 0) pa_nil)) (pa_cons (pe_fn D__law_lowest (by decide) hr (pa_cons (pe_fn D__law_pick (by decide) hr (pa_cons (pv 0) (pa_cons (pe_lst (pa_cons pe_int (pa_cons pe_int (pa_cons pe_int (pa_cons pe_int (pa_cons (pe_fn D__law_draw (by decide) hr (pa_cons (pv 0) (pa_cons pe_int pa_nil))) pa_nil)))))) pa_nil))) (pa_cons (pe_op op_add pe_int (pe_fn D__law_draw (by decide) hr (pa_cons (pv 0) (pa_cons pe_int pa_nil)))) pa_nil))) pa_nil)) (by rfl)) (pss_cons (ps_asg (pe_fn D__law_ends (by decide) hr (pa_cons (pv 0) (pa_cons (pv 5) (pa_cons (pv 6) (pa_cons (pv 3) pa_nil))))) (pg_tup rfl (pgs_cons (pg_name (i := 8) sc.nd rfl (.inl rfl)) (pgs_cons (pg_name (i := 9) sc.nd rfl (.inl rfl)) pgs_nil)))) (pss_cons (ps_if (pt_not (pt_val (pe_fn D__law_is_due (by decide) hr (pa_cons (pe_fnK4 DK_outside (by decide) hr (pk_cons (pv 9) (pk_cons (pv 8) (pk_cons (pv 6) (pk_cons (pv 5) pk_nil))))) (pa_cons (pv 5) (pa_cons (pv 6) (pa_cons (pv 8) (pa_cons (pv 9) pa_nil)))))))) (pss_one (ps_ret pe_bl)) pss_nil) (pss_cons (ps_asg (pe_fn D__law_span (by decide) hr (pa_cons (pv 0) (pa_cons (pe_op op_cat (pv 3) (pe_lst (pa_cons (pv 5) pa_nil))) pa_nil))) (pg_tup rfl (pgs_cons (pg_name (i := 8) sc.nd rfl (.inl rfl)) (pgs_cons (pg_name (i := 9) sc.nd rfl (.inl rfl)) pgs_nil)))) (pss_one (ps_ret (pe_fn D__law_is_due (by decide) hr (pa_cons (pe_fn D_outside (by decide) hr (pa_cons (pv 5) (pa_cons (pv 6) (pa_cons (pv 8) (pa_cons (pv 9) pa_nil))))) (pa_cons (pv 5) (pa_cons (pv 6) (pa_cons (pv 8) (pa_cons (pv 9) pa_nil))))))))))))))))), ?_⟩
    refine ⟨_, rfl, a, 0, rfl, hw, by decide, fun H1 p1 r1 z1 pr us qs sn b1 w1 h1 hpr hne hd n1 n5 s1 s3 kq => ?_⟩
    refine ⟨p1, _, rfl, SqT.of h1, rfl, _, _, rfl, _, _, rfl, _, _, rfl, rfl, ?_⟩
    have lu : us.length = qs.length := fqLen hd
    -- parts
    refine ⟨_, rfl, pr, _, rfl, .inl (SqL.of hpr), ?_⟩
    refine ⟨_, rfl, by omega, by omega, fun D hD => lc_range (lo := 0) (n := _) (fun i H' => But a H1 H' ∧ Well H' a (30 + i) ∧ ∃ zs : List Int, H' D = some (.lst (zs.map V.int)) ∧ zs.length = i ∧ ∀ z ∈ zs, 0 ≤ z ∧ z ≤ 7)
      ⟨Same.but (same_upd hD), (w1.mono (by omega)).same (same_upd hD), [], upd_same, rfl, fun z hz => by cases hz⟩ ?_ ?_⟩
    · rintro i H2 hi ⟨b2, w2, zs, hz, lz, kz⟩
      refine ⟨rfl, yesIf ?_⟩
      refine ⟨_, rfl, by show 5 ≤ sizeLine; decide, fun pl hpl => ?_⟩
      have s2 : Same H2 (upd H2 pl (.lst (([0, 1, 1, 2, 7] : List Int).map V.int))) := same_upd hpl
      refine ⟨a, pl, ([0, 1, 1, 2, 7] : List Int).map V.int, 30 + i, rfl, w2.same s2, by omega, upd_same, w2.ne hpl, by decide, by decide, fun H3 j x b3 w3 hx => ?_⟩
      obtain ⟨z, rfl, hm⟩ := mem6 hx
      have bz : 0 ≤ z ∧ z ≤ 7 := by
        (simp only [List.mem_cons, List.not_mem_nil, or_false] at hm)
        omega
      have hz3 := b3 _ _ (Ne.symm (w1.ne hD)) (s2 _ _ hz)
      refine ⟨_, hz3, small1000 (by rw [List.length_map]; omega), ((b2.trans (Same.but s2)).trans b3).updN hD, w3.upd (w1.ne hD), zs ++ [z], ?_, by rw [List.length_append, lz]; rfl, fun y hy => ?_⟩
      · rw [upd_same, List.map_append]
        rfl
      · rcases List.mem_append.mp hy with h | h
        · exact kz y h
        · rw [List.mem_singleton.mp h]
          exact bz
    rintro H2 ⟨b2, w2, zs, hz, lz, kz⟩
    have lz' : zs.length = qs.length := by omega
    have sb := sum_bd zs kz
    refine ⟨_, rfl, D, zs, rfl, SqL.of hz, ?_⟩
    refine ⟨rfl, _, rfl, if2 (fun e => ?a) (fun e => ?b)⟩
    case' a =>
      refine ⟨_, rfl, D, _, _, 0, rfl, rfl, hz, ixNat rfl (by rw [List.length_map]; omega), ?_⟩
      have hz3 : (upd H2 D (.lst ((zs.map V.int).set 0 (.int 1)))) D = some (.lst ((zs.set 0 1).map V.int)) := by rw [upd_same, List.map_set]
      have b3 : But a H1 (upd H2 D (.lst ((zs.map V.int).set 0 (.int 1)))) := b2.updN hD
      have w3 : Well (upd H2 D (.lst ((zs.map V.int).set 0 (.int 1)))) a 40 := (w2.mono (by omega)).upd (w1.ne hD)
      have l3 : (zs.set 0 1).length = qs.length := by rw [List.length_set]; exact lz'
      have k3 : ∀ z ∈ zs.set 0 1, 0 ≤ z ∧ z ≤ 7 := fun z hz' => by
        rcases List.mem_or_eq_of_mem_set hz' with h | h
        · exact kz z h
        · rw [h]
          decide
      have p3 : 0 < (zs.set 0 1).sum := by
        match zs, lz', kz with
        | [], l0, _ =>
          simp at l0
          omega
        | x :: r, _, k0 =>
          have := (sum_bd r fun y hy => k0 y (List.mem_cons_of_mem _ hy)).1
          show 0 < (1 :: r).sum
          rw [List.sum_cons]
          omega
      generalize upd H2 D (.lst ((zs.map V.int).set 0 (.int 1))) = H3 at hz3 b3 w3
      generalize zs.set 0 1 = z3 at hz3 l3 k3 p3
    case' b =>
      have hz3 := hz
      have b3 := b2
      have w3 : Well H2 a 40 := w2.mono (by omega)
      have l3 := lz'
      have k3 := kz
      have p3 : 0 < zs.sum := by
        have : zs.sum ≠ 0 := by
          simpa using e
        omega
      generalize H2 = H3 at hz3 b3 w3
      generalize zs = z3 at hz3 l3 k3 p3
    all_goals
      have hpr3 := b3 _ _ (Ne.symm hne) hpr
      have hd3 := hd.keep (b3.ktW w1)
      refine ⟨_, rfl, _, rfl, pr, D, us, qs, z3, sn, rfl, hpr3, hd3, n5, s1, s3, kq, hz3, l3, k3, p3, fun H4 p4 vm vs_ m s s4 h4 dm ds bm bs s0 => ?_⟩
      refine ⟨p4, _, rfl, SqT.of h4, rfl, _, _, rfl, _, _, rfl, rfl, ?_⟩
      have w4 := w3.same s4
      have bq23 : ∀ x ∈ qs, Bq 23 x := fun x hx => (kq x hx).bq (by omega) (by omega) (by decide)
      have fl4 : FrL K H4 pr us qs := ⟨s4 _ _ hpr3, hd3.keep (Same.kt s4), n1, by omega, bq23⟩
      have b04 : But a H H4 := (b1.trans b3).trans (Same.but s4)
      -- twice about the planted roots
      refine ⟨_, rfl, by decide, by decide, for_range (lo := 0) (n := _) (fun i σ H' => ∃ (y7 y8 y9 : Option V), σ = [some (.ref a), some (.ref r1), some (.int z1), some (.ref pr), some (.ref D), some vm, some vs_, y7, y8, y9] ∧ But a H4 H' ∧ Well H' a (40 + 9 * i))
        ⟨_, _, _, rfl, But.refl _ _, w4⟩ ?_ ?_⟩
      · rintro i σ H5 hi ⟨y7, y8, y9, rfl, b5, w5⟩
        have hi2 : i < 2 := hi
        have fl5 := fl4.but b5 w4 hne
        have dm5 := DpT.keep (b5.ktW w4) dm
        have ds5 := DpT.keep (b5.ktW w4) ds
        refine ⟨_, rfl, _, rfl, _, rfl, _, rfl, a, pr, vm, vs_, us, qs, m, s, 40 + 9 * i, rfl, w5, by omega, fl5, n5, hne, dm5, ds5, bm, bs, s0, fun H6 p6 v1 v2 l h b6 w6 h6 dl dh o => ?_⟩
        refine ⟨p6, _, rfl, SqT.of h6, rfl, _, _, rfl, _, _, rfl, rfl, ?_⟩
        have dm6 := DpT.keep (b6.ktW w5) dm5
        have ds6 := DpT.keep (b6.ktW w5) ds5
        refine ⟨_, rfl, _, rfl, _, rfl, _, rfl, _, _, _, _, m, s, l, h, rfl, dm6, ds6, dl, dh, o, fun c H7 s7 => ?_, fun c H7 p7 p8 p9 p10 s7 h7 h8 h9 h10 => ?_⟩
        · refine ⟨_, rfl, _, rfl, _, rfl, _, rfl, _, _, _, _, _, m, s, l, h, rfl, fun _ => rfl, fun z => absurd (c.symm.trans z) (by decide), fqSame dm6 s7, fqSame ds6 s7, fqSame dl s7, fqSame dh s7, o, fun H8 s8 => ?_⟩
          exact ⟨_, rfl, ifF rfl ⟨_, _, _, rfl, (b5.trans b6).trans (Same.but (s7.trans s8)), (w6.same (s7.trans s8)).mono (by omega)⟩⟩
        · refine ⟨_, rfl, _, rfl, _, rfl, _, rfl, _, _, _, _, _, m, s, l, h, rfl, fun z => absurd (c.symm.trans z) (by decide), fun _ => ⟨p7, rfl, ⟨p8, p9, p10, h7, h8, h9, h10⟩⟩, fqSame dm6 s7, fqSame ds6 s7, fqSame dl s7, fqSame dh s7, o, fun H8 s8 => ?_⟩
          exact ⟨_, rfl, ifF rfl ⟨_, _, _, rfl, (b5.trans b6).trans (Same.but (s7.trans s8)), (w6.same (s7.trans s8)).mono (by omega)⟩⟩
      rintro σ H5 ⟨y7, y8, y9, rfl, b5, w5⟩
      have fl5 := fl4.but b5 w4 hne
      -- a drawn mean and spread
      refine ⟨_, rfl, a, 58, rfl, w5.mono (by decide), by decide, fun H6 p6 mm b6 w6 h6 bmm => ?_⟩
      refine ⟨_, rfl, _, rfl, a, _, 61, rfl, w6, by decide, by decide, by decide, fun H7 d b7 w7 d0 dl => ?_⟩
      refine ⟨by show 5 ≤ sizeLine; decide, fun pl hpl => ?_⟩
      have s8 : Same H7 (upd H7 pl (.lst (([0, 1, 2, 9, d] : List Int).map V.int))) := same_upd hpl
      refine ⟨a, pl, ([0, 1, 2, 9, d] : List Int).map V.int, 62, rfl, w7.same s8, by decide, upd_same, w7.ne hpl, by show 0 < 5; decide, by show 5 ≤ 1000; decide, fun H8 j x b8 w8 hx => ?_⟩
      obtain ⟨z, rfl, hm⟩ := mem6 hx
      have bz : 0 ≤ z ∧ z < 100 := by
        (simp only [List.mem_cons, List.not_mem_nil, or_false] at hm)
        omega
      refine ⟨_, rfl, a, _, 63, rfl, w8, by decide, by decide, by decide, fun H9 d9 b9 w9 d90 d9l => ?_⟩
      refine ⟨_, _, rfl, rfl, ?_⟩
      refine ⟨_, _, rfl, by omega, lt9000 (by omega) (by omega), fun H10 p10 s10 h10 => ?_⟩
      have s0' : 0 ≤ Rat.divInt z (1 + d9) := Rat.divInt_nonneg bz.1 (by omega)
      have bss : Bq 40 (Rat.divInt z (1 + d9)) := bq_small (by omega) (by omega) (by omega)
      generalize Rat.divInt z (1 + d9) = ss at h10 s0' bss
      have b610 : But a H6 H10 := ((b7.trans (Same.but s8)).trans (b8.trans b9)).trans (Same.but s10)
      have b510 : But a H5 H10 := b6.trans b610
      have w10 := w9.same s10
      have fl10 := fl5.but b510 w5 hne
      have dmm : DpT K H10 (.ref p6) (frd mm) := DpT.keep (b610.ktW w6) (fqO h6)
      have dss : DpT K H10 (.ref p10) (frd ss) := fqO h10
      refine ⟨_, _, rfl, ?_⟩
      -- by name
      refine ⟨_, rfl, _, rfl, _, rfl, _, rfl, a, pr, _, _, us, qs, mm, ss, 64, rfl, w10, by decide, fl10, n5, hne, dmm, dss, bmm, bss, s0', fun H11 p11 v1 v2 l h b11 w11 h11 dl' dh o => ?_⟩
      refine ⟨p11, _, rfl, SqT.of h11, rfl, _, _, rfl, _, _, rfl, rfl, ?_⟩
      have dm11 := DpT.keep (b11.ktW w10) dmm
      have ds11 := DpT.keep (b11.ktW w10) dss
      have fl11 := fl10.but b11 w10 hne
      have b011 : But a H H11 := ((b04.trans b5).trans b510).trans b11
      refine ⟨_, rfl, _, rfl, _, rfl, _, rfl, _, _, _, _, mm, ss, l, h, rfl, dm11, ds11, dl', dh, o, fun c H12 s12 => ?_, fun c H12 p7 p8 p9 p10' s12 h7 h8 h9 h10' => ?_⟩
      all_goals
        first
          | refine ⟨_, rfl, _, rfl, _, rfl, _, rfl, .non, _, _, _, _, mm, ss, l, h, rfl, fun _ => rfl, fun z => absurd (c.symm.trans z) (by decide), fqSame dm11 s12, fqSame ds11 s12, fqSame dl' s12, fqSame dh s12, o, fun H13 s13 => ?_⟩
          | refine ⟨_, rfl, _, rfl, _, rfl, _, rfl, .ref p7, _, _, _, _, mm, ss, l, h, rfl, fun z => absurd (c.symm.trans z) (by decide), fun _ => ⟨p7, rfl, ⟨p8, p9, p10', h7, h8, h9, h10'⟩⟩, fqSame dm11 s12, fqSame ds11 s12, fqSame dl' s12, fqSame dh s12, o, fun H13 s13 => ?_⟩
        refine ⟨_, rfl, ifF rfl ?_⟩
        have sx := s12.trans s13
        have w13 := w11.same sx
        have fl13 := fl11.same sx
        have dm13 := fqSame dm11 sx
        have ds13 := fqSame ds11 sx
        refine ⟨_, rfl, _, rfl, _, rfl, by show 1 ≤ sizeLine; decide, fun p14 hp14 => ?_⟩
        have t14 : Same H13 (upd H13 p14 (.lst [.ref p6])) := same_upd hp14
        refine ⟨pr, p14, us, _, rfl, rfl, t14 _ _ fl13.at_, upd_same, Nat.le_of_lt (small1000 (by show us.length + 1 ≤ 1000; omega)), fun p15 hp15 => ?_⟩
        have t15 : Same (upd H13 p14 (.lst [.ref p6])) (upd (upd H13 p14 (.lst [.ref p6])) p15 (.lst (us ++ [.ref p6]))) := same_upd hp15
        have hl15 : (upd (upd H13 p14 (.lst [.ref p6])) p15 (.lst (us ++ [.ref p6]))) p15 = some (.lst (us ++ [.ref p6])) := upd_same
        have ne15 := (w13.same t14).ne hp15
        have t1315 := t14.trans t15
        have fl15 : FrL K (upd (upd H13 p14 (.lst [.ref p6])) p15 (.lst (us ++ [.ref p6]))) p15 (us ++ [.ref p6]) (qs ++ [mm]) := ⟨hl15, by
          rw [List.map_append]
          exact dtAll_app (fl13.dat.keep (Same.kt t1315)) (.cons (fqSame dm13 t1315) .nil), by rw [List.length_append]; show 1 ≤ qs.length + 1; omega, by rw [List.length_append]; show qs.length + 1 ≤ 8; omega, fun x hx => by
          rcases List.mem_append.mp hx with h | h
          · exact bq23 x h
          · rw [List.mem_singleton.mp h]
            exact bmm.mono (by decide)⟩
        refine ⟨a, p15, _, _, 73, rfl, w13.same t1315, by decide, fl15, ne15, fun H16 p16 v1' v2' l' h' b16 w16 h16 dl2 dh2 bl2 bh2 le2 => ?_⟩
        refine ⟨p16, _, rfl, SqT.of h16, rfl, _, _, rfl, _, _, rfl, rfl, ?_⟩
        have kt16 := (Same.kt t1315).trans (b16.ktW (w13.same t1315))
        have dm16 := DpT.keep kt16 dm13
        have ds16 := DpT.keep kt16 ds13
        have o2 : Oa mm ss l' h' := ⟨bmm, bss, bl2.mono (by decide), bh2.mono (by decide), s0', le2⟩
        have b016 : But a H H16 := (b011.trans (Same.but (sx.trans t1315))).trans b16
        refine ⟨_, rfl, _, rfl, _, rfl, _, rfl, _, _, _, _, mm, ss, l', h', rfl, dm16, ds16, dl2, dh2, o2, fun c2 H17 s17 => ?_, fun c2 H17 e7 e8 e9 e10 s17 g7 g8 g9 g10 => ?_⟩
        · exact ⟨_, rfl, _, rfl, _, rfl, _, rfl, .non, _, _, _, _, mm, ss, l', h', rfl, fun _ => rfl, fun z => absurd (c2.symm.trans z) (by decide), fqSame dm16 s17, fqSame ds16 s17, fqSame dl2 s17, fqSame dh2 s17, o2, fun H18 s18 => q H18 (b016.trans (Same.but (s17.trans s18)))⟩
        · exact ⟨_, rfl, _, rfl, _, rfl, _, rfl, .ref e7, _, _, _, _, mm, ss, l', h', rfl, fun z => absurd (c2.symm.trans z) (by decide), fun _ => ⟨e7, rfl, ⟨e8, e9, e10, g7, g8, g9, g10⟩⟩, fqSame dm16 s17, fqSame ds16 s17, fqSame dl2 s17, fqSame dh2 s17, o2, fun H18 s18 => q H18 (b016.trans (Same.but (s17.trans s18)))⟩
abbrev s_law : Stmt := topS 53
abbrev N_law : List Str := ["script", "turn"]
theorem sc_law : FnScope N_law ["script"] (defScope s_law) := ⟨rfl, rfl, rfl, by decide +kernel, rfl, by decide +kernel, by decide +kernel⟩
def spLaw (K : PySem.W.Frag) : Sp := fun vs H Q _ => ∃ (la : Addr) (ks : List Int), vs = [.ref la] ∧ SqL K H la (ks.map V.int) ∧ ∀ H1, Q (.bl true) H1
theorem ok_law (T : Gs K mg) (D__law_well : Df P w K mg base "_law_well" 1 ["script", "turn"] (spWell K)) (D__law_right : Df P w K mg base "_law_right" 7 ["well"] spRight) (F : At K mg "law" s_law) : Df P w K mg base "law" 8 ["script"] (spLaw K) := by
  have sc := sc_law
  refine Df.mk' F sc (fun vs H Q E h => ?_) (fun _ _ _ _ _ _ us hl => match us, hl with | [_], _ => rfl) (fun f cdv A outer s H vs Q E hr h => ?_)
  · obtain ⟨a, ns, rfl, _⟩ := h
    rfl
  · obtain ⟨a, ns, rfl, ha, q⟩ := h
    refine ⟨_, (pss_one (ps_ret (pe_callB (cr_all rfl) (by rfl) T.all (by decide +kernel) (pa_cons (pe_lc (own := [("turn", 1)]) (g := gName 1) rfl sc.nd (pi_range1 rfl T.range (pa_cons pe_int pa_nil)) (blkOk_by (own := [("turn", 1)]) (N := N_law) (sc := defScope s_law) (by decide +kernel)) (fun _ _ _ _ _ => (pg_name (i := 1) sc.nd rfl (.inl rfl))) (fun _ _ _ _ _ => pts_nil) (fun _ _ _ _ _ => (pe_fn D__law_right (by decide) hr (pa_cons (pe_fn D__law_well (by decide) hr (pa_cons (pv 0) (pa_cons (pv 1) pa_nil))) pa_nil)))) pa_nil)))), ?_⟩
    refine ⟨_, rfl, by decide, by decide, fun D hD => lc_range (lo := 0) (n := _) (fun i H' => Same H H' ∧ ∃ bs : List Bool, H' D = some (.lst (bs.map V.bl)) ∧ bs.length = i ∧ bs.all id = true)
      ⟨same_upd hD, [], upd_same, rfl, rfl⟩ ?_ ?_⟩
    · rintro i H1 hi ⟨b1, bs, hbs, hbl, hba⟩
      have hi2 : i < 2 := hi
      refine ⟨rfl, yesIf ?_⟩
      refine ⟨_, rfl, _, rfl, a, ns, i, by rw [Int.zero_add], b1.seq ha, fun H2 p s2 hp w2 => ?_⟩
      refine ⟨p, rfl, w2, fun H3 b3 => ?_⟩
      have dp : D ≠ p := fun z => by rw [← z, hbs] at hp; cases hp
      have hbs3 := b3 _ _ dp (s2 _ _ hbs)
      refine ⟨_, hbs3, small1000 (by rw [List.length_map]; omega), ?_, bs ++ [true], ?_, by rw [List.length_append, hbl]; rfl, by rw [List.all_append, hba]; rfl⟩
      · intro bb o e
        rw [upd_ne (ne_of_none e hD)]
        have e1 := b1 _ _ e
        exact b3 _ _ (ne_of_none e1 hp) (s2 _ _ e1)
      · rw [upd_same, List.map_append]
        rfl
    · rintro H1 ⟨b1, bs, hbs, hbl, hba⟩
      refine ⟨D, bs, rfl, SqL.of hbs, ?_⟩
      rw [hba]
      exact q H1
end
end V3
set_option maxHeartbeats 0
namespace V3
open PySem PySem.Spec PyProof.Rows L2 RZ GxR
def loose0 : List Str := ["RootError", "InvalidFraction", "NOUGHT", "ONE", "fraction", "plus", "minus", "times", "over", "is_above", "is_whole", "is_tuple_of", "is_fraction", "check_fraction", "check_fraction_from", "HALF", "check_told", "check_told_stretch", "is_sure", "outside", "step_down", "_law_well", "_law_draw", "_law_pick", "_law_common", "_law_lowest", "_law_plus", "_law_times", "_law_is_whole", "_law_is_fraction"]
def loose1 : List Str := ["_law_dot", "_law_framed", "_law_mirror", "_law_along", "_law_number", "_law_plant", "_law_at", "_law_span", "_law_minus", "_law_shared", "_law_up_to", "_law_surely", "_law_quotient", "_law_ends", "_law_are_outside", "_law_is_due", "_law_right"]
def loose : List Str := loose0 ++ loose1
def dN (x : Str) (st : Stmt) : He.DefD := ⟨(x, none), x, x, defArgs st, defBody st, defScope st, [], []⟩
def fn0 : List He.DefD := [dN "fraction" (topS 7), dN "plus" (topS 8), dN "minus" (topS 9), dN "times" (topS 10), dN "over" (topS 11), dN "is_above" (topS 12), dN "is_whole" (topS 14), dN "is_tuple_of" (topS 15), dN "is_fraction" (topS 16), dN "check_fraction" (topS 17), dN "check_fraction_from" (topS 18), dN "check_told" (topS 21), dN "check_told_stretch" (topS 22), dN "is_sure" (topS 23), dN "outside" (topS 24), dN "step_down" (topS 25), dN "_law_well" (topS 27), dN "_law_draw" (topS 28), dN "_law_pick" (topS 29), dN "_law_common" (topS 30), dN "_law_lowest" (topS 31)]
def fa0 : List He.Fa := [.glo "fraction", .glo "plus", .glo "minus", .glo "times", .glo "over", .glo "is_above", .glo "is_whole", .glo "is_tuple_of", .glo "is_fraction", .glo "check_fraction", .glo "check_fraction_from", .glo "check_told", .glo "check_told_stretch", .glo "is_sure", .glo "outside", .glo "step_down", .glo "_law_well", .glo "_law_draw", .glo "_law_pick", .glo "_law_common", .glo "_law_lowest"]
def fn1 : List He.DefD := [dN "_law_plus" (topS 32), dN "_law_times" (topS 33), dN "_law_is_whole" (topS 34), dN "_law_is_fraction" (topS 35), dN "_law_dot" (topS 36), dN "_law_framed" (topS 37), dN "_law_mirror" (topS 38), dN "_law_along" (topS 39), dN "_law_number" (topS 40), dN "_law_plant" (topS 41), dN "_law_at" (topS 42), dN "_law_span" (topS 43), dN "_law_minus" (topS 44), dN "_law_shared" (topS 45), dN "_law_up_to" (topS 46), dN "_law_surely" (topS 47), dN "_law_quotient" (topS 48), dN "_law_ends" (topS 49), dN "_law_are_outside" (topS 50), dN "_law_is_due" (topS 51), dN "_law_right" (topS 52), dN "law" (topS 53)]
def fa1 : List He.Fa := [.glo "_law_plus", .glo "_law_times", .glo "_law_is_whole", .glo "_law_is_fraction", .glo "_law_dot", .glo "_law_framed", .glo "_law_mirror", .glo "_law_along", .glo "_law_number", .glo "_law_plant", .glo "_law_at", .glo "_law_span", .glo "_law_minus", .glo "_law_shared", .glo "_law_up_to", .glo "_law_surely", .glo "_law_quotient", .glo "_law_ends", .glo "_law_are_outside", .glo "_law_is_due", .glo "_law_right", .glo "law"]
def fa2 : List He.Fa := [.free "type", .free "int", .free "tuple", .free "bool", .free "len", .free "range", .free "sum", .free "abs", .free "isinstance", .free "all"]
def fnA : List He.DefD := fn0 ++ fn1
def faA : List He.Fa := fa0 ++ (fa1 ++ fa2)
def tfA : List He.Defn := []
/-- a name of the module holds a pair of whole numbers -/
def pairIn (K : PySem.W.Frag) (p : Addr) (a b : Int) : Bool := (match K.lookup p with
  | some ⟨.type "tuple", _, .seq its _, _⟩ => (match its.toList with
    | [.int i _, .int j _] => decide (i = a) && decide (j = b)
    | _ => false)
  | _ => false)
def tupIn (K : PySem.W.Frag) (x : Str) (a b : Int) : Bool := (match PySem.W.nsIn K mainGlobals x with
  | some (some (.ref p)) => pairIn K p a b
  | _ => false)
theorem tupIn_ok {K : PySem.W.Frag} {x : Str} {a b : Int} (h : tupIn K x a b = true) : ∃ p, PySem.W.nsIn K mainGlobals x = some (some (.ref p)) ∧ ∀ H, SqT K H p [.int a, .int b] := by
  unfold tupIn at h
  split at h
  · rename_i p hp
    refine ⟨p, hp, fun H => ?_⟩
    unfold pairIn at h
    split at h
    · rename_i od its n osl hl
      split at h
      · rename_i i ti j tj hi
        obtain ⟨h1, h2⟩ := He.ba h
        have e1 : i = a := of_decide_eq_true h1
        have e2 : j = b := of_decide_eq_true h2
        subst e1 e2
        have hz : its.size = 2 := by
          have := congrArg List.length hi
          simpa using this
        refine .inr ⟨_, its, n, hl, rfl, rfl, by rw [hz]; show 2 ≤ sizeLine; decide, ?_⟩
        rw [hi]
        exact .cons ⟨ti, rfl⟩ (.cons ⟨tj, rfl⟩ .nil)
      · cases h
    · cases h
  · cases h
def exA (K : PySem.W.Frag) : Bool := (He.eqO (PySem.W.nsIn K mainGlobals "gcd") (some (some (.builtin "math.gcd"))) && (tupIn K "NOUGHT" (0) (1) && (tupIn K "ONE" (1) (1) && (tupIn K "HALF" (1) (2) && true))))
abbrev RR : PySem.W.OpenRow := PySem.W.OpenLaw.row PySem.Challenge.rw_rootsabove_k19_whole_outside_roots
abbrev hkR : PySem.W.Hook := He.hookX 4 faA fnA [] tfA exA
def obR (s : PySem.W.SharedT) : He.AlX := He.obsX 4 faA fnA [] tfA exA (HandSHeadRun.getT s)
theorem obR_eq (s : PySem.W.SharedT) : obR s = hkR.obs s.abs := He.obsX_eq (HandSHeadRun.getT_eq s)
abbrev qR : Program := PySem.W.view RR.prog [0, 53]
theorem runR (w : World) : HandSHeadRun.RunEqI RR qR hkR obR 20000 loose w := by
  delta HandSHeadRun.RunEqI
  kernel_rfl
end V3
namespace V3
open PySem PySem.Spec PyProof.Rows L2 RZ GxR
section
variable {w : World} {K : PySem.W.Frag} {h : Heap} {mg : Str → Option Value}
theorem atR (X : K.In h) (G : h.Ns mainGlobals mg) (c : He.SaysD faA fnA K) (i : Nat) (x : Str) (st : Stmt) (h1 : fnA[i]? = some (dN x st)) (h2 : faA[i]? = some (.glo x)) : At K mg x st := by
  obtain ⟨fd, F⟩ := c.def_ i (d := dN x st) h1
  have g := He.glo_ok X G (c.fact i (f := .glo x) h2)
  obtain ⟨oc, od, dV, kV, doc, pm, an, cdv, ct, osl, e, lk, cd, dv, kv⟩ := F.ex
  rcases dv with ⟨_, e2⟩ | ⟨e2, _⟩
  · subst e2
    exact ⟨⟨_, _, g, ⟨⟨oc, od, kV, doc, pm, an, cdv, ct, osl, e, lk, cd⟩, F.kp⟩⟩⟩
  · exact absurd rfl e2
theorem atCR (X : K.In h) (G : h.Ns mainGlobals mg) (c : He.SaysD faA fnA K) (i : Nat) (x : Str) (st : Stmt) (h1 : fnA[i]? = some (dN x st)) (h2 : faA[i]? = some (.glo x)) : AtC K mg x st (He.cT K (x, none)).1 := by
  obtain ⟨fd, F⟩ := c.def_ i (d := dN x st) h1
  have g := He.glo_ok X G (c.fact i (f := .glo x) h2)
  obtain ⟨oc, od, dV, kV, doc, pm, an, cdv, ct, osl, e, lk, cd, dv, kv⟩ := F.ex
  obtain ⟨cc, rfl⟩ := He.codeIn_ref cd
  have ec : He.codeOf K (x, none) = cc := He.codeOf_eq lk (by rw [e])
  rcases dv with ⟨_, e2⟩ | ⟨e2, _⟩
  · subst e2
    subst e
    have e3 : (He.cT K (x, none)).1 = cc := ec
    rw [e3]
    exact ⟨⟨_, oc, od, kV, doc, pm, an, ct, osl, g, lk, cd, F.kp⟩⟩
  · exact absurd rfl e2
theorem gsR (X : K.In h) (G : h.Ns mainGlobals mg) (c : He.SaysD faA fnA K) (ex : exA K = true) : Gs K mg := by
  obtain ⟨e1, ex⟩ := He.ba ex
  obtain ⟨e2, ex⟩ := He.ba ex
  obtain ⟨e3, ex⟩ := He.ba ex
  obtain ⟨e4, ex⟩ := He.ba ex
  obtain ⟨p1, g1, t1⟩ := tupIn_ok e2
  obtain ⟨p2, g2, t2⟩ := tupIn_ok e3
  obtain ⟨p3, g3, t3⟩ := tupIn_ok e4
  refine ⟨PySem.W.mg_of X G (He.eqO_ok e1), ⟨p1, PySem.W.mg_of X G g1, t1⟩, ⟨p2, PySem.W.mg_of X G g2, t2⟩, ⟨p3, PySem.W.mg_of X G g3, t3⟩, He.free_ok X G (c.fact 43 (f := .free "type") rfl), He.free_ok X G (c.fact 44 (f := .free "int") rfl), He.free_ok X G (c.fact 45 (f := .free "tuple") rfl), He.free_ok X G (c.fact 46 (f := .free "bool") rfl), He.free_ok X G (c.fact 47 (f := .free "len") rfl), He.free_ok X G (c.fact 48 (f := .free "range") rfl), He.free_ok X G (c.fact 49 (f := .free "sum") rfl), He.free_ok X G (c.fact 50 (f := .free "abs") rfl), He.free_ok X G (c.fact 51 (f := .free "isinstance") rfl), He.free_ok X G (c.fact 52 (f := .free "all") rfl)⟩
end
theorem lawR {P : Program} {w : World} {K : PySem.W.Frag} {h base : Heap} {mg : Str → Option Value} (X : K.In h) (G : h.Ns mainGlobals mg) (c : He.SaysD faA fnA K) (ex : exA K = true) :
    Df P w K mg base "law" 8 ["script"] (spLaw K) := by
  have T := gsR X G c ex
  have d_fraction := ok_fraction (P := P) (w := w) (base := base) T (atR X G c 0 "fraction" (topS 7) rfl rfl)
  have d_plus := ok_plus d_fraction (atR X G c 1 "plus" (topS 8) rfl rfl)
  have d_minus := ok_minus d_fraction (atR X G c 2 "minus" (topS 9) rfl rfl)
  have d_times := ok_times d_fraction (atR X G c 3 "times" (topS 10) rfl rfl)
  have d_over := ok_over d_fraction (atR X G c 4 "over" (topS 11) rfl rfl)
  have d_is_above := ok_is_above (P := P) (w := w) (base := base)  (atR X G c 5 "is_above" (topS 12) rfl rfl)
  have d_is_whole := ok_is_whole (P := P) (w := w) (base := base) T (atR X G c 6 "is_whole" (topS 14) rfl rfl)
  have d_is_tuple_of := ok_is_tuple_of (P := P) (w := w) (base := base) T (atR X G c 7 "is_tuple_of" (topS 15) rfl rfl)
  have d_is_fraction := ok_is_fraction T d_is_whole d_is_tuple_of (atR X G c 8 "is_fraction" (topS 16) rfl rfl)
  have d_check_fraction := ok_check_fraction d_is_fraction (atR X G c 9 "check_fraction" (topS 17) rfl rfl)
  have d_check_fraction_from := ok_check_fraction_from d_is_fraction d_is_above (atR X G c 10 "check_fraction_from" (topS 18) rfl rfl)
  have d_check_told := ok_check_told T d_check_fraction d_check_fraction_from (atR X G c 11 "check_told" (topS 21) rfl rfl)
  have d_check_told_stretch := ok_check_told_stretch d_check_told d_check_fraction d_check_fraction_from (atR X G c 12 "check_told_stretch" (topS 22) rfl rfl)
  have d_is_sure := ok_is_sure d_is_above d_times d_minus (atR X G c 13 "is_sure" (topS 23) rfl rfl)
  have d_step_down := ok_step_down T d_is_above d_times d_minus d_plus d_over (atR X G c 15 "step_down" (topS 25) rfl rfl)
  have d_outside := ok_outside d_check_told_stretch d_is_sure d_step_down d_times d_minus d_plus d_over (atR X G c 14 "outside" (topS 24) rfl rfl)
  have k_outside := d_outside.kw4 (atR X G c 14 "outside" (topS 24) rfl rfl) (fun _ _ _ _ _ _ _ _ _ _ => rfl)
  have d__law_draw := ok_draw (P := P) (w := w) (base := base) (K := K) T (atR X G c 17 "_law_draw" (topS 28) rfl rfl)
  have d__law_well := ok_well (P := P) (w := w) (base := base) T (atR X G c 16 "_law_well" (topS 27) rfl rfl)
  have d__law_pick := ok_pick T d__law_draw (atR X G c 18 "_law_pick" (topS 29) rfl rfl)
  have d__law_common := ok_common (P := P) (w := w) (base := base) T (atR X G c 19 "_law_common" (topS 30) rfl rfl)
  have d__law_lowest := ok_lowest T d__law_common (atR X G c 20 "_law_lowest" (topS 31) rfl rfl)
  have d__law_plus := ok_law_plus (K := K) d__law_lowest (atR X G c 21 "_law_plus" (topS 32) rfl rfl)
  have d__law_minus := ok_law_minus (K := K) d__law_lowest (atR X G c 33 "_law_minus" (topS 44) rfl rfl)
  have d__law_times := ok_law_times (K := K) d__law_lowest (atR X G c 22 "_law_times" (topS 33) rfl rfl)
  have d__law_quotient := ok_law_quotient (K := K) d__law_lowest (atR X G c 37 "_law_quotient" (topS 48) rfl rfl)
  have d__law_up_to := ok_law_up_to (P := P) (w := w) (base := base) (K := K) (atR X G c 35 "_law_up_to" (topS 46) rfl rfl)
  have d__law_is_whole := ok_lwhole (P := P) (w := w) (base := base) T (atR X G c 23 "_law_is_whole" (topS 34) rfl rfl)
  have d__law_is_fraction := ok_lfrac T d__law_is_whole d__law_common (atR X G c 24 "_law_is_fraction" (topS 35) rfl rfl)
  have d__law_dot := ok_dot (P := P) (w := w) (base := base) T (atR X G c 25 "_law_dot" (topS 36) rfl rfl)
  have d__law_along := ok_along (P := P) (w := w) (base := base) T (atR X G c 28 "_law_along" (topS 39) rfl rfl)
  have d__law_mirror := ok_mirror T d__law_pick d__law_dot (atR X G c 27 "_law_mirror" (topS 38) rfl rfl)
  have d__law_framed := ok_framed T d__law_dot (atR X G c 26 "_law_framed" (topS 37) rfl rfl)
  have d__law_number := ok_number T d__law_draw d__law_pick d__law_lowest (atR X G c 29 "_law_number" (topS 40) rfl rfl)
  have d__law_plant := ok_plant T d__law_draw d__law_pick d__law_lowest d__law_mirror d__law_framed d__law_along (atR X G c 30 "_law_plant" (topS 41) rfl rfl)
  have d__law_at := ok_at T d__law_draw d__law_pick d__law_number (atR X G c 31 "_law_at" (topS 42) rfl rfl)
  have d__law_span := ok_span T d__law_draw d__law_at (atR X G c 32 "_law_span" (topS 43) rfl rfl)
  have d__law_shared := ok_shared T d__law_lowest d__law_plus d__law_minus d__law_times (atR X G c 34 "_law_shared" (topS 45) rfl rfl)
  have d__law_surely := ok_surely d__law_up_to d__law_times d__law_minus (atR X G c 36 "_law_surely" (topS 47) rfl rfl)
  have d__law_ends := ok_ends T d__law_draw d__law_pick d__law_lowest d__law_plus d__law_minus d__law_quotient d__law_up_to (atR X G c 38 "_law_ends" (topS 49) rfl rfl)
  have d__law_are_outside := ok_are T d__law_is_fraction d__law_plus d__law_minus d__law_times d__law_up_to (atR X G c 39 "_law_are_outside" (topS 50) rfl rfl)
  have d__law_is_due := ok_due d__law_surely d__law_are_outside (atR X G c 40 "_law_is_due" (topS 51) rfl rfl)
  have d__law_right := ok_right T d__law_draw d__law_pick d__law_lowest d__law_number d__law_plant d__law_shared d__law_ends d__law_span d__law_is_due d_outside k_outside (atR X G c 41 "_law_right" (topS 52) rfl rfl)
  exact ok_law T d__law_well d__law_right (atR X G c 42 "law" (topS 53) rfl rfl)
theorem factsR {w : World} {K : PySem.W.Frag} {h : Heap} {mg : Str → Option Value} {fa : Addr} (X : K.In h) (G : h.Ns mainGlobals mg) (hfa : mg ("law" : Str) = some (.ref fa)) (c : He.SaysX faA fnA [] tfA exA w h K) :
    LamX.LawAtS PySem.Challenge.rw_rootsabove_k19_whole_outside_roots w K CX0 8 63 "script" mg fa h := by
  have cd := c.t.d
  have aL := atR X G cd 42 "law" (topS 53) rfl rfl
  obtain ⟨f, fd, g, F⟩ := aL.ex
  rw [hfa] at g
  cases g
  obtain ⟨oc, od, kV, doc, pm, an, cdv, ct, osl, e, lk, _⟩ := id F.ex
  refine ⟨fd, tfA.map (He.cT K), spLaw K, fun p hp => ?_, fun p hp => ?_, fun p hp => ?_, fun s u => ?_, fun H a ns hl _ hT hS => ?_, fun base kb gb TB => ?_⟩
  · obtain ⟨d, hd, rfl⟩ := List.mem_map.mp hp
    exact c.empty d hd
  · obtain ⟨d, hd, rfl⟩ := List.mem_map.mp hp
    exact c.out d hd
  · obtain ⟨d, hd, rfl⟩ := List.mem_map.mp hp
    exact PySem.W.codeHd_of_K X (c.hd d hd)
  · subst e
    exact .of_eq rfl
  · exact ⟨a, ns, rfl, hS, fun _ => rfl⟩
  · obtain ⟨f', fd', g', kp, b, G', oc', od', osl', lk'⟩ := (lawR (P := PySem.Challenge.rw_rootsabove_k19_whole_outside_roots.prog) (w := w) (base := base) X G cd c.more).ex
    rw [hfa] at g'
    cases g'
    rw [lk] at lk'
    cases lk'
    exact G'
end V3
open PySem.W PySem PyProof.Rows PySem.Calls
theorem PySem.Challenge.cw_rootsabove_k19_whole_outside_roots_holds : PySem.Challenge.rw_rootsabove_k19_whole_outside_roots.Holds := by
  w_on; o_law
  refine HandSHeadRun.head_imp (r := V3.RR) (q := V3.qR) (H := V3.hkR) (ob := V3.obR) (M := 20000) (loose := V3.loose) (d := HandSHeadRun.topDef V3.RR.prog 53) (kwd := []) V3.obR_eq V3.runR (by kernel_rfl) (by kernel_rfl) (by kernel_rfl) (by rfl) (by first | assumption | decide +kernel) (by decide +kernel) ⟨rfl, rfl, rfl, rfl, rfl, by decide +kernel⟩ ?hw ?hc
  case hw => w_witness2
  case hc =>
    refine LamX.walk_ofTsE (l := PySem.Challenge.rw_rootsabove_k19_whole_outside_roots) (n := 63) (k := 8) (x := "script") (CX := fun _ => L2.CX0) rfl (by decide) (by kernel_rfl) ⟨rfl, by decide, by decide⟩ ?F (fun _ _ _ _ _ z => z)
    intro w mg fa h Y G hmg0
    obtain ⟨K, KX, c⟩ := Y
    have hlaw : mg ("law" : PySem.Str) = some (.ref fa) := by
      have e : (HandSHeadRun.topDef V3.RR.prog 53).name = ("law" : PySem.Str) := by kernel_rfl
      rw [← e]
      exact hmg0
    exact ⟨K, KX, V3.factsR KX G hlaw c⟩
