import PyProof.Rows.All
import Wide.All
import OpenK.AllK
import Wide.FinOn
import PySem.Challenge.RW_rootsabove_k23_whole_laced_or_not_and_ro
import HandS.ForMost
import HandS.Wide
import HandS.WideBits
import HandS.Gcd
import HandS.More
import HandS.IsInst
import HandS.Zip
import HandS.SortKw
import HandS.NoneIn
import HandS.Style
import KE.GoesEnum
import HandS.AnyAll
import HandS.Conv
import KE.KEqDeep
import HandS.Comp
import HandS.Words
import HandS.GenOver
import HandS.TupAny
import KE.KStateDown
import HandS.Defaults
import HandS.Head0
import HandS.Head1
import HandS.Head2
import HandS.Head3
import HandS.HeadEnd
import HandS.HeadHook1
import HandS.HeadHook2
import HandS.HeadHook3
import HandS.HeadHook4
import HandS.HeadWalk
import HandS.EndTab
import HandS.NestedK
set_option Elab.async false
set_option linter.all false
set_option maxRecDepth 100000
set_option maxHeartbeats 2100000
/-! Words of this verifier's own over the hand layer: data that lasts, a def by its name, enumerate of a tuple, lcm. -/
namespace V3
open PySem.Spec PySem L2 PyProof.Rows

/-! ### what stands, stands -/
theorem sameT {K : PySem.W.Frag} {H H' : Hp} {a : Addr} {xs : List V} (e : Same H H') (h : SqT K H a xs) : SqT K H' a xs := by
  (rcases h with (h | ⟨o, h⟩) | h)
  · exact .inl (.inl (e _ _ h))
  · (exact .inl (.inr ⟨o, e _ _ h⟩))
  · exact .inr h
theorem same_upd {o : HO} {p : Addr} {H : Hp} (new : H p = none) : Same H (upd H p o) := fun at_ it stood => by
  rw [upd_ne (ne_of_none stood new)]
  exact stood
mutual
theorem Dp.same {K : PySem.W.Frag} {H H' : Hp} (e : Same H H') : ∀ {v : V} {d : PyData}, Dp K H v d → Dp K H' v d
  | _, _, .non => .non
  | _, _, .bl b => .bl b
  | _, _, .int i => .int i
  | _, _, .str x => .str x
  | _, _, .lst h a => .lst (e.seq h) (DpAll.same e a)
  | _, _, .tup h a => .tup (sameT e h) (DpAll.same e a)
theorem DpAll.same {K : PySem.W.Frag} {H H' : Hp} (e : Same H H') : ∀ {vs : List V} {ds : List PyData}, DpAll K H vs ds → DpAll K H' vs ds
  | _, _, .nil => .nil
  | _, _, .cons a b => .cons (Dp.same e a) (DpAll.same e b)
end

/-! ### a def by its name -/
structure At (K : PySem.W.Frag) (mg : Str → Option Value) (x : Str) (st : Stmt) : Prop where
  ex : ∃ (f : Addr) (fd : FuncData), mg x = some (.ref f) ∧ Fun K x x st f fd
structure Df (P : Program) (w : World) (K : PySem.W.Frag) (mg : Str → Option Value) (base : Heap) (x : Str) (k : Nat) (ps : List Str) (sp : Sp) : Prop where
  ex : ∃ (f : Addr) (fd : FuncData), mg x = some (.ref f) ∧ PySem.W.keepIn K (.ref f) = true ∧ Binds K fd ps [] ∧ FnOk P w K mg base CX0 k f fd ps sp ∧ ∃ (oc : Value) (od : Option Addr) (osl : Array (Option Value)), K.lookup f = some ⟨oc, od, .func fd, osl⟩
def tFn (sp : Sp) (t : TA) : TE := fun σ H Q => t σ H fun vs H1 => sp vs H1 Q E0
section
variable {X : Cx}
theorem pe_fn {x : Str} {p pos : Pos} {e : Expr} {es : List Expr} {t : TA} {k k0 : Nat} {ps : List Str} {sp : Sp} (D : Df X.prog X.w X.K X.mg X.base x k ps sp) (hk : k ≤ k0) (hr : Room k0 X.A) (ha : PA X (e :: es) t)
    (hg : Gl X x := by rfl) (hdb : (x == ("__debug__" : Str)) = false := by decide) (he : starEach (e :: es) X.env = (false, eval e X.env) :: starEach es X.env := by rfl) (hpl : (backTo pos (starEach es X.env)).any (·.1) = false := by rfl) :
    PE X (.Call (.Name x p) (e :: es) [] pos) (tFn sp t) := by
  obtain ⟨f, fd, g, kp, b, G, _⟩ := D.ex
  have h := pe_call (pos := pos) (p := p) G (hr.mono hk) hg g kp b .nil pass0 ha hdb he hpl
  refine ⟨fun pins s σ H Q I q => h.run pins s σ H Q I ?_⟩
  show t σ H fun vs H1 => sp (vs ++ []) H1 Q E0
  have e0 : (fun vs H1 => sp (vs ++ []) H1 Q E0) = fun vs H1 => sp vs H1 Q E0 := by
    funext vs H1
    rw [List.append_nil]
  rw [e0]
  exact q
end
section
variable {mg : Str → Option Value} {base : Heap} {K : PySem.W.Frag} {P : Program} {w : World}
theorem Df.mk' {x : Str} {st : Stmt} {N ps : List Str} {k : Nat} {sp : Sp} (F : At K mg x st) (S : FnScope N ps (defScope st)) (len : ∀ vs H Q E, sp vs H Q E → vs.length = ps.length)
    (hb : ∀ (kV doc pm : Value) (an : Option Addr) (cdv ct : Value) (us : List Value), us.length = ps.length → bindArgs (PySem.W.fnOf x x (defArgs st) (defBody st) (defScope st) .none kV doc pm an cdv ct) ⟨us, []⟩ = pure (ps.zip us))
    (hbody : ∀ (f : Addr) (cdv : Value) (A : Around) (outer : List Env) (s : Shared) (H : Hp) (vs : List V) (Q : VK) (E : XK), Room k (A.deeper (envOfC x (defScope st) s.heap.objs.size f cdv)) → sp vs H Q E →
      ∃ t, PSs (cxOf CX0 P w K mg base N x (defScope st) f cdv A outer s H E).nox (defBody st) t ∧ t { nx := fun _ H' => Q .non H', rt := Q } (start N vs) H) : Df P w K mg base x (k + 1) ps sp := by
  obtain ⟨f, fd, g, F⟩ := F.ex
  refine ⟨f, fd, g, F.kp, F.binds hb, F.ok S len fun cdv A outer s H vs Q E hr h => hbody f cdv A outer s H vs Q E hr h, ?_⟩
  obtain ⟨oc, od, kV, doc, pm, an, cdv, ct, osl, e, lk, _⟩ := F.ex
  exact ⟨oc, od, osl, lk⟩
theorem Df.mono {x : Str} {ps : List Str} {j k : Nat} {sp : Sp} (D : Df P w K mg base x j ps sp) (h : j ≤ k) : Df P w K mg base x k ps sp := by
  obtain ⟨f, fd, g, kp, b, G, l⟩ := D.ex
  exact ⟨f, fd, g, kp, b, G.mono h, l⟩
theorem Df.imp {x : Str} {ps : List Str} {k : Nat} {sp sp' : Sp} (D : Df P w K mg base x k ps sp) (h : ∀ vs H Q E, sp' vs H Q E → sp vs H Q E) : Df P w K mg base x k ps sp' := by
  obtain ⟨f, fd, g, kp, b, G, l⟩ := D.ex
  exact ⟨f, fd, g, kp, b, G.imp h, l⟩
end

/-! ### two keywords, the last parameter first -/
structure DfK (P : Program) (w : World) (K : PySem.W.Frag) (mg : Str → Option Value) (base : Heap) (x : Str) (k : Nat) (p1 p2 : Str) (sp : Sp) : Prop where
  ex : ∃ (f : Addr) (fd : FuncData), mg x = some (.ref f) ∧ PySem.W.keepIn K (.ref f) = true ∧ KBinds K fd [p1, p2] [p2, p1] (fun us ws => us ++ us ++ us ++ ws.reverse) (fun us ws => us ++ us ++ us ++ ws.reverse) ∧ FnOk P w K mg base CX0 k f fd [p1, p2] sp
theorem Vals.rev : ∀ {zs : List V} {ws : List Value}, Vals zs ws → Vals zs.reverse ws.reverse := fun {zs ws} h => by
  induction h with
  | nil => exact .nil
  | cons a b ih =>
    (rw [List.reverse_cons, List.reverse_cons])
    exact ih.append (.cons a .nil)
theorem Df.kw {P : Program} {w : World} {K : PySem.W.Frag} {mg : Str → Option Value} {base : Heap} {x p1 p2 : Str} {st : Stmt} {k : Nat} {sp : Sp} (D : Df P w K mg base x k [p1, p2] sp) (F : At K mg x st)
    (hb : ∀ (kV doc pm : Value) (an : Option Addr) (cdv ct : Value) (u1 u2 : Value), bindArgs (PySem.W.fnOf x x (defArgs st) (defBody st) (defScope st) .none kV doc pm an cdv ct) ⟨[], [(p2, u2), (p1, u1)]⟩ = pure [(p1, u1), (p2, u2)]) : DfK P w K mg base x k p1 p2 sp := by
  obtain ⟨f, fd, g, kp, b, G, oc, od, osl, lk⟩ := D.ex
  obtain ⟨f', fd', g', F'⟩ := F.ex
  rw [g] at g'
  cases g'
  obtain ⟨oc', od', kV, doc, pm, an, cdv, ct, osl', e, lk', _⟩ := F'.ex
  rw [lk] at lk'
  cases lk'
  refine ⟨f, fd, g, kp, ⟨fun s us ws hk hl => ?_, fun r1 r2 => ((r1.append r1).append r1).append (Vals.rev r2)⟩, G⟩
  simp only [List.length_append, List.length_reverse, List.length_cons, List.length_nil] at hl
  have hu : us = [] := by
    cases us with
    | nil => rfl
    | cons a r =>
      simp only [List.length_cons] at hl
      omega
  subst hu
  match ws, hl with
  | [u2, u1], _ =>
    subst e
    exact .of_eq (hb kV doc pm an cdv ct u1 u2)
def tFnK (sp : Sp) (tk : TA) : TE := fun σ H Q => tk σ H fun zs H1 => sp zs.reverse H1 Q E0
theorem pe_fnK {X : Cx} {x p1 p2 : Str} {p pos : Pos} {kws : List Keyword} {tk : TA} {k k0 : Nat} {sp : Sp} (D : DfK X.prog X.w X.K X.mg X.base x k p1 p2 sp) (hk0 : k ≤ k0) (hr : Room k0 X.A) (hkw : PK X kws tk)
    (hg : Gl X x := by rfl) (hdb : (x == ("__debug__" : Str)) = false := by decide) (hall : (backToKw pos (keywordEach kws X.env)).all (·.1.isSome) = true := by rfl) (hks : (backToKw pos (keywordEach kws X.env)).filterMap (·.1) = [p2, p1] := by rfl)
    (plain : ((backTo pos (starEach [] X.env)).any (·.1) || (backToKw pos (keywordEach kws X.env)).any (·.1.isNone)) = false := by rfl) :
    PE X (.Call (.Name x p) [] kws pos) (tFnK sp tk) := by
  obtain ⟨f, fd, hm, hk, hb, F⟩ := D.ex
  (refine ⟨fun pins s σ H Q I h => ?_⟩)
  (refine wpAny_Call_Name_kw (ld_glob I hg hm ?_ hdb))
  refine PySem.W.callWith_KW0 (h₀ := X.base) I.ok.mod.kin hk hall (thn (hkw.run pos pins s σ H _ I h) fun ws s2 ⟨zs, H2, I2, rz, q2⟩ => ⟨I2.kIn, ?_⟩) plain
  rw [hks]
  exact run_fnk (us := []) (vs := []) F (hr.mono hk0) hb pass0 I2 .nil rz q2

/-! ### math.lcm -/
def rLcm : List V → Hp → VK → Prop := fun vs H Q => ∃ a b : Int, vs = [.int a, .int b] ∧ a.natAbs < 2 ^ 9000 ∧ b.natAbs < 2 ^ 9000 ∧ Q (.int ((Nat.lcm a.natAbs b.natAbs : Nat) : Int)) H
theorem lcm_log {a : Int} (h : a.natAbs < 2 ^ 9000) (c : Nat) (hc : c < 2 ^ 9000) : ¬ (max c a.natAbs).log2 / 30 + 1 > 450 := by
  have h1 : max c a.natAbs < 2 ^ 9000 := by omega
  have h2 := PySem.Flt.log2_lt_of (k := 9000) (by decide) h1
  omega
theorem cr_lcm {X : Cx} : CallR X (.builtin "math.lcm") rLcm := by
  (intro pins s σ H vs us Q I r h)
  obtain ⟨a, b, rfl, ha, hb, q⟩ := h
  (obtain ⟨t, u, rfl⟩ := Vals.int2 r)
  have hz : ((((Nat.lcm 1 a.natAbs).lcm b.natAbs : Nat) : Int)).natAbs.log2 < bitsLine := by
    rw [Nat.lcm_one_left]
    have h1 : a.natAbs.lcm b.natAbs ≤ a.natAbs * b.natAbs := by
      unfold Nat.lcm
      exact Nat.div_le_self _ _
    have h2 : a.natAbs * b.natAbs < 2 ^ 18000 := by
      rw [show (18000 : Nat) = 9000 + 9000 by rfl, Nat.pow_add]
      exact Nat.mul_lt_mul'' ha hb
    have h3 := PySem.Flt.log2_lt_of (k := 18000) (by decide) (Nat.lt_of_le_of_lt h1 h2)
    (have e : bitsLine = 134217728 := by decide)
    rw [Int.natAbs_natCast]
    omega
  have g := PySem.W.mg_run_lcm a t b u (lcm_log ha 1 (by exact Nat.one_lt_two_pow (by decide))) (lcm_log hb _ ha) hz
  have g2 := call_function_meets PySem.W.MGF.kind_lcm PySem.W.MGF.plain_lcm PySem.W.MGF.entry_lcm (PySem.W.MGF.args_lcm (.int a t) (.int b u)) g.meets (prog := X.prog) (w := X.w) (A := X.A) (E := X.xe) (s := s) (Q := EP X pins σ Q)
  refine g2 ⟨.int _, H, I.tok _, ⟨_, rfl⟩, ?_⟩
  rw [Nat.lcm_one_left]
  exact q
end V3
namespace V3
open PySem.Spec PySem L2 PyProof.Rows
theorem ifT {b : Bool} {A B : Prop} (h : b = true) (a : A) : if b = true then A else B := by
  rw [if_pos h]
  exact a
theorem ifF {b : Bool} {A B : Prop} (h : b = false) (a : B) : if b = true then A else B := by
  (rw [if_neg (by rw [h]; exact Bool.false_ne_true)])
  exact a
theorem if2 {b : Bool} {A B : Prop} (h1 : b = true → A) (h2 : b = false → B) : if b = true then A else B := by
  cases b with
  | true => exact iteT (h1 rfl)
  | false => exact iteF (h2 rfl)

/-! ### data -/
section
variable {K : PySem.W.Frag} {H : Hp}
theorem dpInt {v : V} {i : Int} (h : Dp K H v (.int i)) : v = .int i := by
  cases h
  rfl
theorem dpTup {v : V} {ds : List PyData} (h : Dp K H v (.tuple ds)) : ∃ p xs, v = .ref p ∧ SqT K H p xs ∧ DpAll K H xs ds := by
  cases h with
  | tup a b => exact ⟨_, _, rfl, a, b⟩
theorem dpLst {v : V} {ds : List PyData} (h : Dp K H v (.list ds)) : ∃ p xs, v = .ref p ∧ SqL K H p xs ∧ DpAll K H xs ds := by
  cases h with
  | lst a b => exact ⟨_, _, rfl, a, b⟩
theorem dpAll_len {vs : List V} {ds : List PyData} (h : DpAll K H vs ds) : vs.length = ds.length := by
  induction ds generalizing vs with
  | nil =>
    cases h
    rfl
  | cons d ds ih =>
    cases h with
    | cons a b => rw [List.length_cons, List.length_cons, ih b]
theorem dpAll_get {vs : List V} {ds : List PyData} {i : Nat} {d : PyData} (h : DpAll K H vs ds) (e : ds[i]? = some d) : ∃ v, vs[i]? = some v ∧ Dp K H v d := by
  induction ds generalizing vs i with
  | nil => simp at e
  | cons x ds ih =>
    cases h with
    | cons a b =>
      cases i with
      | zero =>
        have q : x = d := Option.some.inj e
        subst q
        exact ⟨_, rfl, a⟩
      | succ i =>
        have q := ih (i := i) b
        exact q e
theorem dpAll_getV {vs : List V} {ds : List PyData} {i : Nat} {v : V} (h : DpAll K H vs ds) (e : vs[i]? = some v) : ∃ d, ds[i]? = some d ∧ Dp K H v d := by
  induction ds generalizing vs i with
  | nil =>
    cases h
    simp at e
  | cons x ds ih =>
    cases h with
    | cons a b =>
      cases i with
      | zero =>
        have q := Option.some.inj e
        subst q
        exact ⟨_, rfl, a⟩
      | succ i =>
        have q := ih (i := i) b
        exact q e
theorem dpAll_app {vs ws : List V} {ds es : List PyData} (h : DpAll K H vs ds) (g : DpAll K H ws es) : DpAll K H (vs ++ ws) (ds ++ es) := by
  induction ds generalizing vs with
  | nil =>
    cases h
    exact g
  | cons x ds ih =>
    cases h with
    | cons a b => exact .cons a (ih b)
theorem dpAll_ints : ∀ (ns : List Int), DpAll K H (ns.map V.int) (ns.map PyData.int)
  | [] => .nil
  | n :: r => .cons (.int n) (dpAll_ints r)
theorem dpAll_intsV {vs : List V} {ns : List Int} (h : DpAll K H vs (ns.map PyData.int)) : vs = ns.map V.int := by
  induction ns generalizing vs with
  | nil =>
    cases h
    rfl
  | cons n r ih =>
    cases h with
    | cons a b =>
      rw [dpInt a, ih b]
      rfl
/-- a fraction, a row of them -/
def frD (q : Int × Int) : PyData := .tuple [.int q.1, .int q.2]
def rowD (qs : List (Int × Int)) : PyData := .tuple (qs.map frD)
theorem dpFr {v : V} {q : Int × Int} (h : Dp K H v (frD q)) : ∃ p, v = .ref p ∧ SqT K H p [.int q.1, .int q.2] := by
  obtain ⟨p, xs, rfl, hs, ha⟩ := dpTup h
  cases ha with
  | cons a b =>
    cases b with
    | cons c d =>
      cases d
      rw [dpInt a, dpInt c] at hs
      exact ⟨p, rfl, hs⟩
theorem mkFr {p : Addr} {a b : Int} (h : SqT K H p [.int a, .int b]) : Dp K H (.ref p) (frD (a, b)) := .tup h (.cons (.int a) (.cons (.int b) .nil))
theorem mkFrU {H' : Hp} {p : Addr} {q : Int × Int} (h : H' p = some (.tup [.int q.1, .int q.2])) : Dp K H' (.ref p) (frD q) := .tup (SqT.of h) (.cons (.int q.1) (.cons (.int q.2) .nil))
end

/-! ### enumerate of a tuple -/
set_option maxHeartbeats 4100000 in
theorem meets_enumerate_newB1 {v : Value} {o₀ : Obj} {H : Heap → Prop} (B : Begins v o₀ H) :
    Meets (Builtin.«enumerate.__new__» ⟨[.type "enumerate", v], []⟩) (fun _ R s => H s.heap ∧
      R (.ok (.ret (.ref (s.heap.push o₀).objs.size))) { s with heap := (s.heap.push o₀).push { cls := .type "enumerate", data := .fields #[.none, .bool false, .ref s.heap.objs.size, rawInt 0, .none, .none] } }) :=
  .of_wp fun prog w A R s h₀ => by
    obtain ⟨hp₀, g₀, d₀, tk₀, os₀⟩ := s; obtain ⟨h1₀, h₀⟩ := h₀
    have hsub₀ := sub_enumerate
    have q1₀ : ∀ {A' : Around} {E : Value → Shared → Prop} {Q : Value → Shared → Prop}, Q (.ref hp₀.objs.size) ⟨hp₀.push o₀, g₀, d₀, tk₀, os₀⟩ → wpAny (model prog w) A' (pyIter v) Q E ⟨hp₀, g₀, d₀, tk₀, os₀⟩ :=
      fun q₀ => B.iter prog w _ _ ⟨hp₀, g₀, d₀, tk₀, os₀⟩ _ h1₀ q₀
    wp_walk using q1₀
    refine wpAny_stack_any fun st₀ => wpAny_pure ?_
    split
    · rename_i c _ _ _ _ _
      (cases (c == Value.type "enumerate"))
      · wp_walk using q1₀
        exact ⟨_, rfl, h₀⟩
      · wp_walk using q1₀
        exact ⟨_, rfl, h₀⟩
    · wp_walk using q1₀
      exact ⟨_, rfl, h₀⟩
theorem call_enum_begins {prog : Program} {w : World} {A : Around} {E : Value → Shared → Prop} {s : Shared} {v : Value} {o₀ : Obj} {H : Heap → Prop} {Q : Value → Shared → Prop} (B : Begins v o₀ H) (h1₀ : H s.heap)
    (h₀ : ∀ h₀', IsEnum h₀' (s.heap.objs.size + 1) s.heap.objs.size 0 .none → h₀'.get? s.heap.objs.size = some o₀ → h₀'.objs.size = s.heap.objs.size + 2 →
      (∀ b₀ o₀, s.heap.get? b₀ = some o₀ → h₀'.get? b₀ = some o₀) → Q (.ref (s.heap.objs.size + 1)) { s with heap := h₀' }) :
    wpAny (model prog w) A (call (.type "enumerate") [v]) Q E s := by
  refine callType_new F.called_enumerate (by decide) (F.typeCall_enumerate_1 _) (F.newCall_enumerate_1 _) (fun thing => F.args_object_init_2 thing _) F.entry_enumerate_new
    (meets_enumerate_newB1 B) ⟨h1₀, ?_⟩
  have hz₀ : (s.heap.push o₀).objs.size = s.heap.objs.size + 1 := Heap.size_push ..
  show _ ∧ _
  rw [hz₀]
  have he₀ : IsEnum ((s.heap.push o₀).push { cls := .type "enumerate", data := .fields #[.none, .bool false, .ref s.heap.objs.size, rawInt 0, .none, .none] }) (s.heap.objs.size + 1) s.heap.objs.size 0 .none := by
    have := Heap.get?_push_size (s.heap.push o₀) (o := { cls := .type "enumerate", data := .fields #[.none, .bool false, .ref s.heap.objs.size, rawInt 0, .none, .none] }) rfl
    rw [hz₀] at this; exact this
  refine ⟨⟨_, he₀, rfl⟩, h₀ _ he₀ (Heap.get?_push_of_some _ (Heap.get?_push_size _ B.free)) (by rw [Heap.size_push, hz₀]) fun b₀ o₀ x => Heap.get?_push_of_some _ (Heap.get?_push_of_some _ x)⟩
/-- the tuple at a, each item in a new₀ pair -/
def IteT (K : PySem.W.Frag) (a : Addr) : It :=
  ⟨fun i H => ∃ (xs : List V) (x : V), SqT K H a xs ∧ xs[i]? = some x, fun i H v H' => ∃ T x, v = .ref T ∧ H T = none ∧ H' = upd H T (.tup [.int (i : Nat), x]) ∧ ∀ xs, SqT K H a xs → xs[i]? = some x, fun i H => ∃ xs : List V, SqT K H a xs ∧ xs.length ≤ i⟩
theorem turn_enumT {P : Program} {w : World} {K : PySem.W.Frag} {elts : List Expr} {kk : Nat} {tpos : Pos} (a e it : Addr) :
    Turn P w K (.Tuple elts kk tpos) (IteT K a) [e, it] e (fun i h₀ => (∃ old₀, IsEnum h₀ e it ((i : Nat) : Int) old₀) ∧ h₀.IsTupleIter it a i ∧ e ≠ it ∧ a ≠ it ∧ a ≠ e) where
  mem := by simp
  obj := fun i h₀ st₀ b₀ hb₀ => by
    obtain ⟨⟨old₀, he₀⟩, ⟨o₀, ho₀, hc₀, hd₀⟩, _⟩ := st₀
    have e₀' : b₀ = e ∨ b₀ = it := by simpa using hb₀
    rcases e₀' with z₀ | z₀
    · rw [z₀]; exact ⟨_, he₀, fun v q₀ => nomatch q₀⟩
    · rw [z₀]; exact ⟨o₀, ho₀, fun v q₀ => by rw [hd₀] at q₀; cases q₀⟩
  keep := fun i h₀ h₀' st₀ k => let ⟨⟨old₀, he₀⟩, hi₀, hne₀⟩ := st₀; ⟨⟨old₀, k e (by simp) _ he₀⟩, hi₀.at fun o₀ q₀ => k it (by simp) o₀ q₀, hne₀⟩
  item := by
    intro X hP hw hK hc₀ i pins₀ s σ₀ H E I hf₀ st₀ hg₀
    subst hP hw hK
    obtain ⟨⟨old₀, he₀⟩, hit₀, hne₀, hai₀, hae₀⟩ := st₀
    obtain ⟨xs, x, hq₀, hx₀⟩ := hg₀
    obtain ⟨its₀, rv₀, p₀, hz₀⟩ := I.tuple hq₀
    obtain ⟨u₀, hu₀, ru₀⟩ := rv₀.get hx₀
    have hel₀ : e < s.heap.objs.size := Heap.lt_size he₀
    have hil₀ : it < s.heap.objs.size := by obtain ⟨_, q₀, _⟩ := hit₀; exact Heap.lt_size q₀
    have hlen₀ : i < its₀.toArray.size := by
      have h1₀ : i < its₀.length := (List.getElem?_eq_some_iff.mp hu₀).1
      simpa using h1₀
    have ht₀ : s.heap.IsTuple a its₀.toArray := by
      obtain ⟨ob, h1₀, h2, n, h3⟩ := p₀
      exact ⟨ob, h1₀, h2, n, h3⟩
    have D : Draws X.prog X.w X.A.in1 it [it, a] its₀.toArray.size (fun i v => its₀.toArray[i]? = some v) (fun i h₀ => h₀.IsTupleIter it a i ∧ h₀.IsTuple a its₀.toArray) := Draws.tuple (by exact I.ok.hd hc₀) it a hai₀ its₀.toArray
    refine wpAny_pyNext_enum_itemD D he₀ ⟨hit₀, ht₀⟩ hlen₀ hne₀ (by simp; exact ⟨hne₀, fun z₀ => hae₀ z₀.symm⟩) fun x₀' h₀' tk₀ hPx₀ ho₀ hst₀' hT₀ hsz₀ hk₀ => ?_
    have ex₀ : x₀' = u₀ := by
      have q₀ : its₀.toArray[i]? = some u₀ := by simpa using hu₀
      have hPx' : its₀.toArray[i]? = some x₀' := hPx₀
      rw [q₀] at hPx'
      exact (Option.some.inj hPx').symm
    subst ex₀
    refine ⟨_, rfl, wpAny_letOwnedTupleGo_enum (s := { s with heap := h₀', toks := tk₀ + 1 }) ho₀ fun h₀' he₀' sb₀ => ?_⟩
    have hT2₀ : h₀'.get? s.heap.objs.size = some { cls := .type "tuple", data := .seq #[.int i tk₀, x₀'] } := (sb₀.2 _ (Nat.ne_of_gt hel₀)).trans hT₀
    have new₀ : ObjOk X.prog X.w (upd H s.heap.objs.size (.tup [.int (i : Nat), x])) h₀' s.heap.objs.size (.tup [.int (i : Nat), x]) :=
      ⟨by show 2 ≤ sizeLine; decide, [.int i tk₀, x₀'], .cons ⟨_, rfl⟩ (.cons ru₀ .nil), ⟨_, hT2₀, rfl, _, rfl⟩⟩
    have I1₀ : Inv X pins₀ σ₀ (upd H s.heap.objs.size (.tup [.int (i : Nat), x])) { s with heap := h₀', toks := tk₀ + 1 } :=
      I.turnedNew (ch := [e, it]) (fun b₀ ob hb₀ q₀ => (sb₀.2 b₀ (fun z₀ => hb₀ (by simp [z₀]))).trans (hk₀ b₀ ob (fun z₀ => hb₀ (by simp [z₀])) (fun z₀ => hb₀ (by simp [z₀])) q₀)) hf₀ (Nat.le_refl _) new₀
    refine ⟨.ref s.heap.objs.size, _, I1₀, rfl, ⟨_, x, rfl, I.hok.fresh (Nat.le_refl _), rfl, fun ys hy₀ => by rw [I.tuple_inj hy₀ hq₀]; exact hx₀⟩, ⟨⟨x₀', ?_⟩, hst₀'.1.at fun o₀ q₀ => (sb₀.2 it (Ne.symm hne₀)).trans q₀, hne₀, hai₀, hae₀⟩, fun b₀ hb₀ => ?_⟩
    · have e1₀ : ((i + 1 : Nat) : Int) = (i : Int) + 1 := by omega
      rw [e1₀]; exact he₀'
    · have hb₀' : b₀ < s.heap.objs.size := by
        have e₀' : b₀ = e ∨ b₀ = it := by simpa using hb₀
        rcases e₀' with z₀ | z₀
        · rw [z₀]; exact hel₀
        · rw [z₀]; exact hil₀
      rw [upd_ne (Nat.ne_of_lt hb₀')]
      exact (hf₀ b₀ hb₀).1
  done := by
    intro X hP hw hK hc₀ i pins₀ s σ₀ H E I hf₀ st₀ hg₀
    subst hP hw hK
    obtain ⟨⟨old₀, he₀⟩, hit₀, hne₀, hai₀, hae₀⟩ := st₀
    obtain ⟨xs, hq₀, hx₀⟩ := hg₀
    obtain ⟨its₀, rv₀, p₀, hz₀⟩ := I.tuple hq₀
    obtain ⟨f0₀, f1₀, f2₀, f3₀, f4₀, f5₀⟩ := hf₀ it (by simp)
    have hl₀ := rv₀.length
    have ht₀ : s.heap.IsTuple a its₀.toArray := by
      obtain ⟨ob, h1₀, h2, n, h3⟩ := p₀
      exact ⟨ob, h1₀, h2, n, h3⟩
    have hT₀ : s.TypeIs (.ref e) "enumerate" := ⟨_, he₀, rfl⟩
    unfold pyNext
    refine wpAny_bind (wpAny_attempt (wpAny_callSpecial?_slot (name := Str.ofString "__next__") hT₀ F.slot_enumerate_next
      (wpAny_call_entry F.slot_enumerate_next hT₀ F.entry_enumerate_next ?_ (F.args_enumerate_next_1 _))))
    (show wpAny _ _ (field (.ref e) 2 >>= _) _ _ _)
    refine wpAny_bind (wpAny_field he₀ rfl (x := .ref it) rfl ?_)
    refine wpAny_bind (wpAny_nextOf_tuple_end (by exact I.ok.hd hc₀) hit₀ ht₀ (by simp; omega) fun h₀' x he₀' hx₀' => ?_)
    obtain ⟨o₀, ho₀, hc'⟩ := hx₀'
    refine wpAny_bind (wpAny_isInstance (T := "StopIteration") (b := true) ⟨o₀, ho₀, hc'⟩ isSubtype_stop ?_)
    exact wpAny_pure ⟨rfl, I.turned (t' := s.toks) (fun b₀ o₀ hb₀ q₀ => he₀' b₀ o₀ hb₀ q₀) f0₀ f1₀ f3₀ f4₀ f5₀⟩
  self := fun A i s Q E st₀ h₀ => let ⟨⟨_, he₀⟩, _⟩ := st₀; wpAny_pyIter_enum he₀ h₀
def iEnumT (K : PySem.W.Frag) (ta : TA) : TI := fun σ₀ H R => ta σ₀ H fun vs H1 => ∃ a xs, vs = [.ref a] ∧ SqT K H1 a xs ∧ R (IteT K a) H1
theorem pi_enumT {X : Cx} {e : Expr} {ta : TA} {p₀ pos tpos : Pos} {elts : List Expr} {kk : Nat} (hg₀ : Gl X "enumerate") (hm : X.mg "enumerate" = none) (ha : PA X [e] ta) (hs : starEach [e] X.env = [(false, eval e X.env)] := by rfl) :
    PI X (.Tuple elts kk tpos) (.Call (.Name "enumerate" p₀) [e] [] pos) (iEnumT X.K ta) := by
  refine ⟨fun pins₀ s σ₀ H R I h₀ => ?_⟩
  refine Call_ (ld_blt I hg₀ hm boot_enumerate (PyProof.Rows.callWith_type1 (thn (ha.run pos pins₀ s σ₀ H _ I h₀) fun us₀ s1 ⟨vs, H1, I1₀, r1, q1₀⟩ => ?_) hs rfl))
  obtain ⟨a, xs, ex₀, hq₀, q₀⟩ := q1₀
  subst ex₀
  cases r1 with
  | cons r₀ rr₀ =>
    cases rr₀
    cases r₀
    obtain ⟨its₀, rv₀, p₀', hz₀⟩ := I1₀.tuple hq₀
    have ht₀ : s1.heap.IsTuple a its₀.toArray := by
      obtain ⟨ob, h1₀, h2, n, h3⟩ := p₀'
      exact ⟨ob, h1₀, h2, n, h3⟩
    have hal₀ : a < s1.heap.objs.size := by obtain ⟨_, q₀, _⟩ := ht₀; exact Heap.lt_size q₀
    refine call_enum_begins (begins_tuple a its₀.toArray) ht₀ fun h₀' he₀ hit₀ hsz₀ hk₀ => wpAny_pyIter_enum he₀ ?_
    have I2₀ : Inv X pins₀ σ₀ H1 { s1 with heap := h₀' } := I1₀.kept (t' := s1.toks) hk₀
    refine ⟨s1.heap.objs.size + 1, [s1.heap.objs.size + 1, s1.heap.objs.size], _, _, H1, rfl, I2₀, turn_enumT a (s1.heap.objs.size + 1) s1.heap.objs.size, ⟨⟨.none, he₀⟩, ⟨_, hit₀, rfl, rfl⟩, Nat.succ_ne_self _, Nat.ne_of_lt hal₀, Nat.ne_of_lt (Nat.lt_succ_of_lt hal₀)⟩, fun b₀ hb₀ => ?_, q₀⟩
    have e₀' : b₀ = s1.heap.objs.size + 1 ∨ b₀ = s1.heap.objs.size := by simpa using hb₀
    have hle₀ : s1.heap.objs.size ≤ b₀ := by
      rcases e₀' with z₀ | z₀
      · rw [z₀]; exact Nat.le_add_right _ _
      · rw [z₀]; exact Nat.le_refl _
    exact I1₀.fpOk hle₀ (I1₀.hok.fresh hle₀)
/-- the loop over enumerate(t) -/
theorem for_enumT {K : PySem.W.Frag} {a : Addr} {xs : List V} {g : TG} {tb : TS} {D : Ends} {σ : L2.St} {H : Hp} (Pv : Nat → L2.St → Hp → Prop) (h0 : Pv 0 σ H) (hl : ∀ i σ H, i ≤ xs.length → Pv i σ H → SqT K H a xs)
    (hs : ∀ (i : Nat) (x : V) (T : Addr) (σ : L2.St) (H : Hp), xs[i]? = some x → Pv i σ H → H T = none → g (.ref T) σ (upd H T (.tup [.int (i : Nat), x])) fun σ2 H2 => tb { D with nx := Pv (i + 1), bk := D.nx, ct := Pv (i + 1) } σ2 H2)
    (hd : ∀ σ H, Pv xs.length σ H → D.nx σ H) :
    ∃ W : Nat → Nat → L2.St → Hp → Prop, (∃ m, W 0 m σ H) ∧ ∀ i m σ H, W i m σ H → ((IteT K a).stop i H ∧ D.nx σ H) ∨ ((IteT K a).go i H ∧ ∃ Nx : L2.St → Hp → Prop, (∀ σ' H', Nx σ' H' → ∃ m', m' < m ∧ W (i + 1) m' σ' H') ∧ ∀ x H', (IteT K a).yld i H x H' → g x σ H' fun σ2 H2 => tb { D with nx := Nx, bk := D.nx, ct := Nx } σ2 H2) := by
  refine ⟨fun i m σ H => i + m = xs.length ∧ Pv i σ H, ⟨xs.length, by omega, h0⟩, ?_⟩
  rintro i m σ H ⟨em, hp⟩
  have hsq := hl i σ H (by omega) hp
  by_cases hi : i < xs.length
  · refine .inr ⟨⟨xs, xs[i], hsq, List.getElem?_eq_getElem hi⟩, Pv (i + 1), fun σ' H' q => ⟨m - 1, by omega, by omega, q⟩, ?_⟩
    rintro x H' ⟨T, y, rfl, hn, rfl, hy⟩
    exact hs i y T σ H (hy xs hsq) hp hn
  · (have e : i = xs.length := by omega)
    subst e
    exact .inl ⟨⟨xs, hsq, Nat.le_refl _⟩, hd σ H hp⟩
end V3
namespace V3
open PySem.Spec PySem L2 PyProof.Rows
theorem yesIf {σ : L2.St} {H : Hp} {A B : Hp → Prop} (h : A H) : tYes σ H (fun b H3 => if b = true then A H3 else B H3) := by
  show if true = true then A H else B H
  rw [if_pos rfl]
  exact h
end V3
set_option maxHeartbeats 4100000
/-! max, min of (x for x in range(..) if a[x] op b[y]). -/
namespace V3
open PySem.Spec PySem L2 PyProof.Rows GxR

/-- what is wanted of the tests of a generator expression over a range from lo₀ on: of place i they say pz₀ i, and change nothing -/
def TestR (X : Cx) (P : Addr) (scope : Scope) (x : Str) (ifs : List Expr) (tz : L2.St → Hp → Int → Nat → (Nat → Bool) → Prop) : Prop :=
  ∀ (pins₀ : List (Addr × Obj)) (s : Shared) (σ₀ : L2.St) (H : Hp) (lo₀ : Int) (n : Nat) (pz₀ : Nat → Bool), Inv X pins₀ σ₀ H s → tz σ₀ H lo₀ n pz₀ →
    (∃ ps₀ : Array Value, s.heap.get? P = some { cls := .none, data := .fields ps₀ }) →
    ∀ (cenv₀ : Env) (A' : Around) (E' : Value → Shared → Prop) (i : Nat) (t₀ : Tok) (s₂₀ : Shared) (m₂₀ : Str → Option Value), i < n → cenv₀.scope = scope → cenv₀.cells = cloFrom X.env.cells scope.names [] → s₂₀.heap.Ns cenv₀.locals m₂₀ →
      m₂₀ x = some (.int (lo₀ + (i : Nat) * 1) t₀) → (∀ b o, b ≠ P → s.heap.get? b = some o → s₂₀.heap.get? b = some o) →
      wpAny (model X.prog X.w) A' (forIn ifs true fun c r => if r = true then do let ok ← isTrue c cenv₀ (eval c cenv₀); pure (ForInStep.yield ok) else pure (ForInStep.yield r)) (fun ok s₃ => ok = pz₀ i ∧ Keeps s₂₀ s₃) E' s₂₀
/-- the generator g₀, ready to be walked in the state s5₀; H1₀: what was held before -/
def ReadyR (X : Cx) (pins₀ : List (Addr × Obj)) (σ₀ : L2.St) (H1₀ : Hp) (P : Addr) (lo₀ : Int) (n : Nat) (pz₀ : Nat → Bool) (g₀ : Addr) (s5₀ : Shared) : Prop :=
  ∃ (fp₀ wr₀ : List Addr) (G : Array GenState → Array GenState → Prop) (F : Nat → Value → Prop) (St₀ : Nat → Shared → Prop),
    WalksS X.prog X.w X.A.in1 g₀ fp₀ wr₀ G (passing pz₀ n 0).length F St₀ ∧ St₀ 0 s5₀ ∧ (∀ b ∈ fp₀, b < s5₀.heap.objs.size) ∧ (∀ j v₀, F j v₀ → ∃ i, (passing pz₀ n 0)[j]? = some i ∧ ∃ t₀, v₀ = .int (lo₀ + (i : Nat) * 1) t₀) ∧
    ∀ s', Moved wr₀ G s5₀ s' → ∃ H2₀, Tabbed P H1₀ H2₀ ∧ Inv X pins₀ σ₀ H2₀ s'
section
variable {X : Cx} {pins₀ : List (Addr × Obj)} {σ₀ : L2.St} {H : Hp} {s : Shared}
theorem range_small {a b : Int} (h1 : -(2 ^ 62) ≤ a) (h2 : a < 2 ^ 62) (h3₀ : -(2 ^ 62) ≤ b) (h4 : b < 2 ^ 62) : Builtin.Range.small a b 1 = true := by
  unfold Builtin.Range.small Builtin.Range.rangeFitsLong
  rw [rangeSize_nat]
  simp only [Bool.and_eq_true, Bool.or_eq_true, decide_eq_true_eq, beq_iff_eq]
  refine ⟨⟨⟨⟨?_, ?_⟩, ?_⟩, ?_⟩, ?_⟩
  · omega
  · omega
  · omega
  · omega
  · right
    rw [if_pos (by decide)]
    (simp only [Bool.and_eq_true, decide_eq_true_eq])
    omega
theorem gen_range {c P : Addr} {iter : Expr} {x : Str} {px pe gpos : Pos} {ifs : List Expr} {scope : Scope} {te : L2.St → Hp → (Int → Int → Hp → Prop) → Prop} {tz : L2.St → Hp → Int → Nat → (Nat → Bool) → Prop} {k : Nat} {Q' : Value → Shared → Prop} {R : Int → Nat → (Nat → Bool) → Hp → Prop}
    (hr₀ : Room k X.A) (TB₀ : TabB X.base X.mg c P) (hcode₀ : X.env.code = .ref c) (S : GenS X.env scope x) (hi₀ : PRg X iter te) (ht₀ : TestR X P scope x ifs tz) (hd₀ : (x == ("__debug__" : Str)) = false)
    (hs₀ : ∀ v₀, genFold iter X.env v₀ = pure v₀) (I₀ : Inv X pins₀ σ₀ H s)
    (h : te σ₀ H fun a b H1₀ => -(2 ^ 62) ≤ a ∧ a < 2 ^ 62 ∧ -(2 ^ 62) ≤ b ∧ b < 2 ^ 62 ∧ TabG H1₀ P ∧ ∃ pz₀, tz σ₀ H1₀ a (b - a).toNat pz₀ ∧ R a (b - a).toNat pz₀ H1₀)
    (hQ₀ : ∀ lo₀ n pz₀ H1₀ g₀ s5₀, R lo₀ n pz₀ H1₀ → ReadyR X pins₀ σ₀ H1₀ P lo₀ n pz₀ g₀ s5₀ → Q' (.ref g₀) s5₀) :
    wpAny (model X.prog X.w) X.A (eval (.GeneratorExp (.Name x pe) [⟨.Name x px, iter, ifs, 0⟩] scope gpos) X.env) Q' X.xe s := by
  refine wpAny_GeneratorExp_walksQ hr₀.hd S.co (closure_ok S.free) S.cell S.dot S.loc S.kind (by have := hr₀.dp; omega) ?_ hs₀
  refine thn (hi₀ pins₀ s σ₀ H _ I₀ h) fun xv₀ s1₀ ⟨r, a, b, t₀, u₀, v₀, H1₀, ex₀, hrng₀, I1₀, q1₀⟩ => ?_
  subst ex₀
  obtain ⟨b1₀, b2₀, b3₀, b4₀, ⟨ps₀, hP₀, htr₀⟩, pz₀, hz₀, q1₀⟩ := q1₀
  refine wpAny_pyIter_range hrng₀ (range_small b1₀ b2₀ b3₀ b4₀) ?_
  generalize ho₀ : ({ cls := .type "range_iterator", data := .fields #[rawInt a, rawInt (Builtin.Range.rangeSize a b 1), rawInt 1] } : Obj) = o
  have hfo₀ : o.isFreed = false := by rw [← ho₀]; rfl
  have hPs₀ : s1₀.heap.get? P = some { cls := .none, data := .fields ps₀ } := I1₀.hok P _ hP₀
  have hPlt₀ : P < s1₀.heap.objs.size := Heap.lt_size hPs₀
  have hP2₀ : (s1₀.heap.push o).get? P = some { cls := .none, data := .fields ps₀ } := Heap.get?_push_of_some _ hPs₀
  have cd₀ : PySem.W.CodeHd (s1₀.heap.push o) c P := TB₀.code.keeps fun b u₀ e => Heap.get?_push_of_some _ (I1₀.bk b u₀ e)
  have lim2₀ : (s1₀.heap.push o).NoLimit := I1₀.nolimit.push o
  have hst₀ : IsRangeIter (s1₀.heap.push o) s1₀.heap.objs.size (a + ((0 : Nat) : Int) * 1) (((b - a).toNat : Int) - ((0 : Nat) : Int)) 1 := by
    show (s1₀.heap.push o).get? s1₀.heap.objs.size = _
    rw [← ho₀, rangeSize_nat]
    simpa using Heap.get?_push_size s1₀.heap (o := { cls := .type "range_iterator", data := .fields #[rawInt a, rawInt ((b - a).toNat : Int), rawInt 1] }) rfl
  have cont₀ : ∀ (code : Value) (h3₀ : Heap) (tk₀ : Nat) (ps₀' : Array Value), Heap.ExtBut P (s1₀.heap.push o) h3₀ → (s1₀.heap.push o).objs.size ≤ h3₀.objs.size → h3₀.get? P = some { cls := .none, data := .fields ps₀' } → (∃ more₀, ps₀' = ps₀ ++ more₀) → TriplesOk ps₀'.toList →
      wpAny (model X.prog X.w) X.A (builtinsFor X.env.globals X.env.builtins) (fun bi sB =>
        ∃ Ia fp₀ wr₀ n₀ Pf St₀ pz₀ F, Value.ref s1₀.heap.objs.size = .ref Ia ∧ (∀ A' : Around, A'.handled = none → Walks X.prog X.w A' Ia fp₀ wr₀ n₀ Pf St₀) ∧ St₀ 0 sB.heap ∧ (∀ b ∈ fp₀, b < sB.heap.objs.size) ∧ sB.heap.NoLimit ∧ cStatics ∉ wr₀ ∧
          (∀ href₀ : Heap, (∀ b o, sB.heap.get? b = some o → href₀.get? b = some o) →
            QuietGen X.prog X.w (genEnv scope (cloFrom X.env.cells scope.names []) sB.heap.objs.size code bi X.env) x ifs (.Name x pe) (List.range sB.heap.objs.size) wr₀ Pf pz₀ F href₀) ∧
          (∀ a h₅ tk₀ gs, gs.bare = true → sB.heap.objs.size < a → h₅.objs.size = a + 1 → (∀ b o, sB.heap.get? b = some o → h₅.get? b = some o) →
            WalksS X.prog X.w X.A.in4 a (a :: sB.heap.objs.size :: List.range sB.heap.objs.size) (sB.heap.objs.size :: wr₀) (GenOnlyQ sB.gens.size) (passing pz₀ n₀ 0).length
              (fun j y => ∃ i, (passing pz₀ n₀ 0)[j]? = some i ∧ F i y) (GenAt X.prog X.w X.A.in4 a sB.gens.size sB.heap.objs.size (List.range sB.heap.objs.size) wr₀ pz₀ n₀ F) →
            GenAt X.prog X.w X.A.in4 a sB.gens.size sB.heap.objs.size (List.range sB.heap.objs.size) wr₀ pz₀ n₀ F 0 { sB with gens := sB.gens.push gs, toks := tk₀, heap := h₅ } →
            Q' (.ref a) { sB with gens := sB.gens.push gs, toks := tk₀, heap := h₅ })) X.xe { s1₀ with heap := h3₀, toks := tk₀ } := by
    intro code h3₀ tk₀ ps₀' hx₀ hsz₀ hP3₀ hmore₀ ht3₀
    obtain ⟨bm₀, ob₀, e1₀, e2₀, e3₀, e4₀, e5₀, e6₀, e7₀, e8₀⟩ := TB₀.bm
    have hcP₀ : cStatics ≠ P := fun e => by
      obtain ⟨_, hns, _⟩ := I1₀.nolimit
      obtain ⟨o', es₀, ep₀, ho₀, hd₀, _⟩ := hns
      rw [e, hPs₀] at ho₀
      cases ho₀
      cases hd₀
    have hcl₀ : cStatics < s1₀.heap.objs.size := let ⟨_, hns, _⟩ := I1₀.nolimit; hns.lt
    have sz2₀ : (s1₀.heap.push o).objs.size = s1₀.heap.objs.size + 1 := Heap.size_push ..
    have keep3₀ : ∀ b u₀, b ≠ P → s1₀.heap.get? b = some u₀ → h3₀.get? b = some u₀ := fun b u₀ hb₀ e => hx₀ b u₀ hb₀ (Heap.get?_push_of_some _ e)
    refine wpAny_builtinsFor (m := X.mg) (by rw [I1₀.ok.glob]; exact ((I1₀.mod.glob.keeps I1₀.bk).push o).extBut hx₀ TB₀.gP) e1₀ e2₀ (keep3₀ _ _ e4₀ (I1₀.bk _ _ e5₀)) e6₀ e7₀ e8₀ ?_
    refine ⟨s1₀.heap.objs.size, [s1₀.heap.objs.size], [s1₀.heap.objs.size], (b - a).toNat, fun i v₀ => i < (b - a).toNat ∧ ∃ t₀, v₀ = .int (a + (i : Nat) * 1) t₀, _, pz₀, (fun i y => ∃ t₀, y = .int (a + (i : Nat) * 1) t₀), rfl, (fun A' hA => (Walks.range hA s1₀.heap.objs.size a 1 (b - a).toNat).bound), ?_, ?_, lim2₀.extBut hx₀ hcP₀, ?_, ?_, ?_⟩
    · exact hx₀ _ _ (Nat.ne_of_gt hPlt₀) hst₀
    · intro b hb₀
      rcases List.mem_cons.mp hb₀ with z | z
      · rw [z]
        show s1₀.heap.objs.size < h3₀.objs.size
        omega
      · cases z
    · intro z
      (rcases List.mem_cons.mp z with z | z)
      · exact Nat.ne_of_lt hcl₀ z
      · cases z
    · intro href₀ hhref₀
      have kp₀ : ∀ (s₂₀ : Shared), (∀ b ∈ List.range h3₀.objs.size, b ∉ [s1₀.heap.objs.size] → ∀ o, href₀.get? b = some o → s₂₀.heap.get? b = some o) → ∀ b o, b ≠ P → s1₀.heap.get? b = some o → s₂₀.heap.get? b = some o := fun s₂₀ hk₀ b o hb₀ e => by
        have e3₀ := keep3₀ b o hb₀ e
        refine hk₀ b (List.mem_range.mpr (Heap.lt_size e3₀)) (fun z => ?_) o (hhref₀ b o e3₀)
        (rcases List.mem_cons.mp z with z | z)
        · have := Heap.lt_size e
          rw [z] at this
          exact Nat.lt_irrefl _ this
        · cases z
      refine ⟨fun A' E' i v₀ s₂₀ m₂₀ hA hPv₀ hn₀ hm₀ hk₀ => ?_, fun A' E' i v₀ s₂₀ m₂₀ hA hPv₀ hp₀ hn₀ hm₀ hk₀ => ?_⟩
      · obtain ⟨hi', t', rfl⟩ := hPv₀
        exact ht₀ pins₀ s1₀ σ₀ H1₀ a (b - a).toNat pz₀ I1₀ hz₀ ⟨ps₀, hPs₀⟩ _ A' E' i t' s₂₀ m₂₀ hi' rfl rfl hn₀ hm₀ (kp₀ s₂₀ hk₀)
      · obtain ⟨hi', t', rfl⟩ := hPv₀
        refine wpAny_Name (wpAny_loadName_local (by exact S.kind) (by exact S.loc) hn₀ hm₀ ?_) hd₀
        exact ⟨⟨t', rfl⟩, keeps_refl _⟩
    · intro g₀ h5₀ tk5₀ gs hgb₀ hag₀ hsz5₀ hk5₀ W5₀ hat₀
      refine hQ₀ a (b - a).toNat pz₀ H1₀ g₀ _ q1₀ ⟨_, _, _, _, _, W5₀.in4_1, hat₀, ?_, ?_, fun s' hm₀ => ?_⟩
      · intro b hb₀
        show b < h5₀.objs.size
        rw [hsz5₀]
        have hag₀' : h3₀.objs.size < g₀ := hag₀
        rcases List.mem_cons.mp hb₀ with z | z
        · rw [z]
          exact Nat.lt_succ_self g₀
        · (rcases List.mem_cons.mp z with z | z)
          · rw [z]
            exact Nat.lt_succ_of_lt hag₀'
          · exact Nat.lt_succ_of_lt (Nat.lt_trans (List.mem_range.mp z) hag₀')
      · intro j y hy
        exact hy
      · obtain ⟨more₀, em₀⟩ := hmore₀
        have nwr₀ : ∀ b u₀, s1₀.heap.get? b = some u₀ → b ∉ h3₀.objs.size :: [s1₀.heap.objs.size] := fun b u₀ e hb₀ => by
          have hl₀ := Heap.lt_size e
          rcases List.mem_cons.mp hb₀ with z | z
          · rw [z] at hl₀
            have h9 : (h3₀.objs.size : Nat) < s1₀.heap.objs.size := hl₀
            omega
          · (rcases List.mem_cons.mp z with z | z)
            · rw [z] at hl₀
              exact Nat.lt_irrefl _ hl₀
            · cases z
        have J₀ := inv_tab (more := more₀) (h' := s'.heap) (g' := s'.gens) (d' := s'.drawn) (t' := s'.toks) I1₀ hP₀ (fun b u₀ hb₀ e => hm₀.heap b u₀ (nwr₀ b u₀ e) (hk5₀ b u₀ (keep3₀ b u₀ hb₀ e)))
          (by rw [← em₀]; exact hm₀.heap P _ (nwr₀ P _ hPs₀) (hk5₀ P _ hP3₀)) (AllBare.movedS (I1₀.bare.push hgb₀) hm₀)
        rw [sh_eta s1₀ s' hm₀.os] at J₀
        refine ⟨upd H1₀ P (.tbl (ps₀ ++ more₀)), ⟨⟨ps₀ ++ more₀, upd_same, by rw [← em₀]; exact ht3₀⟩, fun b hb₀ => upd_ne hb₀⟩, J₀⟩
  refine ⟨lim2₀, ?_⟩
  cases hf₀ : codeAmong gpos ps₀.toList with
  | none =>
    refine wpAny_genexprCodeX hcode₀ (cd₀.code hP2₀ htr₀) (cd₀.tab hP2₀) hf₀ fun c₀' h₀' tk₀ hx₀ hge₀ hlt₀ hco₀' _ htab₀' _ => ?_
    obtain ⟨o1, vs, f1, tf, fl, tg, inF, tx, tt, op, _, _, _, _, _, _, _, _, _, htr', _⟩ := hco₀'
    exact cont₀ _ h₀' tk₀ _ hx₀ (Nat.le_trans hge₀ (Nat.le_of_lt hlt₀)) htab₀'.2 ⟨_, rfl⟩ htr'
  | some cv =>
    refine wpAny_genexprCode_hit hcode₀ (cd₀.code hP2₀ htr₀) hf₀ ?_
    exact cont₀ cv (s1₀.heap.push o) s1₀.toks ps₀ (Heap.ExtBut.refl _ _) (Nat.le_refl _) hP2₀ ⟨#[], by simp⟩ htr₀

theorem mem_passing {pz₀ : Nat → Bool} {n i : Nat} : i ∈ passing pz₀ n 0 ↔ i < n ∧ pz₀ i = true := by
  unfold passing
  rw [List.drop_zero, List.mem_filter, List.mem_range]

/-- max(x for x in range(..) if ..) -/
def tMaxR (P : Addr) (te : L2.St → Hp → (Int → Int → Hp → Prop) → Prop) (tz : L2.St → Hp → Int → Nat → (Nat → Bool) → Prop) : TE := fun σ₀ H Q =>
  te σ₀ H fun a b H1₀ => -(2 ^ 62) ≤ a ∧ a < 2 ^ 62 ∧ -(2 ^ 62) ≤ b ∧ b < 2 ^ 62 ∧ TabG H1₀ P ∧ ∃ pz₀, tz σ₀ H1₀ a (b - a).toNat pz₀ ∧ (∃ i, i < (b - a).toNat ∧ pz₀ i = true) ∧
    ∀ i H2₀, Tabbed P H1₀ H2₀ → i < (b - a).toNat → pz₀ i = true → (∀ j, j < (b - a).toNat → pz₀ j = true → j ≤ i) → Q (.int (a + i)) H2₀
def tMinR (P : Addr) (te : L2.St → Hp → (Int → Int → Hp → Prop) → Prop) (tz : L2.St → Hp → Int → Nat → (Nat → Bool) → Prop) : TE := fun σ₀ H Q =>
  te σ₀ H fun a b H1₀ => -(2 ^ 62) ≤ a ∧ a < 2 ^ 62 ∧ -(2 ^ 62) ≤ b ∧ b < 2 ^ 62 ∧ TabG H1₀ P ∧ ∃ pz₀, tz σ₀ H1₀ a (b - a).toNat pz₀ ∧ (∃ i, i < (b - a).toNat ∧ pz₀ i = true) ∧
    ∀ i H2₀, Tabbed P H1₀ H2₀ → i < (b - a).toNat → pz₀ i = true → (∀ j, j < (b - a).toNat → pz₀ j = true → i ≤ j) → Q (.int (a + i)) H2₀
theorem pe_maxR {c P : Addr} {iter : Expr} {x : Str} {px pe p pos gpos : Pos} {ifs : List Expr} {scope : Scope} {te : L2.St → Hp → (Int → Int → Hp → Prop) → Prop} {tz : L2.St → Hp → Int → Nat → (Nat → Bool) → Prop} {k : Nat}
    (hr₀ : Room k X.A) (hg : Gl X "max") (hm₀ : X.mg "max" = none) (TB₀ : TabB X.base X.mg c P) (hcode₀ : X.env.code = .ref c) (S : GenS X.env scope x) (hi₀ : PRg X iter te) (ht₀ : TestR X P scope x ifs tz) (hd₀ : (x == ("__debug__" : Str)) = false)
    (hs₀ : ∀ v₀, genFold iter X.env v₀ = pure v₀)
    (he₀ : starEach [.GeneratorExp (.Name x pe) [⟨.Name x px, iter, ifs, 0⟩] scope gpos] X.env = (false, eval (.GeneratorExp (.Name x pe) [⟨.Name x px, iter, ifs, 0⟩] scope gpos) X.env) :: starEach [] X.env := by rfl) :
    PE X (.Call (.Name "max" p) [.GeneratorExp (.Name x pe) [⟨.Name x px, iter, ifs, 0⟩] scope gpos] [] pos) (tMaxR P te tz) := by
  refine ⟨fun pins₀ s σ₀ H Q I₀ h => ?_⟩
  refine wpAny_Call_Name_kw (ld_blt (u := .builtin "max") I₀ hg hm₀ (by decide +kernel) ?_)
  refine PyProof.Rows.callWith_builtin1 (id := "max") ?_ he₀ (by rfl)
  rw [he₀]
  show wpAny _ _ (spliced ((false, eval (.GeneratorExp (.Name x pe) [⟨.Name x px, iter, ifs, 0⟩] scope gpos) X.env) :: backTo pos (starEach [] X.env))) _ _ s
  refine Calls.spliced_cons (gen_range (R := fun lo₀ n pz₀ H1₀ => (∃ i, i < n ∧ pz₀ i = true) ∧ ∀ i H2₀, Tabbed P H1₀ H2₀ → i < n → pz₀ i = true → (∀ j, j < n → pz₀ j = true → j ≤ i) → Q (.int (lo₀ + i)) H2₀) hr₀ TB₀ hcode₀ S hi₀ ht₀ hd₀ hs₀ I₀ h fun lo₀ n pz₀ H1₀ g₀ s5₀ hR₀ hG₀ => ?_)
  obtain ⟨⟨i0₀, hi0₀, hp0₀⟩, hq₀⟩ := hR₀
  obtain ⟨fp₀, wr₀, G, F, St₀, W, hst₀, hfp₀, hval₀, hI₀⟩ := hG₀
  refine Calls.spliced_nil ?_
  have hne₀ : 0 < (passing pz₀ n 0).length := List.length_pos_of_mem (mem_passing.mpr ⟨hi0₀, hp0₀⟩)
  obtain ⟨val₀, hvd₀⟩ : ∃ val₀ : Nat → Int, ∀ j, val₀ j = lo₀ + (((passing pz₀ n 0).getD j 0 : Nat) : Int) := ⟨_, fun _ => rfl⟩
  have hv₀ : ∀ j v₀, F j v₀ → ∃ t₀, v₀ = .int (val₀ j) t₀ := fun j v₀ hF₀ => by
    obtain ⟨i, h1, t₀, rfl⟩ := hval₀ j v₀ hF₀
    refine ⟨t₀, ?_⟩
    rw [hvd₀]
    simp [List.getD_eq_getElem?_getD, h1]
  refine call_max_walkS (W.self 0 _ _ _ hst₀ ⟨g₀, fp₀, wr₀, G, _, F, St₀, _, rfl, W, hst₀, hfp₀, hne₀, CmpOf.ints_gt _ hv₀, fun v₀ s' hF₀ hmv₀ => ?_⟩)
  obtain ⟨H2₀, hT₀, J₀⟩ := hI₀ s' hmv₀
  have hb₀ := argBest_gt val₀ ((passing pz₀ n 0).length - 1)
  obtain ⟨t₀, rfl⟩ := hv₀ _ v₀ hF₀
  have hlt₀ : argBest (fun i j => decide (val₀ i > val₀ j)) ((passing pz₀ n 0).length - 1) < (passing pz₀ n 0).length := by omega
  refine ⟨.int _, H2₀, J₀, ⟨_, rfl⟩, ?_⟩
  generalize argBest (fun i j => decide (val₀ i > val₀ j)) ((passing pz₀ n 0).length - 1) = jm₀ at hb₀ hlt₀
  have hm1₀ : (passing pz₀ n 0).getD jm₀ 0 = (passing pz₀ n 0)[jm₀] := by simp [List.getD_eq_getElem?_getD, hlt₀]
  have hmem₀ : (passing pz₀ n 0)[jm₀] ∈ passing pz₀ n 0 := List.getElem_mem hlt₀
  obtain ⟨k1₀, k2₀⟩ := mem_passing.mp hmem₀
  show Q (.int (val₀ jm₀)) H2₀
  rw [hvd₀, hm1₀]
  refine hq₀ _ H2₀ hT₀ k1₀ k2₀ fun j hj hpj => ?_
  obtain ⟨jj₀, hjj₀, ej₀⟩ := List.getElem_of_mem (mem_passing.mpr ⟨hj, hpj⟩)
  have := hb₀.2 jj₀ (by omega)
  have e2₀ : (passing pz₀ n 0).getD jj₀ 0 = j := by simp [List.getD_eq_getElem?_getD, hjj₀, ej₀]
  simp only [hvd₀, hm1₀, e2₀] at this
  omega
theorem pe_minR {c P : Addr} {iter : Expr} {x : Str} {px pe p pos gpos : Pos} {ifs : List Expr} {scope : Scope} {te : L2.St → Hp → (Int → Int → Hp → Prop) → Prop} {tz : L2.St → Hp → Int → Nat → (Nat → Bool) → Prop} {k : Nat}
    (hr₀ : Room k X.A) (hg : Gl X "min") (hm₀ : X.mg "min" = none) (TB₀ : TabB X.base X.mg c P) (hcode₀ : X.env.code = .ref c) (S : GenS X.env scope x) (hi₀ : PRg X iter te) (ht₀ : TestR X P scope x ifs tz) (hd₀ : (x == ("__debug__" : Str)) = false)
    (hs₀ : ∀ v₀, genFold iter X.env v₀ = pure v₀)
    (he₀ : starEach [.GeneratorExp (.Name x pe) [⟨.Name x px, iter, ifs, 0⟩] scope gpos] X.env = (false, eval (.GeneratorExp (.Name x pe) [⟨.Name x px, iter, ifs, 0⟩] scope gpos) X.env) :: starEach [] X.env := by rfl) :
    PE X (.Call (.Name "min" p) [.GeneratorExp (.Name x pe) [⟨.Name x px, iter, ifs, 0⟩] scope gpos] [] pos) (tMinR P te tz) := by
  refine ⟨fun pins₀ s σ₀ H Q I₀ h => ?_⟩
  refine wpAny_Call_Name_kw (ld_blt (u := .builtin "min") I₀ hg hm₀ (by decide +kernel) ?_)
  refine PyProof.Rows.callWith_builtin1 (id := "min") ?_ he₀ (by rfl)
  rw [he₀]
  show wpAny _ _ (spliced ((false, eval (.GeneratorExp (.Name x pe) [⟨.Name x px, iter, ifs, 0⟩] scope gpos) X.env) :: backTo pos (starEach [] X.env))) _ _ s
  refine Calls.spliced_cons (gen_range (R := fun lo₀ n pz₀ H1₀ => (∃ i, i < n ∧ pz₀ i = true) ∧ ∀ i H2₀, Tabbed P H1₀ H2₀ → i < n → pz₀ i = true → (∀ j, j < n → pz₀ j = true → i ≤ j) → Q (.int (lo₀ + i)) H2₀) hr₀ TB₀ hcode₀ S hi₀ ht₀ hd₀ hs₀ I₀ h fun lo₀ n pz₀ H1₀ g₀ s5₀ hR₀ hG₀ => ?_)
  obtain ⟨⟨i0₀, hi0₀, hp0₀⟩, hq₀⟩ := hR₀
  obtain ⟨fp₀, wr₀, G, F, St₀, W, hst₀, hfp₀, hval₀, hI₀⟩ := hG₀
  refine Calls.spliced_nil ?_
  have hne₀ : 0 < (passing pz₀ n 0).length := List.length_pos_of_mem (mem_passing.mpr ⟨hi0₀, hp0₀⟩)
  obtain ⟨val₀, hvd₀⟩ : ∃ val₀ : Nat → Int, ∀ j, val₀ j = lo₀ + (((passing pz₀ n 0).getD j 0 : Nat) : Int) := ⟨_, fun _ => rfl⟩
  have hv₀ : ∀ j v₀, F j v₀ → ∃ t₀, v₀ = .int (val₀ j) t₀ := fun j v₀ hF₀ => by
    obtain ⟨i, h1, t₀, rfl⟩ := hval₀ j v₀ hF₀
    refine ⟨t₀, ?_⟩
    rw [hvd₀]
    simp [List.getD_eq_getElem?_getD, h1]
  refine call_min_walkS (W.self 0 _ _ _ hst₀ ⟨g₀, fp₀, wr₀, G, _, F, St₀, _, rfl, W, hst₀, hfp₀, hne₀, CmpOf.ints_lt _ hv₀, fun v₀ s' hF₀ hmv₀ => ?_⟩)
  obtain ⟨H2₀, hT₀, J₀⟩ := hI₀ s' hmv₀
  have hb₀ := argBest_lt val₀ ((passing pz₀ n 0).length - 1)
  obtain ⟨t₀, rfl⟩ := hv₀ _ v₀ hF₀
  have hlt₀ : argBest (fun i j => decide (val₀ i < val₀ j)) ((passing pz₀ n 0).length - 1) < (passing pz₀ n 0).length := by omega
  refine ⟨.int _, H2₀, J₀, ⟨_, rfl⟩, ?_⟩
  generalize argBest (fun i j => decide (val₀ i < val₀ j)) ((passing pz₀ n 0).length - 1) = jm₀ at hb₀ hlt₀
  have hm1₀ : (passing pz₀ n 0).getD jm₀ 0 = (passing pz₀ n 0)[jm₀] := by simp [List.getD_eq_getElem?_getD, hlt₀]
  have hmem₀ : (passing pz₀ n 0)[jm₀] ∈ passing pz₀ n 0 := List.getElem_mem hlt₀
  obtain ⟨k1₀, k2₀⟩ := mem_passing.mp hmem₀
  show Q (.int (val₀ jm₀)) H2₀
  rw [hvd₀, hm1₀]
  refine hq₀ _ H2₀ hT₀ k1₀ k2₀ fun j hj hpj => ?_
  obtain ⟨jj₀, hjj₀, ej₀⟩ := List.getElem_of_mem (mem_passing.mpr ⟨hj, hpj⟩)
  have := hb₀.2 jj₀ (by omega)
  have e2₀ : (passing pz₀ n 0).getD jj₀ 0 = j := by simp [List.getD_eq_getElem?_getD, hjj₀, ej₀]
  simp only [hvd₀, hm1₀, e2₀] at this
  omega
end
end V3
namespace V3
open PySem.Spec PySem L2 PyProof.Rows GxR
section
variable {s : Shared} {H : Hp} {σ : L2.St} {pins : List (Addr × Obj)} {X : Cx}
/-- a name of the def that the generator expression captures -/
structure Cap (X : Cx) (scope : Scope) (x : Str) (i : Nat) : Prop where
  N : X.N[i]? = some x
  cell : X.env.scope.names.lookup x = some .cell
  free : scope.names.lookup x = some .free
  look : ∀ cells : List (Str × Addr), (cloFrom cells scope.names []).lookup x = some ((cells.lookup x).getD 0)
  cd : (x == ("__classdict__" : Str)) = false
  db : (x == ("__debug__" : Str)) = false
theorem Cap.at {scope : Scope} {x : Str} {i : Nat} {v : V} (C : Cap X scope x i) (I : Inv X pins σ H s) (hv : σ[i]? = some (some v)) : ∃ (c : Addr) (u : Value), RelV v u ∧ X.env.cells.lookup x = some c ∧ s.heap.IsCell c (some u) := by
  obtain ⟨m, hn, hl⟩ := I.loc
  obtain ⟨u, r, l⟩ := hl i x v C.N hv (.inr (.inl C.cell))
  (rcases l with ⟨hk, hm⟩ | ⟨hk, c, hc, hcell⟩)
  · have e : X.env.scope.names.lookup x = some .local := hk
    rw [C.cell] at e
    cases e
  · exact ⟨c, u, r, hc, hcell⟩
/-- the captured name is read in the generator's frame -/
theorem Cap.eval {scope : Scope} {x : Str} {i : Nat} {pos : Pos} {M : Model} {A' : Around} {E' : Value → Shared → Prop} {cenv : Env} {c : Addr} {u : Value} {s₂ : Shared} {Q : Value → Shared → Prop} (C : Cap X scope x i) (hk : scope.kind = .function) (hs : cenv.scope = scope)
    (hc : cenv.cells = cloFrom X.env.cells scope.names []) (h1 : X.env.cells.lookup x = some c) (h2 : s₂.heap.IsCell c (some u)) (q : Q u s₂) : wpAny M A' (eval (.Name x pos) cenv) Q E' s₂ := by
  refine wpAny_Name (wpAny_loadName_free (by rw [hs]; exact hk) (show cenv.scope.names.lookup x = some .free by rw [hs]; exact C.free) ?_ h2 q C.cd) C.db
  rw [hc, C.look, h1]
  rfl
theorem keep_cell {P c : Addr} {u : Value} {s s₂ : Shared} (hP : ∃ ps : Array Value, s.heap.get? P = some { cls := .none, data := .fields ps }) (k : ∀ b o, b ≠ P → s.heap.get? b = some o → s₂.heap.get? b = some o) (h : s.heap.IsCell c (some u)) : s₂.heap.IsCell c (some u) := by
  obtain ⟨o, ho, hd⟩ := h
  obtain ⟨ps, hP⟩ := hP
  refine ⟨o, k c o (fun e => ?_) ho, hd⟩
  rw [e, hP] at ho
  cases ho
  cases hd
theorem keep_list {P a : Addr} {its : Array Value} {s s₂ : Shared} (hP : ∃ ps : Array Value, s.heap.get? P = some { cls := .none, data := .fields ps }) (k : ∀ b o, b ≠ P → s.heap.get? b = some o → s₂.heap.get? b = some o) (h : PlainL s.heap a its) : PlainL s₂.heap a its := by
  obtain ⟨o, n, ho, hc, hd, hdt⟩ := h
  obtain ⟨ps, hP⟩ := hP
  refine ⟨o, n, k a o (fun e => ?_) ho, hc, hd, hdt⟩
  rw [e, hP] at ho
  cases ho
  cases hdt
theorem vals_int_get {xs : List Int} {its : List Value} {j : Nat} {u : Int} (r : Vals (xs.map V.int) its) (h : xs[j]? = some u) : ∃ t, its.toArray[j]? = some (.int u t) := by
  obtain ⟨w, h1, h2⟩ := r.get (show (xs.map V.int)[j]? = some (.int u) by rw [List.getElem?_map, h]; rfl)
  obtain ⟨t, rfl⟩ := h2
  exact ⟨t, by simpa using h1⟩
/-- a[x] op b[x], a and b lists of ints of the def, x the generator's name -/
def tzXX (K : PySem.W.Frag) (ia ib : Nat) (cmp : Int → Int → Bool) : L2.St → Hp → Int → Nat → (Nat → Bool) → Prop := fun σ H lo n pz =>
  ∃ (pa pb : Addr) (xs ys : List Int), σ[ia]? = some (some (.ref pa)) ∧ σ[ib]? = some (some (.ref pb)) ∧ SqL K H pa (xs.map V.int) ∧ SqL K H pb (ys.map V.int) ∧ 0 ≤ lo ∧ lo + n < 2 ^ 63 ∧
    ∀ i : Nat, i < n → ∃ u v : Int, xs[lo.toNat + i]? = some u ∧ ys[lo.toNat + i]? = some v ∧ pz i = cmp u v
/-- a[x] op b[y], y an int of the def -/
def tzXY (K : PySem.W.Frag) (ia ib iy : Nat) (cmp : Int → Int → Bool) : L2.St → Hp → Int → Nat → (Nat → Bool) → Prop := fun σ H lo n pz =>
  ∃ (pa pb : Addr) (xs ys : List Int) (y v : Int), σ[ia]? = some (some (.ref pa)) ∧ σ[ib]? = some (some (.ref pb)) ∧ σ[iy]? = some (some (.int y)) ∧ SqL K H pa (xs.map V.int) ∧ SqL K H pb (ys.map V.int) ∧ 0 ≤ lo ∧ lo + n < 2 ^ 63 ∧ 0 ≤ y ∧ y < 2 ^ 63 ∧
    ys[y.toNat]? = some v ∧ ∀ i : Nat, i < n → ∃ u : Int, xs[lo.toNat + i]? = some u ∧ pz i = cmp u v
theorem for_one {M : Model} {A' : Around} {E' : Value → Shared → Prop} {c : Expr} {cenv : Env} {Q : Bool → Shared → Prop} {s₂ : Shared} (h : wpAny M A' (isTrue c cenv (eval c cenv)) Q E' s₂) :
    wpAny M A' (forIn [c] true fun c r => if r = true then do let ok ← isTrue c cenv (eval c cenv); pure (ForInStep.yield ok) else pure (ForInStep.yield r)) Q E' s₂ := by
  simp only [List.forIn_cons, List.forIn_nil, if_true, bind_assoc, pure_bind]
  exact wpAny_bind (wpAny_mono h (fun b s3 q => wpAny_pure q) fun _ _ e => e)
theorem test_xx {P : Addr} {scope : Scope} {x na nb : Str} {ia ib : Nat} {op : CmpOp} {cmp : Int → Int → Bool} {p1 p2 p3 p4 q1 q2 q3 : Pos} (hk : scope.kind = .function) (hx : scope.names.lookup x = some .local) (hdx : (x == ("__debug__" : Str)) = false) (Ca : Cap X scope na ia) (Cb : Cap X scope nb ib)
    (hcmp : ∀ (A : Around) (E : Value → Shared → Prop) (s : Shared) (Q : Value → Shared → Prop) (u v : Int) (t t' : Tok), Q (.bool (cmp u v)) s → wpAny (model X.prog X.w) A (compareOp op (.int u t) (.int v t')) Q E s)
    (hm : behindInMarks op (.Subscript (.Name nb p3) (.Name x p4) q2) = false) :
    TestR X P scope x [.Compare (.Subscript (.Name na p1) (.Name x p2) q1) [op] [.Subscript (.Name nb p3) (.Name x p4) q2] q3] (tzXX X.K ia ib cmp) := by
  intro pins s σ H lo n pz I hz hP cenv A' E' i t s₂ m₂ hi hs hc hn hmx hkp
  obtain ⟨pa, pb, xs, ys, ha, hb, hxs, hys, h0, h63, htest⟩ := hz
  obtain ⟨u, v, hu, hv, hpz⟩ := htest i hi
  obtain ⟨ca, ua, ra, ca1, ca2⟩ := Ca.at I ha
  obtain ⟨cb, ub, rb, cb1, cb2⟩ := Cb.at I hb
  cases ra
  cases rb
  obtain ⟨ia', rxs, pxs, _⟩ := I.list hxs
  obtain ⟨ib', rys, pys, _⟩ := I.list hys
  obtain ⟨tu, hu'⟩ := vals_int_get rxs hu
  obtain ⟨tv, hv'⟩ := vals_int_get rys hv
  have e1 : (lo + (i : Nat) * 1).toNat = lo.toNat + i := by omega
  have b1 : 0 ≤ lo + (i : Nat) * 1 := by omega
  have b2 : lo + (i : Nat) * 1 < 2 ^ 63 := by omega
  have ex : ∀ (pos : Pos) (E'' : Value → Shared → Prop) (Q : Value → Shared → Prop), Q (.int (lo + (i : Nat) * 1) t) s₂ → wpAny (model X.prog X.w) A' (eval (.Name x pos) cenv) Q E'' s₂ := fun pos E'' Q q =>
    wpAny_Name (wpAny_loadName_local (by rw [hs]; exact hk) (show cenv.scope.names.lookup x = some .local by rw [hs]; exact hx) hn hmx q) hdx
  refine for_one (wpAny_isTrue_Compare1 ?_ hm)
  refine Subscript_ (Ca.eval hk hs hc ca1 (keep_cell hP hkp ca2) (ex _ _ _ ?_))
  refine item_listR (keep_list hP hkp pxs).isList b1 b2 (by rw [e1]; exact hu') ?_
  refine Subscript_ (Cb.eval hk hs hc cb1 (keep_cell hP hkp cb2) (ex _ _ _ ?_))
  refine item_listR (keep_list hP hkp pys).isList b1 b2 (by rw [e1]; exact hv') ?_
  refine hcmp _ _ _ _ _ _ _ _ (wpAny_truthy_bool ?_)
  exact ⟨hpz.symm, keeps_refl _⟩
theorem test_xy {P : Addr} {scope : Scope} {x na nb ny : Str} {ia ib iy : Nat} {op : CmpOp} {cmp : Int → Int → Bool} {p1 p2 p3 p4 q1 q2 q3 : Pos} (hk : scope.kind = .function) (hx : scope.names.lookup x = some .local) (hdx : (x == ("__debug__" : Str)) = false) (Ca : Cap X scope na ia) (Cb : Cap X scope nb ib) (Cy : Cap X scope ny iy)
    (hcmp : ∀ (A : Around) (E : Value → Shared → Prop) (s : Shared) (Q : Value → Shared → Prop) (u v : Int) (t t' : Tok), Q (.bool (cmp u v)) s → wpAny (model X.prog X.w) A (compareOp op (.int u t) (.int v t')) Q E s)
    (hm : behindInMarks op (.Subscript (.Name nb p3) (.Name ny p4) q2) = false) :
    TestR X P scope x [.Compare (.Subscript (.Name na p1) (.Name x p2) q1) [op] [.Subscript (.Name nb p3) (.Name ny p4) q2] q3] (tzXY X.K ia ib iy cmp) := by
  intro pins s σ H lo n pz I hz hP cenv A' E' i t s₂ m₂ hi hs hc hn hmx hkp
  obtain ⟨pa, pb, xs, ys, y, v, ha, hb, hy, hxs, hys, h0, h63, y0, y63, hv, htest⟩ := hz
  obtain ⟨u, hu, hpz⟩ := htest i hi
  obtain ⟨ca, ua, ra, ca1, ca2⟩ := Ca.at I ha
  obtain ⟨cb, ub, rb, cb1, cb2⟩ := Cb.at I hb
  obtain ⟨cy, uy, ry, cy1, cy2⟩ := Cy.at I hy
  cases ra
  cases rb
  obtain ⟨ty, rfl⟩ := ry
  obtain ⟨ia', rxs, pxs, _⟩ := I.list hxs
  obtain ⟨ib', rys, pys, _⟩ := I.list hys
  obtain ⟨tu, hu'⟩ := vals_int_get rxs hu
  obtain ⟨tv, hv'⟩ := vals_int_get rys hv
  have e1 : (lo + (i : Nat) * 1).toNat = lo.toNat + i := by omega
  have b1 : 0 ≤ lo + (i : Nat) * 1 := by omega
  have b2 : lo + (i : Nat) * 1 < 2 ^ 63 := by omega
  have ex : ∀ (pos : Pos) (E'' : Value → Shared → Prop) (Q : Value → Shared → Prop), Q (.int (lo + (i : Nat) * 1) t) s₂ → wpAny (model X.prog X.w) A' (eval (.Name x pos) cenv) Q E'' s₂ := fun pos E'' Q q =>
    wpAny_Name (wpAny_loadName_local (by rw [hs]; exact hk) (show cenv.scope.names.lookup x = some .local by rw [hs]; exact hx) hn hmx q) hdx
  refine for_one (wpAny_isTrue_Compare1 ?_ hm)
  refine Subscript_ (Ca.eval hk hs hc ca1 (keep_cell hP hkp ca2) (ex _ _ _ ?_))
  refine item_listR (keep_list hP hkp pxs).isList b1 b2 (by rw [e1]; exact hu') ?_
  refine Subscript_ (Cb.eval hk hs hc cb1 (keep_cell hP hkp cb2) (Cy.eval hk hs hc cy1 (keep_cell hP hkp cy2) ?_))
  refine item_listR (keep_list hP hkp pys).isList y0 y63 hv' ?_
  refine hcmp _ _ _ _ _ _ _ _ (wpAny_truthy_bool ?_)
  exact ⟨hpz.symm, keeps_refl _⟩
end
end V3
namespace V3
open PySem.Spec PySem L2 PyProof.Rows GxR
/-! ### data without lists lasts while lists change -/
structure KeepT (H H' : Hp) : Prop where
  tup : ∀ b xs, H b = some (.tup xs) → H' b = some (.tup xs)
  frz : ∀ b o u, H b = some (.frz o u) → H' b = some (.frz o u)
theorem KeepT.refl (H : Hp) : KeepT H H := ⟨fun _ _ h => h, fun _ _ _ h => h⟩
theorem KeepT.trans {H H1 H2 : Hp} (a : KeepT H H1) (b : KeepT H1 H2) : KeepT H H2 := ⟨fun c xs h => b.tup c xs (a.tup c xs h), fun c o u h => b.frz c o u (a.frz c o u h)⟩
theorem Same.kt {H H' : Hp} (e : Same H H') : KeepT H H' := ⟨fun _ _ h => e _ _ h, fun _ _ _ h => e _ _ h⟩
theorem kt_lst {H : Hp} {a : Addr} {xs : List V} {o : HO} (h : H a = some (.lst xs)) : KeepT H (upd H a o) :=
  ⟨fun b ys e => by rw [upd_ne (fun z => by rw [z, h] at e; cases e)]; exact e, fun b o' u e => by rw [upd_ne (fun z => by rw [z, h] at e; cases e)]; exact e⟩
theorem kt_new {H : Hp} {p : Addr} {o : HO} (h : H p = none) : KeepT H (upd H p o) := Same.kt (same_upd h)
theorem kt_tab {P : Addr} {H H' : Hp} (h : Tabbed P H H') (hP : TabG H P) : KeepT H H' := by
  obtain ⟨ps, hp, _⟩ := hP
  refine ⟨fun b xs e => ?_, fun b o u e => ?_⟩
  · rw [h.2 b (fun z => by rw [z, hp] at e; cases e)]
    exact e
  · rw [h.2 b (fun z => by rw [z, hp] at e; cases e)]
    exact e
theorem KeepT.sqT {K : PySem.W.Frag} {H H' : Hp} {a : Addr} {xs : List V} (e : KeepT H H') (h : SqT K H a xs) : SqT K H' a xs := by
  (rcases h with (h | ⟨o, h⟩) | h)
  · exact .inl (.inl (e.tup _ _ h))
  · exact .inl (.inr ⟨o, e.frz _ _ _ h⟩)
  · exact .inr h
mutual
inductive DpT (K : PySem.W.Frag) (H : Hp) : V → PyData → Prop
  | non : DpT K H .non .none
  | bl (b : Bool) : DpT K H (.bl b) (.bool b)
  | int (i : Int) : DpT K H (.int i) (.int i)
  | str (x : Str) : DpT K H (.str x) (.str x)
  | tup {a : Addr} {xs : List V} {ds : List PyData} : SqT K H a xs → DpTAll K H xs ds → DpT K H (.ref a) (.tuple ds)
inductive DpTAll (K : PySem.W.Frag) (H : Hp) : List V → List PyData → Prop
  | nil : DpTAll K H [] []
  | cons {v : V} {vs : List V} {d : PyData} {ds : List PyData} : DpT K H v d → DpTAll K H vs ds → DpTAll K H (v :: vs) (d :: ds)
end
mutual
theorem DpT.keep {K : PySem.W.Frag} {H H' : Hp} (e : KeepT H H') : ∀ {v : V} {d : PyData}, DpT K H v d → DpT K H' v d
  | _, _, .non => .non
  | _, _, .bl b => .bl b
  | _, _, .int i => .int i
  | _, _, .str x => .str x
  | _, _, .tup h a => .tup (e.sqT h) (DpTAll.keep e a)
theorem DpTAll.keep {K : PySem.W.Frag} {H H' : Hp} (e : KeepT H H') : ∀ {vs : List V} {ds : List PyData}, DpTAll K H vs ds → DpTAll K H' vs ds
  | _, _, .nil => .nil
  | _, _, .cons a b => .cons (DpT.keep e a) (DpTAll.keep e b)
end
mutual
theorem DpT.dp {K : PySem.W.Frag} {H : Hp} : ∀ {v : V} {d : PyData}, DpT K H v d → Dp K H v d
  | _, _, .non => .non
  | _, _, .bl b => .bl b
  | _, _, .int i => .int i
  | _, _, .str x => .str x
  | _, _, .tup h a => .tup h (DpTAll.dp a)
theorem DpTAll.dp {K : PySem.W.Frag} {H : Hp} : ∀ {vs : List V} {ds : List PyData}, DpTAll K H vs ds → DpAll K H vs ds
  | _, _, .nil => .nil
  | _, _, .cons a b => .cons (DpT.dp a) (DpTAll.dp b)
end
section
variable {K : PySem.W.Frag} {H : Hp}
theorem dtTup {v : V} {ds : List PyData} (h : DpT K H v (.tuple ds)) : ∃ p xs, v = .ref p ∧ SqT K H p xs ∧ DpTAll K H xs ds := by
  cases h with
  | tup a b => exact ⟨_, _, rfl, a, b⟩
theorem dtAll_app {vs ws : List V} {ds es : List PyData} (h : DpTAll K H vs ds) (g : DpTAll K H ws es) : DpTAll K H (vs ++ ws) (ds ++ es) := by
  induction ds generalizing vs with
  | nil =>
    cases h
    exact g
  | cons x ds ih =>
    cases h with
    | cons a b => exact .cons a (ih b)
theorem dtAll_len {vs : List V} {ds : List PyData} (h : DpTAll K H vs ds) : vs.length = ds.length := dpAll_len h.dp
theorem dtAll_getV {vs : List V} {ds : List PyData} {i : Nat} {v : V} (h : DpTAll K H vs ds) (e : vs[i]? = some v) : ∃ d, ds[i]? = some d ∧ DpT K H v d := by
  induction ds generalizing vs i with
  | nil =>
    cases h
    simp at e
  | cons x ds ih =>
    cases h with
    | cons a b =>
      cases i with
      | zero =>
        have q := Option.some.inj e
        subst q
        exact ⟨_, rfl, a⟩
      | succ i =>
        have q := ih (i := i) b
        exact q e
theorem dtAll_get {vs : List V} {ds : List PyData} {i : Nat} {d : PyData} (h : DpTAll K H vs ds) (e : ds[i]? = some d) : ∃ v, vs[i]? = some v ∧ DpT K H v d := by
  induction ds generalizing vs i with
  | nil => simp at e
  | cons x ds ih =>
    cases h with
    | cons a b =>
      cases i with
      | zero =>
        have q : x = d := Option.some.inj e
        subst q
        exact ⟨_, rfl, a⟩
      | succ i =>
        have q := ih (i := i) b
        exact q e
theorem dtFr {v : V} {q : Int × Int} (h : DpT K H v (frD q)) : ∃ p, v = .ref p ∧ SqT K H p [.int q.1, .int q.2] := dpFr h.dp
theorem tFr {v : V} {q : Int × Int} (h : Dp K H v (frD q)) : DpT K H v (frD q) := by
  obtain ⟨p, rfl, hs⟩ := dpFr h
  exact .tup hs (.cons (.int _) (.cons (.int _) .nil))
theorem tFrU {p : Addr} {q : Int × Int} (h : H p = some (.tup [.int q.1, .int q.2])) : DpT K H (.ref p) (frD q) := .tup (SqT.of h) (.cons (.int q.1) (.cons (.int q.2) .nil))
theorem tFrs : ∀ {vs : List V} {qs : List (Int × Int)}, DpAll K H vs (qs.map frD) → DpTAll K H vs (qs.map frD)
  | _, [], h => by
    cases h
    exact .nil
  | _, q :: r, h => by
    cases h with
    | cons a b => exact .cons (tFr a) (tFrs b)
theorem tRow {v : V} {qs : List (Int × Int)} (h : Dp K H v (rowD qs)) : DpT K H v (rowD qs) := by
  obtain ⟨p, xs, rfl, hs, ha⟩ := dpTup h
  exact .tup hs (tFrs ha)
end

/-! ### lists of ints: !=, o[i] op= e -/
theorem shaped_ints (ns : List Int) : SeqAt.shaped (.list (ns.map PyData.int)) = true := by
  have h1 : ∀ ns : List Int, PyData.canLayAll0 (ns.map PyData.int) = true := fun ns => by
    induction ns with
    | nil => rfl
    | cons a r ih => simp only [List.map_cons, PyData.canLayAll0, PyData.canLay0, ih, Bool.and_self]
  have h2 : ∀ ns : List Int, PyData.depthAll (ns.map PyData.int) = 0 := fun ns => by
    induction ns with
    | nil => rfl
    | cons a r ih => simp only [List.map_cons, PyData.depthAll, PyData.depth, ih, Nat.max_self]
  unfold SeqAt.shaped
  simp only [PyData.canLay0, PyData.depth, h1, h2, Bool.true_and, decide_eq_true_eq]
  omega
theorem eqv_ints (a b : List Int) : PyData.eqv (.list (a.map PyData.int)) (.list (b.map PyData.int)) = decide (a = b) := by
  rw [PyData.eqv]
  exact PySem.W.ked_eqvAll a b
theorem pget_list {X : Cx} : PGet X (rIxL X.K) := by
  intro pins₀ s σ₀ H o i ov₀ iv₀ Q I ro₀ ri₀ h
  obtain ⟨p, xs, k, z, rfl, rfl, hq₀, he₀, q⟩ := h
  cases ro₀
  obtain ⟨t₀, rfl⟩ := ri₀
  obtain ⟨its₀, r₀, pl₀, hz₀⟩ := I.list hq₀
  obtain ⟨j₀, h1₀, h2₀, h3₀, h4₀, h5₀⟩ := atI_get he₀
  obtain ⟨w₀, ew₀, rw₀'⟩ := r₀.get h2₀
  have hl₀ := r₀.length
  have hn₀ := line63
  have fin₀ : EP X pins₀ σ₀ Q w₀ s := ⟨z, H, I, rw₀', q⟩
  by_cases h0₀ : 0 ≤ k
  · have hj₀ : k.toNat = j₀ := by
      rw [seqIndex_of h0₀ h5₀] at h1₀
      exact Option.some.inj h1₀
    exact wpAny_getItem_list pl₀.isList h0₀ (by omega) (by rw [hj₀]; simpa using ew₀) fin₀
  · have hj₀ : (k + (its₀.toArray.size : Int)).toNat = j₀ := by
      rw [seqIndex_neg (by omega) h4₀] at h1₀
      rw [List.size_toArray, ← hl₀]
      exact Option.some.inj h1₀
    exact wpAny_getItem_list_neg pl₀.isList (by omega) (by rw [List.size_toArray] <;> omega) (by omega) (by rw [hj₀]; simpa using ew₀) fin₀

/-! ### a def that holds a generator expression -/
structure AtC (K : PySem.W.Frag) (mg : Str → Option Value) (x : Str) (st : Stmt) (c : Addr) : Prop where
  ex : ∃ (f : Addr) (oc : Value) (od : Option Addr) (kV doc pm : Value) (an : Option Addr) (ct : Value) (osl : Array (Option Value)), mg x = some (.ref f) ∧
    K.lookup f = some ⟨oc, od, .func (PySem.W.fnOf x x (defArgs st) (defBody st) (defScope st) .none kV doc pm an (.ref c) ct), osl⟩ ∧ PySem.W.codeIn K (.ref c) x = true ∧ PySem.W.keepIn K (.ref f) = true
section
variable {mg : Str → Option Value} {base : Heap} {K : PySem.W.Frag} {P : Program} {w : World}
theorem Df.mkC {x : Str} {st : Stmt} {c : Addr} {N ps : List Str} {k : Nat} {sp : Sp} (F : AtC K mg x st c) (S : FnScope N ps (defScope st)) (len : ∀ vs H Q E, sp vs H Q E → vs.length = ps.length)
    (hb : ∀ (kV doc pm : Value) (an : Option Addr) (cdv ct : Value) (us : List Value), us.length = ps.length → bindArgs (PySem.W.fnOf x x (defArgs st) (defBody st) (defScope st) .none kV doc pm an cdv ct) ⟨us, []⟩ = pure (ps.zip us))
    (hbody : ∀ (f : Addr) (A : Around) (outer : List Env) (s : Shared) (H : Hp) (vs : List V) (Q : VK) (E : XK), Room k (A.deeper (envOfC x (defScope st) s.heap.objs.size f (.ref c))) → sp vs H Q E →
      ∃ t, PSs (cxOf CX0 P w K mg base N x (defScope st) f (.ref c) A outer s H E).nox (defBody st) t ∧ t { nx := fun _ H' => Q .non H', rt := Q } (start N vs) H) : Df P w K mg base x (k + 1) ps sp := by
  obtain ⟨f, oc, od, kV, doc, pm, an, ct, osl, g, lk, hcd, hk⟩ := F.ex
  refine ⟨f, _, g, hk, .all (hb kV doc pm an (.ref c) ct), fn_of lk hcd S len fun A outer s H vs Q E hr hsp => ?_, oc, od, osl, lk⟩
  obtain ⟨t, h, q⟩ := hbody f A outer s H vs Q E hr hsp
  exact ⟨t, h.nox, q⟩
end
/-- all but the table at P stands -/
def But (P : Addr) (H H' : Hp) : Prop := ∀ b o, b ≠ P → H b = some o → H' b = some o
theorem But.trans {P : Addr} {H H1 H2 : Hp} (a : But P H H1) (b : But P H1 H2) : But P H H2 := fun c o n h => b c o n (a c o n h)
theorem But.refl (P : Addr) (H : Hp) : But P H H := fun _ _ _ h => h
theorem Same.but {P : Addr} {H H' : Hp} (e : Same H H') : But P H H' := fun b o _ h => e b o h
theorem tab_but {P : Addr} {H H' : Hp} (h : Tabbed P H H') : But P H H' := fun b o n e => by rw [h.2 b n]; exact e
theorem But.kt {P : Addr} {H H' : Hp} (h : But P H H') (hP : TabG H P) : KeepT H H' := by
  obtain ⟨ps, hp, _⟩ := hP
  exact ⟨fun b xs e => h b _ (fun z => by rw [z, hp] at e; cases e) e, fun b o u e => h b _ (fun z => by rw [z, hp] at e; cases e) e⟩
theorem But.seq {P : Addr} {K : PySem.W.Frag} {H H' : Hp} {a : Addr} {xs : List V} (e : But P H H') (hP : TabG H P) (h : SqL K H a xs) : SqL K H' a xs := by
  obtain ⟨ps, hp, _⟩ := hP
  (rcases h with (h | ⟨o, h⟩) | h)
  · exact .inl (.inl (e _ _ (fun z => by rw [z, hp] at h; cases h) h))
  · exact .inl (.inr ⟨o, e _ _ (fun z => by rw [z, hp] at h; cases h) h⟩)
  · exact .inr h
theorem TabG.same {P : Addr} {H H' : Hp} (h : TabG H P) (e : Same H H') : TabG H' P := by
  obtain ⟨ps, hp, t⟩ := h
  exact ⟨ps, e _ _ hp, t⟩
theorem TabG.lst {P a : Addr} {H : Hp} {xs : List V} {o : HO} (h : TabG H P) (e : H a = some (.lst xs)) : TabG (upd H a o) P := by
  obtain ⟨ps, hp, t⟩ := h
  exact ⟨ps, by rw [upd_ne (fun z => by rw [z, e] at hp; cases hp)]; exact hp, t⟩
end V3
/-! Fractions as rational numbers: sizes, and what the reckoning of the program and of the law is. -/
namespace V3
theorem radd (x y : Rat) : x + y = Rat.divInt (x.num * (y.den : Int) + y.num * (x.den : Int)) ((x.den : Int) * (y.den : Int)) := by
  rw [Rat.add_def', ← Rat.divInt_ofNat, Int.natCast_mul]
theorem rsub (x y : Rat) : x - y = Rat.divInt (x.num * (y.den : Int) - y.num * (x.den : Int)) ((x.den : Int) * (y.den : Int)) := by
  rw [Rat.sub_def', ← Rat.divInt_ofNat, Int.natCast_mul]
theorem rmul (x y : Rat) : x * y = Rat.divInt (x.num * y.num) ((x.den : Int) * (y.den : Int)) := by
  rw [Rat.mul_def', ← Rat.divInt_ofNat, Int.natCast_mul]
theorem rdiv (x y : Rat) : x / y = Rat.divInt (x.num * (y.den : Int)) ((x.den : Int) * y.num) := by
  have e : x / y = (Rat.divInt x.num x.den) * (Rat.divInt y.den y.num) := by
    rw [Rat.div_def, Rat.inv_def, Rat.num_divInt_den]
  rw [e, Rat.divInt_mul_divInt]
theorem rnum_pos {y : Rat} (h : 0 < y) : 0 < y.num := by
  have := (Rat.lt_iff 0 y).mp h
  simpa using this
theorem rden_pos (x : Rat) : 0 < (x.den : Int) := by
  have := x.den_pos
  omega
theorem dnum {n u : Int} (h : 0 < u) : (Rat.divInt n u).num = n / (Int.gcd n u : Int) := by
  rw [Rat.num_divInt, Int.sign_eq_one_of_pos h, Int.one_mul, Int.gcd_comm]
theorem dden {n u : Int} (h : 0 < u) : ((Rat.divInt n u).den : Int) = u / (Int.gcd n u : Int) := by
  rw [Rat.den_divInt, if_neg (by omega), Int.gcd_comm]
  have : (u.natAbs : Int) = u := by omega
  rw [Int.natCast_ediv, this]
theorem rle (x y : Rat) : decide (x.num * (y.den : Int) ≤ y.num * (x.den : Int)) = decide (x ≤ y) := by
  rw [decide_eq_decide]
  exact (Rat.le_iff x y).symm
theorem rlt (x y : Rat) : decide (x.num * (y.den : Int) < y.num * (x.den : Int)) = decide (x < y) := by
  rw [decide_eq_decide]
  exact (Rat.lt_iff x y).symm
/-- sizes -/
structure Bq (b : Nat) (x : Rat) : Prop where
  n : x.num.natAbs < 2 ^ b
  d : x.den < 2 ^ b
theorem pw {a b : Nat} (h : a ≤ b) : 2 ^ a ≤ 2 ^ b := Nat.pow_le_pow_right (by decide) h
theorem Bq.mono {a b : Nat} {x : Rat} (h : Bq a x) (l : a ≤ b) : Bq b x := ⟨Nat.lt_of_lt_of_le h.n (pw l), Nat.lt_of_lt_of_le h.d (pw l)⟩
theorem bq_div {n u : Int} {b : Nat} (h : 0 < u) (hn : n.natAbs < 2 ^ b) (hu : u.natAbs < 2 ^ b) : Bq b (Rat.divInt n u) := by
  refine ⟨?_, ?_⟩
  · rw [dnum h]
    refine Nat.lt_of_le_of_lt ?_ hn
    rw [Int.natAbs_ediv_of_dvd (Int.gcd_dvd_left ..)]
    exact Nat.div_le_self _ _
  · have e := dden (n := n) h
    have l : u / (Int.gcd n u : Int) ≤ u := Int.ediv_le_self _ (by omega)
    omega
theorem mul_lt_pw {m n a b : Nat} (h1 : m < 2 ^ a) (h2 : n < 2 ^ b) : m * n < 2 ^ (a + b) := by
  rw [Nat.pow_add]
  exact Nat.mul_lt_mul'' h1 h2
theorem add_lt_pw {i j : Int} {a : Nat} (h1 : i.natAbs < 2 ^ a) (h2 : j.natAbs < 2 ^ a) : (i + j).natAbs < 2 ^ (a + 1) := by
  rw [Nat.pow_succ]
  omega
theorem sub_lt_pw {i j : Int} {a : Nat} (h1 : i.natAbs < 2 ^ a) (h2 : j.natAbs < 2 ^ a) : (i - j).natAbs < 2 ^ (a + 1) := by
  rw [Nat.pow_succ]
  omega
theorem mulI {i j : Int} {a b : Nat} (h1 : i.natAbs < 2 ^ a) (h2 : j.natAbs < 2 ^ b) : (i * j).natAbs < 2 ^ (a + b) := by
  rw [Int.natAbs_mul]
  exact mul_lt_pw h1 h2
theorem natI {n b : Nat} (h : n < 2 ^ b) : (n : Int).natAbs < 2 ^ b := by
  rw [Int.natAbs_natCast]
  exact h
theorem Bq.add {a b c : Nat} {x y : Rat} (hx : Bq a x) (hy : Bq b y) (hc : a + b + 1 ≤ c) : Bq c (x + y) := by
  refine Bq.mono ?_ hc
  rw [radd]
  refine bq_div (Int.mul_pos (rden_pos x) (rden_pos y)) ?_ ?_
  · refine add_lt_pw (mulI hx.n (natI hy.d)) ?_
    rw [Nat.add_comm]
    exact mulI hy.n (natI hx.d)
  · exact Nat.lt_of_lt_of_le (mulI (natI hx.d) (natI hy.d)) (pw (by omega))
theorem Bq.sub {a b c : Nat} {x y : Rat} (hx : Bq a x) (hy : Bq b y) (hc : a + b + 1 ≤ c) : Bq c (x - y) := by
  refine Bq.mono ?_ hc
  rw [rsub]
  refine bq_div (Int.mul_pos (rden_pos x) (rden_pos y)) ?_ ?_
  · refine sub_lt_pw (mulI hx.n (natI hy.d)) ?_
    rw [Nat.add_comm]
    exact mulI hy.n (natI hx.d)
  · exact Nat.lt_of_lt_of_le (mulI (natI hx.d) (natI hy.d)) (pw (by omega))
theorem Bq.mul {a b c : Nat} {x y : Rat} (hx : Bq a x) (hy : Bq b y) (hc : a + b ≤ c) : Bq c (x * y) := by
  refine Bq.mono ?_ hc
  rw [rmul]
  exact bq_div (Int.mul_pos (rden_pos x) (rden_pos y)) (mulI hx.n hy.n) (mulI (natI hx.d) (natI hy.d))
theorem Bq.div {a b c : Nat} {x y : Rat} (hx : Bq a x) (hy : Bq b y) (p : 0 < y) (hc : a + b ≤ c) : Bq c (x / y) := by
  refine Bq.mono ?_ hc
  rw [rdiv]
  exact bq_div (Int.mul_pos (rden_pos x) (rnum_pos p)) (mulI hx.n (natI hy.d)) (mulI (natI hx.d) hy.n)
/-- a number over D, the number up to Z -/
def Sc (D Z : Nat) (x : Rat) : Prop := ∃ z : Int, x = Rat.divInt z (D : Int) ∧ z.natAbs ≤ Z
theorem Sc.mono {D Z Z' : Nat} {x : Rat} (h : Sc D Z x) (l : Z ≤ Z') : Sc D Z' x := by
  obtain ⟨z, e, b⟩ := h
  exact ⟨z, e, by omega⟩
theorem Sc.up {D Z : Nat} {x : Rat} (k : Nat) (k0 : 0 < k) (h : Sc D Z x) : Sc (k * D) (k * Z) x := by
  obtain ⟨z, e, b⟩ := h
  refine ⟨k * z, ?_, ?_⟩
  · rw [e, Int.natCast_mul, Rat.divInt_mul_left (by omega)]
  · rw [Int.natAbs_mul, Int.natAbs_natCast]
    exact Nat.mul_le_mul_left k b
theorem Sc.add {D Z Z' : Nat} {x y : Rat} (d0 : 0 < D) (h : Sc D Z x) (g : Sc D Z' y) : Sc D (Z + Z') (x + y) := by
  obtain ⟨z, e, b⟩ := h
  obtain ⟨z', e', b'⟩ := g
  refine ⟨z + z', ?_, by omega⟩
  rw [e, e', Rat.divInt_add_divInt _ _ (by omega) (by omega), ← Int.add_mul, Rat.divInt_mul_right (by omega)]
theorem Sc.sub {D Z Z' : Nat} {x y : Rat} (d0 : 0 < D) (h : Sc D Z x) (g : Sc D Z' y) : Sc D (Z + Z') (x - y) := by
  obtain ⟨z, e, b⟩ := h
  obtain ⟨z', e', b'⟩ := g
  refine ⟨z - z', ?_, by omega⟩
  rw [e, e', Rat.divInt_sub_divInt _ _ (by omega) (by omega), ← Int.sub_mul, Rat.divInt_mul_right (by omega)]
theorem Sc.mul {D D' Z Z' : Nat} {x y : Rat} (h : Sc D Z x) (g : Sc D' Z' y) : Sc (D * D') (Z * Z') (x * y) := by
  obtain ⟨z, e, b⟩ := h
  obtain ⟨z', e', b'⟩ := g
  refine ⟨z * z', ?_, ?_⟩
  · rw [e, e', Rat.divInt_mul_divInt, Int.natCast_mul]
  · rw [Int.natAbs_mul]
    exact Nat.mul_le_mul b b'
theorem Sc.bq {D Z b : Nat} {x : Rat} (h : Sc D Z x) (d0 : 0 < D) (hD : D < 2 ^ b) (hZ : Z < 2 ^ b) : Bq b x := by
  obtain ⟨z, e, l⟩ := h
  rw [e]
  exact bq_div (by omega) (by omega) (natI hD)
theorem Sc.of {n : Int} {D : Nat} : Sc D n.natAbs (Rat.divInt n (D : Int)) := ⟨n, rfl, Nat.le_refl _⟩
/-! what is outside -/
def half : Rat := Rat.divInt 1 2
theorem half_two : half + half = 1 := by
  unfold half
  rw [Rat.divInt_add_divInt _ _ (by decide) (by decide)]
  rfl
def sureR (m s l h : Rat) : Bool := decide (s ≤ (m - l) * (h - m))
def stepR (m s l h : Rat) : Rat := if h < m then half * (m - h) else if m < l then s / (l - m) + 1 else if m = h then (m - l) + 1 else half * ((m - l) + s / (h - m))
theorem half_pos : 0 < half := by
  have := half_two
  grind
theorem sure_law {m s l h : Rat} (s0 : 0 ≤ s) (lh : l ≤ h) : sureR m s l h = (decide (l ≤ m) && decide (m ≤ h) && decide (s ≤ (m - l) * (h - m))) := by
  by_cases h1 : l ≤ m
  · by_cases h2 : m ≤ h
    · simp [h1, h2, sureR]
    · have e : (m - l) * (h - m) < 0 := by
        have a : 0 < m - l := by grind
        have b : 0 < m - h := by grind
        have := Rat.mul_pos a b
        grind
      have : ¬ s ≤ (m - l) * (h - m) := by grind
      simp [h1, h2, sureR, this]
  · have e : (m - l) * (h - m) < 0 := by
      have a : 0 < l - m := by grind
      have b : 0 < h - m := by grind
      have := Rat.mul_pos a b
      grind
    have : ¬ s ≤ (m - l) * (h - m) := by grind
    simp [h1, sureR, this]
theorem div_nonneg' {s a : Rat} (s0 : 0 ≤ s) (a0 : 0 < a) : 0 ≤ s / a := by
  rw [Rat.div_def]
  exact Rat.mul_nonneg s0 (Rat.le_of_lt (Rat.inv_pos.mpr a0))
theorem div_pos' {s a : Rat} (s0 : 0 < s) (a0 : 0 < a) : 0 < s / a := by
  rw [Rat.div_def]
  exact Rat.mul_pos s0 (Rat.inv_pos.mpr a0)
theorem step_pos {m s l h : Rat} (s0 : 0 ≤ s) (ns : ¬ s ≤ (m - l) * (h - m)) : 0 < stepR m s l h := by
  unfold stepR
  split
  · exact Rat.mul_pos half_pos (by grind)
  · split
    · have a : 0 < l - m := by grind
      have := div_nonneg' s0 a
      grind
    · split
      · grind
      · have a : 0 < h - m := by grind
        have b := div_nonneg' s0 a
        by_cases c : m = l
        · subst c
          have : 0 < s := by grind
          have := div_pos' this a
          exact Rat.mul_pos half_pos (by grind)
        · exact Rat.mul_pos half_pos (by grind)
theorem step_low {m s l h : Rat} (s0 : 0 ≤ s) (lh : l ≤ h) (ns : ¬ s ≤ (m - l) * (h - m)) : ¬ (l ≤ m - stepR m s l h ∧ m - stepR m s l h ≤ h) := by
  have ht := half_two
  have hp := half_pos
  unfold stepR
  split
  · rename_i c
    have e : half * (m - h) + half * (m - h) = m - h := by
      rw [← Rat.add_mul, ht, Rat.one_mul]
    have := Rat.mul_pos hp (show 0 < m - h by grind)
    grind
  · split
    · rename_i c
      have a : 0 < l - m := by grind
      have := div_nonneg' s0 a
      grind
    · split
      · grind
      · rename_i c1 c2 c3
        have a : 0 < h - m := by grind
        have k : m - l < s / (h - m) := by
          rw [Rat.lt_div_iff a]
          grind
        have e : half * ((m - l) + s / (h - m)) + half * ((m - l) + s / (h - m)) = (m - l) + s / (h - m) := by
          rw [← Rat.add_mul, ht, Rat.one_mul]
        grind
theorem step_up {m s l h : Rat} (s0 : 0 ≤ s) (lh : l ≤ h) (ns : ¬ s ≤ (m - l) * (h - m)) : ¬ (l ≤ m + s / stepR m s l h ∧ m + s / stepR m s l h ≤ h) := by
  have ht := half_two
  have hp := half_pos
  have st := step_pos s0 ns
  have q := div_nonneg' s0 st
  by_cases c1 : h < m
  · grind
  · by_cases c2 : m < l
    · have e : stepR m s l h = s / (l - m) + 1 := by
        unfold stepR
        rw [if_neg c1, if_pos c2]
      rw [e] at st q ⊢
      have a : 0 < l - m := by grind
      have k : s / (s / (l - m) + 1) < l - m := by
        rw [Rat.div_lt_iff' st]
        have := Rat.div_mul_cancel (a := s) (b := l - m) (by grind)
        grind
      grind
    · by_cases c3 : m = h
      · have : 0 < s := by
          subst c3
          grind
        have := div_pos' this st
        grind
      · have e : stepR m s l h = half * ((m - l) + s / (h - m)) := by
          unfold stepR
          rw [if_neg c1, if_neg c2, if_neg c3]
        rw [e] at st q ⊢
        have a : 0 < h - m := by grind
        have k : m - l < s / (h - m) := by
          rw [Rat.lt_div_iff a]
          grind
        have e2 : half * ((m - l) + s / (h - m)) + half * ((m - l) + s / (h - m)) = (m - l) + s / (h - m) := by
          rw [← Rat.add_mul, ht, Rat.one_mul]
        have k2 : h - m < s / (half * ((m - l) + s / (h - m))) := by
          rw [Rat.lt_div_iff st]
          have e3 := Rat.div_mul_cancel (a := s) (b := h - m) (by grind)
          generalize hz : s / (h - m) = z at *
          generalize hy : half * (m - l + z) = y at *
          have : y < z := by grind
          have := Rat.mul_lt_mul_of_pos_left this a
          grind
        grind
theorem out_facts {m s t : Rat} (s0 : 0 ≤ s) (t0 : 0 < t) : 0 < t * t + s ∧ 0 ≤ s / (t * t + s) ∧ 0 ≤ 1 - s / (t * t + s) ∧ m - t ≤ m + s / t ∧
    s / (t * t + s) * (m - t) + (1 - s / (t * t + s)) * (m + s / t) = m ∧ (m + s / t - (m - t)) * (m + s / t - (m - t)) * (s / (t * t + s) * (1 - s / (t * t + s))) = s := by
  have p : 0 < t * t + s := by
    have := Rat.mul_pos t0 t0
    grind
  have q := div_nonneg' s0 p
  have q2 := div_nonneg' s0 t0
  have e1 := Rat.div_mul_cancel (a := s) (b := t * t + s) (by grind)
  have e2 := Rat.div_mul_cancel (a := s) (b := t) (by grind)
  refine ⟨p, q, ?_, by grind, ?_, ?_⟩
  · have : s / (t * t + s) ≤ 1 := by
      rw [Rat.div_def]
      have := Rat.mul_le_mul_of_nonneg_right (show s ≤ t * t + s by have := Rat.mul_pos t0 t0; grind) (Rat.le_of_lt (Rat.inv_pos.mpr p))
      rw [Rat.mul_inv_cancel _ (by grind)] at this
      exact this
    grind
  · generalize s / (t * t + s) = x at *
    generalize s / t = y at *
    have : x * (t + y) = y := by
      have : t * (x * (t + y)) = t * y := by grind
      have h : t⁻¹ * (t * (x * (t + y))) = t⁻¹ * (t * y) := by rw [this]
      rw [← Rat.mul_assoc t⁻¹ t, ← Rat.mul_assoc t⁻¹ t, Rat.inv_mul_cancel _ (by grind), Rat.one_mul, Rat.one_mul] at h
      exact h
    grind
  · generalize s / (t * t + s) = x at *
    generalize s / t = y at *
    have k : x * (t + y) = y := by
      have : t * (x * (t + y)) = t * y := by grind
      have h : t⁻¹ * (t * (x * (t + y))) = t⁻¹ * (t * y) := by rw [this]
      rw [← Rat.mul_assoc t⁻¹ t, ← Rat.mul_assoc t⁻¹ t, Rat.inv_mul_cancel _ (by grind), Rat.one_mul, Rat.one_mul] at h
      exact h
    grind
end V3
set_option exponentiation.threshold 10000
/-! Words that stand in many laws: the well of draws, what lasts while it changes, fractions as data. -/
namespace V3
open PySem.Spec PySem L2 PyProof.Rows RZ GxR
theorem take_more {α : Type} : ∀ {l : List α} {i : Nat} {x : α}, l[i]? = some x → (l.take (i + 1) = l.take i ++ [x])
  | [], i, x, h => by simp at h
  | a :: l, 0, x, h => by
    (have e : a = x := Option.some.inj h)
    subst e
    rfl
  | a :: l, i + 1, x, h => by
    (have ih := take_more (l := l) (i := i) (x := x) h)
    (show a :: l.take (i + 1) = a :: l.take i ++ [x])
    rw [ih]
    rfl
theorem ixNat {n : Nat} {k : Int} {i : Nat} (e : k = (i : Int)) (h : i < n) : ixN n k = some i := by
  subst e
  unfold ixN
  (rw [if_pos (by omega), if_pos (by omega)])
  simp
theorem same_updN {H H' : Hp} {p : Addr} {o : HO} (s : Same H H') (h : H p = none) : Same H (upd H' p o) := fun b x e => by
  rw [upd_ne (ne_of_none e h)]
  exact s b x e
theorem dtAll_set {K : PySem.W.Frag} {H : Hp} {v : V} {d : PyData} : ∀ {vs : List V} {ds : List PyData} (i : Nat), DpTAll K H vs ds → DpT K H v d → DpTAll K H (vs.set i v) (ds.set i d)
  | _, _, _, .nil, _ => .nil
  | _, _, 0, .cons a b, h => .cons h b
  | _, _, i + 1, .cons a b, h => .cons a (dtAll_set i b h)
theorem cutV_mem {xs : List V} {lo hi : Option Int} {x : V} (h : x ∈ cutV xs lo hi) : x ∈ xs := List.mem_of_mem_drop (List.mem_of_mem_take h)
theorem tyT {K : PySem.W.Frag} {H : Hp} {a : Addr} {xs : List V} (h : SqT K H a xs) : TyX K H (.ref a) (.type "tuple") := by
  rcases h with (h | ⟨o, h⟩) | ⟨o, its, n, h1, h2, _⟩
  · exact .base (.tup h)
  · exact .fTuple h
  · exact .kTuple h1 h2
theorem tyL {K : PySem.W.Frag} {H : Hp} {a : Addr} {xs : List V} (h : SqL K H a xs) : TyX K H (.ref a) (.type "list") := by
  rcases h with (h | ⟨o, h⟩) | ⟨o, its, n, h1, h2, _⟩
  · exact .base (.lst h)
  · exact .base (.frz h)
  · exact .kList h1 h2
theorem at20 {α : Type} {x y : α} : atI [x, y] 0 = some x := atI_nat (j := 0) rfl
theorem at21 {α : Type} {x y : α} : atI [x, y] 1 = some y := atI_nat (j := 1) rfl
theorem at32 {α : Type} {x y z : α} : atI [x, y, z] 2 = some z := atI_nat (j := 2) rfl
theorem at30 {α : Type} {x y z : α} : atI [x, y, z] 0 = some x := atI_nat (j := 0) rfl
theorem at31 {α : Type} {x y z : α} : atI [x, y, z] 1 = some y := atI_nat (j := 1) rfl
theorem eqv_nil (ds : List PyData) : PyData.eqv (.list ds) (.list []) = decide (ds = []) := by
  cases ds with
  | nil => rfl
  | cons a r => rfl
/-- an item of a list, a tuple, inside of a comprehension -/
theorem ixLK {X : Cx} {K : PySem.W.Frag} (h : X.K = K) : IxR X (rIxL K) := by
  subst h
  exact ix_list
theorem ixTK {X : Cx} {K : PySem.W.Frag} (h : X.K = K) : IxR X (rIxT K) := by
  subst h
  exact ix_tup
/-! ### the well -/
def Well (H : Hp) (a : Addr) (k : Nat) : Prop := ∃ x y z : Int, H a = some (.lst [.int x, .int y, .int z]) ∧ 0 ≤ x ∧ 0 ≤ y ∧ y < 2147483647 ∧ 0 ≤ z ∧ z ≤ k
theorem Well.mono {H : Hp} {a : Addr} {k l : Nat} (h : Well H a k) (hk : k ≤ l) : Well H a l := by
  obtain ⟨x, y, z, h1, h2, h3, h4, h5, h6⟩ := h
  exact ⟨x, y, z, h1, h2, h3, h4, h5, by omega⟩
theorem Well.same {H H' : Hp} {a : Addr} {k : Nat} (h : Well H a k) (e : Same H H') : Well H' a k := by
  obtain ⟨x, y, z, h1, h2⟩ := h
  exact ⟨x, y, z, e _ _ h1, h2⟩
theorem Well.lst {H : Hp} {a : Addr} {k : Nat} (h : Well H a k) : ∃ xs, H a = some (.lst xs) := by
  obtain ⟨x, y, z, h1, _⟩ := h
  exact ⟨_, h1⟩
theorem Well.ne {H : Hp} {a p : Addr} {k : Nat} (h : Well H a k) (e : H p = none) : a ≠ p := fun z => by
  obtain ⟨xs, hx⟩ := h.lst
  rw [z, e] at hx
  cases hx
theorem Well.upd {H : Hp} {a p : Addr} {o : HO} {k : Nat} (h : Well H a k) (n : a ≠ p) : Well (L2.upd H p o) a k := by
  obtain ⟨x, y, z, h1, h2⟩ := h
  exact ⟨x, y, z, by rw [upd_ne n]; exact h1, h2⟩
theorem But.upd {P : Addr} {H H' : Hp} {o : HO} (e : But P H H') : But P H (upd H' P o) := fun b x n h => by
  rw [upd_ne n]
  exact e b x n h
theorem But.updN {P p : Addr} {H H' : Hp} {o : HO} (e : But P H H') (h : H p = none) : But P H (L2.upd H' p o) := fun b x n hb => by
  rw [upd_ne (ne_of_none hb h)]
  exact e b x n hb
theorem But.ktL {P : Addr} {H H' : Hp} {xs : List V} (h : But P H H') (hP : H P = some (.lst xs)) : KeepT H H' :=
  ⟨fun b xs e => h b _ (fun z => by rw [z, hP] at e; cases e) e, fun b o u e => h b _ (fun z => by rw [z, hP] at e; cases e) e⟩
theorem But.ktW {a : Addr} {k : Nat} {H H' : Hp} (h : But a H H') (hP : Well H a k) : KeepT H H' := by
  obtain ⟨xs, e⟩ := hP.lst
  exact h.ktL e
/-! ### fractions as data -/
def frd (x : Rat) : PyData := .tuple [.int x.num, .int (x.den : Int)]
def frO (x : Rat) : HO := .tup [.int x.num, .int (x.den : Int)]
section
variable {K : PySem.W.Frag} {H H' : Hp}
theorem fqT {v : V} {x : Rat} (h : DpT K H v (frd x)) : ∃ p, v = .ref p ∧ SqT K H p [.int x.num, .int (x.den : Int)] := dpFr (q := (x.num, (x.den : Int))) h.dp
theorem fqO {p : Addr} {x : Rat} (h : H p = some (frO x)) : DpT K H (.ref p) (frd x) := .tup (SqT.of h) (.cons (.int _) (.cons (.int _) .nil))
theorem fqI {p : Addr} {x : Rat} {a b : Int} (h : H p = some (.tup [.int a, .int b])) (e1 : x.num = a) (e2 : (x.den : Int) = b) : DpT K H (.ref p) (frd x) := by
  subst e1 e2
  exact fqO h
theorem fqSame {v : V} {x : Rat} (h : DpT K H v (frd x)) (s : Same H H') : DpT K H' v (frd x) := DpT.keep (Same.kt s) h
theorem eqv_frd (x y : Rat) : PyData.eqv (frd x) (frd y) = decide (x = y) := by
  have h : (x = y) ↔ (x.num = y.num ∧ (x.den : Int) = (y.den : Int)) := by
    constructor
    · intro h
      subst h
      exact ⟨rfl, rfl⟩
    · rintro ⟨h1, h2⟩
      exact Rat.ext h1 (by omega)
  have h2 : PyData.eqv (frd x) (frd y) = decide (x.num = y.num ∧ (x.den : Int) = (y.den : Int)) := by
    unfold frd
    simp [PyData.eqv, PyData.eqvAll]
    rfl
  rw [h2, decide_eq_decide]
  exact h.symm
theorem shaped_frd (x : Rat) : SeqAt.shaped (frd x) = true := rfl
theorem shaped_frds (qs : List Rat) : SeqAt.shaped (.list (qs.map frd)) = true := by
  have h1 : ∀ qs : List Rat, PyData.canLayAll0 (qs.map frd) = true := fun qs => by
    induction qs with
    | nil => rfl
    | cons a r ih => simp only [List.map_cons, PyData.canLayAll0, PyData.canLay0, frd, ih, Bool.and_self]
  have h2 : ∀ qs : List Rat, PyData.depthAll (qs.map frd) ≤ 1 := fun qs => by
    induction qs with
    | nil => exact Nat.zero_le _
    | cons a r ih =>
      have e : PyData.depth (frd a) = 1 := rfl
      rw [List.map_cons, PyData.depthAll, e]
      omega
  have := h2 qs
  unfold SeqAt.shaped
  rw [Bool.and_eq_true, decide_eq_true_eq, PyData.depth]
  exact ⟨by rw [PyData.canLay0]; exact h1 qs, by omega⟩
theorem fqLen {vs : List V} {qs : List Rat} (h : DpTAll K H vs (qs.map frd)) : vs.length = qs.length := by rw [dtAll_len h, List.length_map]
theorem fqGet {vs : List V} {qs : List Rat} {i : Nat} {x : Rat} (h : DpTAll K H vs (qs.map frd)) (e : qs[i]? = some x) : ∃ v, vs[i]? = some v ∧ DpT K H v (frd x) := dtAll_get h (by rw [List.getElem?_map, e]; rfl)
theorem fqGetV {vs : List V} {qs : List Rat} {i : Nat} {v : V} (h : DpTAll K H vs (qs.map frd)) (e : vs[i]? = some v) : ∃ x, qs[i]? = some x ∧ DpT K H v (frd x) := by
  obtain ⟨d, hd, hdp⟩ := dtAll_getV h e
  rw [List.getElem?_map] at hd
  obtain ⟨x, hx, rfl⟩ := Option.map_eq_some_iff.mp hd
  exact ⟨x, hx, hdp⟩
end
/-! ### promises of reckoning -/
def spFrac : Sp := fun vs H Q _ => ∃ n u : Int, vs = [.int n, .int u] ∧ 0 < u ∧ u.natAbs < 2 ^ 9000 ∧ ∀ H' p, Same H H' → H' p = some (frO (Rat.divInt n u)) → Q (.ref p) H'
def spR2 (K : PySem.W.Frag) (f : Rat → Rat → Rat) (pre : Rat → Prop) : Sp := fun vs H Q _ => ∃ (v w : V) (x y : Rat), vs = [v, w] ∧ DpT K H v (frd x) ∧ DpT K H w (frd y) ∧ Bq 4000 x ∧ Bq 4000 y ∧ pre y ∧
  ∀ H' p, Same H H' → H' p = some (frO (f x y)) → Q (.ref p) H'
def spR2b (K : PySem.W.Frag) (f : Rat → Rat → Bool) : Sp := fun vs H Q _ => ∃ (v w : V) (x y : Rat), vs = [v, w] ∧ DpT K H v (frd x) ∧ DpT K H w (frd y) ∧ Bq 4000 x ∧ Bq 4000 y ∧ Q (.bl (f x y)) H
theorem mulW4 {i j : Int} (h : i.natAbs < 2 ^ 4000) (h' : j.natAbs < 2 ^ 4000) : CMulW i j := wide_mul h h' (by decide) (by decide) (by decide)
theorem sz4 {i j : Int} (h : i.natAbs < 2 ^ 4000) (h' : j.natAbs < 2 ^ 4000) : (i * j).natAbs < 2 ^ 9000 := Nat.lt_of_lt_of_le (mulI h h') (pw (by decide))
theorem gcdP {n u : Int} (h : 0 < u) : 0 < (Int.gcd n u : Int) := by
  have : 0 < Int.gcd n u := Int.gcd_pos_of_ne_zero_right n (by omega)
  omega
theorem gcdL {n u : Int} (h : 0 < u) : (Int.gcd n u : Int) ≤ u := Int.le_of_dvd h (Int.gcd_dvd_right ..)
/-- what makes a fraction is that number -/
theorem made {n u : Int} {H : Hp} {p : Addr} (h : 0 < u) (e : H p = some (.tup [.int (n / (Int.gcd n u : Int)), .int (u / (Int.gcd n u : Int))])) : H p = some (frO (Rat.divInt n u)) := by
  rw [e]
  unfold frO
  rw [dnum h, dden h]
end V3
namespace V3
open PySem.Spec PySem L2 PyProof.Rows RZ GxR
theorem pi_listK {X : Cx} {K : PySem.W.Frag} {tg l : Expr} {tl : TE} (h : X.K = K) (hl : PE X l tl) : PI X tg l (iList K tl) := by
  subst h
  exact pi_list hl
theorem pi_tupK {X : Cx} {K : PySem.W.Frag} {tg l : Expr} {tl : TE} (h : X.K = K) (hl : PE X l tl) : PI X tg l (iTup K tl) := by
  subst h
  exact pi_tup hl
end V3
/-! Rows of rational numbers: put in order, laced one with the other, the rows between. -/
namespace V3
abbrev SrtQ (l : List Rat) : Prop := l.Pairwise fun a b => b ≤ a
/-- x is not below e -/
def geQ (e x : Rat) : Bool := !decide (x < e)
theorem geQ_iff {e x : Rat} : geQ e x = true ↔ e ≤ x := by
  unfold geQ
  simp [Rat.not_lt]
def insQ : List Rat → Rat → List Rat
  | [], e => [e]
  | a :: r, e => if geQ e a = true then a :: insQ r e else e :: a :: r
def insAtQ (l : List Rat) (e : Rat) : List Rat := l.take (l.filter (geQ e)).length ++ [e] ++ l.drop (l.filter (geQ e)).length
theorem insAt_insQ : ∀ {l : List Rat} {e : Rat}, SrtQ l → insAtQ l e = insQ l e
  | [], e, _ => rfl
  | a :: r, e, h => by
    (obtain ⟨h1, h2⟩ := List.pairwise_cons.mp h)
    have ih := insAt_insQ (e := e) h2
    cases g : geQ e a with
    | true =>
      unfold insAtQ insQ
      rw [List.filter_cons_of_pos g, if_pos g, ← ih]
      rfl
    | false =>
      have hn : r.filter (geQ e) = [] := by
        rw [List.filter_eq_nil_iff]
        intro x hx c
        have c1 := geQ_iff.mp c
        have c2 := Rat.le_trans c1 (h1 x hx)
        rw [← geQ_iff, g] at c2
        cases c2
      unfold insAtQ insQ
      rw [List.filter_cons_of_neg (by rw [g]; simp), hn, if_neg (by rw [g]; simp)]
      rfl
theorem insQ_perm : ∀ (l : List Rat) (e : Rat), (insQ l e).Perm (e :: l)
  | [], e => .refl _
  | a :: r, e => by
    unfold insQ
    split
    · exact ((insQ_perm r e).cons a).trans (.swap _ _ _)
    · exact .refl _
theorem insQ_srt : ∀ {l : List Rat} {e : Rat}, SrtQ l → SrtQ (insQ l e)
  | [], e, _ => List.pairwise_singleton _ _
  | a :: r, e, h => by
    (obtain ⟨h1, h2⟩ := List.pairwise_cons.mp h)
    unfold insQ
    split
    · rename_i g
      refine List.pairwise_cons.mpr ⟨fun x hx => ?_, insQ_srt h2⟩
      rcases List.mem_cons.mp ((insQ_perm r e).mem_iff.mp hx) with rfl | hx
      · exact geQ_iff.mp g
      · exact h1 x hx
    · rename_i g
      have d : a ≤ e := by
        rw [geQ_iff] at g
        exact Rat.le_of_lt (Rat.not_le.mp g)
      refine List.pairwise_cons.mpr ⟨fun x hx => ?_, h⟩
      (rcases List.mem_cons.mp hx with rfl | hx)
      · exact d
      · exact Rat.le_trans (h1 x hx) d
def downQ (qs : List Rat) : List Rat := qs.foldl insAtQ []
theorem downQ_more {qs : List Rat} {i : Nat} {q : Rat} (h : qs[i]? = some q) : downQ (qs.take (i + 1)) = insAtQ (downQ (qs.take i)) q := by
  unfold downQ
  (rw [take_more h, List.foldl_append])
  rfl
theorem downQ_fold : ∀ (qs : List Rat) (l : List Rat), SrtQ l → (qs.foldl insAtQ l).Perm (l ++ qs) ∧ SrtQ (qs.foldl insAtQ l)
  | [], l, h => by
    rw [List.append_nil]
    exact ⟨.refl _, h⟩
  | q :: qs, l, h => by
    have e := insAt_insQ (e := q) h
    obtain ⟨k1, k2⟩ := downQ_fold qs (insAtQ l q) (by rw [e]; exact insQ_srt h)
    refine ⟨k1.trans ?_, k2⟩
    rw [e]
    exact ((insQ_perm l q).append_right qs).trans (List.perm_middle.symm)
theorem downQ_perm (qs : List Rat) : (downQ qs).Perm qs := (downQ_fold qs [] .nil).1
theorem downQ_srt (qs : List Rat) : SrtQ (downQ qs) := (downQ_fold qs [] .nil).2
theorem downQ_len (qs : List Rat) : (downQ qs).length = qs.length := (downQ_perm qs).length_eq
theorem downQ_mem {qs : List Rat} {x : Rat} : x ∈ downQ qs ↔ x ∈ qs := (downQ_perm qs).mem_iff
/-- the place i, 0 where there is none -/
abbrev gq (l : List Rat) (i : Nat) : Rat := l.getD i 0
theorem gq_of {l : List Rat} {i : Nat} {x : Rat} (h : l[i]? = some x) : gq l i = x := by
  unfold gq
  rw [List.getD_eq_getElem?_getD, h]
  rfl
theorem gq_get {l : List Rat} {i : Nat} (h : i < l.length) : l[i]? = some (gq l i) := by
  unfold gq
  rw [List.getD_eq_getElem?_getD, List.getElem?_eq_getElem h]
  rfl
theorem gq_mem {l : List Rat} {i : Nat} (h : i < l.length) : gq l i ∈ l := List.mem_of_getElem? (gq_get h)
theorem SrtQ.le {l : List Rat} (h : SrtQ l) {i j : Nat} (ij : i ≤ j) (hj : j < l.length) : gq l j ≤ gq l i := by
  rcases Nat.lt_or_eq_of_le ij with k | k
  · have hi : i < l.length := by omega
    have := List.pairwise_iff_getElem.mp h i j hi hj k
    rw [gq_of (List.getElem?_eq_getElem hi), gq_of (List.getElem?_eq_getElem hj)]
    exact this
  · subst k
    exact Rat.le_refl
theorem SrtQ.of {l : List Rat} (h : ∀ i, i + 1 < l.length → gq l (i + 1) ≤ gq l i) : SrtQ l := by
  have all : ∀ d i, i + d < l.length → gq l (i + d) ≤ gq l i := by
    intro d
    induction d with
    | zero => intro i _; exact Rat.le_refl
    | succ d ih =>
      intro i hi
      exact Rat.le_trans (h (i + d) (by omega)) (ih i (by omega))
  rw [SrtQ, List.pairwise_iff_getElem]
  intro i j hi hj k
  have := all (j - i) i (by omega)
  rw [show i + (j - i) = j by omega] at this
  rw [gq_of (List.getElem?_eq_getElem hi), gq_of (List.getElem?_eq_getElem hj)] at this
  exact this
/-- laced -/
def Lc (tops lows : List Rat) : Prop := ∀ i, i < lows.length → gq lows i ≤ gq tops i ∧ gq tops (i + (tops.length - lows.length)) ≤ gq lows i
def lacB (tops lows : List Rat) : Bool := (List.range lows.length).all fun i => !decide (gq tops i < gq lows i) && !decide (gq lows i < gq tops (i + (tops.length - lows.length)))
theorem lac_iff {tops lows : List Rat} : lacB tops lows = true ↔ Lc tops lows := by
  unfold lacB Lc
  rw [List.all_eq_true]
  constructor
  · intro h i hi
    (have := h i (List.mem_range.mpr hi))
    simpa [Rat.not_lt] using this
  · intro h i hi
    have := h i (List.mem_range.mp hi)
    simpa [Rat.not_lt] using this
def oppQ (l : List Rat) : List Rat := (l.map fun x => -x).reverse
theorem oppQ_len (l : List Rat) : (oppQ l).length = l.length := by
  unfold oppQ
  rw [List.length_reverse, List.length_map]
theorem oppQ_get {l : List Rat} {i : Nat} (h : i < l.length) : gq (oppQ l) i = -gq l (l.length - 1 - i) := by
  apply gq_of
  unfold oppQ
  rw [List.getElem?_reverse (by rw [List.length_map]; exact h), List.length_map, List.getElem?_map, gq_get (by omega)]
  rfl
theorem oppQ_srt {l : List Rat} (h : SrtQ l) : SrtQ (oppQ l) := SrtQ.of fun i hi => by
  rw [oppQ_len] at hi
  rw [oppQ_get (by omega), oppQ_get (by omega)]
  have := h.le (i := l.length - 1 - (i + 1)) (j := l.length - 1 - i) (by omega) (by omega)
  grind
theorem lac_opp {tops lows : List Rat} (l : lows.length ≤ tops.length) : lacB (oppQ tops) (oppQ lows) = lacB tops lows := by
  rw [Bool.eq_iff_iff, lac_iff, lac_iff]
  unfold Lc
  rw [oppQ_len, oppQ_len]
  constructor
  · intro h i hi
    obtain ⟨a, b⟩ := h (lows.length - 1 - i) (by omega)
    rw [oppQ_get (by omega), oppQ_get (by omega)] at a
    rw [oppQ_get (by omega), oppQ_get (by omega)] at b
    rw [show lows.length - 1 - (lows.length - 1 - i) = i by omega] at a b
    rw [show tops.length - 1 - (lows.length - 1 - i) = i + (tops.length - lows.length) by omega] at a
    rw [show tops.length - 1 - (lows.length - 1 - i + (tops.length - lows.length)) = i by omega] at b
    constructor <;> grind
  · intro h i hi
    obtain ⟨a, b⟩ := h (lows.length - 1 - i) (by omega)
    rw [oppQ_get (by omega), oppQ_get (by omega), oppQ_get (by omega)]
    rw [show lows.length - 1 - i + (tops.length - lows.length) = tops.length - 1 - i by omega] at b
    rw [show tops.length - 1 - (i + (tops.length - lows.length)) = lows.length - 1 - i by omega]
    constructor <;> grind
theorem Lc.trans {a b c : List Rat} (h : Lc a b) (k : Lc b c) (l1 : b.length ≤ a.length) (l2 : c.length ≤ b.length) : Lc a c := fun i hi => by
  obtain ⟨k1, k2⟩ := k i hi
  obtain ⟨h1, _⟩ := h i (by omega)
  obtain ⟨_, h2⟩ := h (i + (b.length - c.length)) (by omega)
  rw [show i + (b.length - c.length) + (a.length - b.length) = i + (a.length - c.length) by omega] at h2
  exact ⟨Rat.le_trans k1 h1, Rat.le_trans h2 k2⟩
/-- the row under: behind i others -/
def undV (now others : List Rat) (i j : Nat) : Rat := if now.length - 1 - others.length ≤ j ∧ j - (now.length - 1 - others.length) < i ∧ gq others (j - (now.length - 1 - others.length)) < gq now j then gq others (j - (now.length - 1 - others.length)) else gq now j
def undI (now others : List Rat) (i : Nat) : List Rat := (List.range (now.length - 1)).map (undV now others i)
theorem undI_len (now others : List Rat) (i : Nat) : (undI now others i).length = now.length - 1 := by
  unfold undI
  (rw [List.length_map, List.length_range])
theorem undI_get {now others : List Rat} {i j : Nat} (h : j < now.length - 1) : gq (undI now others i) j = undV now others i j := by
  apply gq_of
  unfold undI
  rw [List.getElem?_map, List.getElem?_range h]
  rfl
theorem list_ext {a b : List Rat} (l : a.length = b.length) (h : ∀ i, i < a.length → gq a i = gq b i) : a = b := by
  apply List.ext_getElem? 
  intro i
  by_cases c : i < a.length
  · rw [gq_get c, gq_get (by omega), h i c]
  · rw [List.getElem?_eq_none (by omega), List.getElem?_eq_none (by omega)]
theorem undI_zero (now others : List Rat) : undI now others 0 = now.take (now.length - 1) := by
  apply list_ext
  · rw [undI_len, List.length_take]
    omega
  · intro i hi
    rw [undI_len] at hi
    rw [undI_get hi]
    have : gq (now.take (now.length - 1)) i = gq now i := by
      apply gq_of
      rw [List.getElem?_take_of_lt (by omega), gq_get (by omega)]
    rw [this]
    unfold undV
    rw [if_neg (by omega)]
theorem gq_set {l : List Rat} {i j : Nat} {x : Rat} (h : j < l.length) : gq (l.set i x) j = if i = j then x else gq l j := by
  apply gq_of
  rw [List.getElem?_set]
  split
  · rename_i e
    subst e
    rw [if_pos h]
  · exact gq_get h
/-- where the other one is below, it is put there -/
theorem undI_more {now others : List Rat} {i : Nat} (hi : i < others.length) (hl : others.length + 1 ≤ now.length) :
    undI now others (i + 1) = if gq others i < gq (undI now others i) (i + (now.length - 1 - others.length)) then (undI now others i).set (i + (now.length - 1 - others.length)) (gq others i) else undI now others i := by
  have e0 : gq (undI now others i) (i + (now.length - 1 - others.length)) = gq now (i + (now.length - 1 - others.length)) := by
    rw [undI_get (by omega)]
    unfold undV
    rw [if_neg (by omega)]
  rw [e0]
  split
  · rename_i c
    apply list_ext
    · rw [List.length_set, undI_len, undI_len]
    · intro j hj
      rw [undI_len] at hj
      rw [gq_set (by rw [undI_len]; exact hj), undI_get hj, undI_get hj]
      unfold undV
      split
      · rename_i h1
        split
        · rename_i h2
          congr 1
          omega
        · rename_i h2
          rw [if_pos ⟨h1.1, by omega, h1.2.2⟩]
      · rename_i h1
        split
        · rename_i h2
          exfalso
          apply h1
          rw [← h2]
          exact ⟨by omega, by omega, by rw [show i + (now.length - 1 - others.length) - (now.length - 1 - others.length) = i by omega]; exact c⟩
        · rename_i h2
          rw [if_neg fun z => h1 ⟨z.1, by omega, z.2.2⟩]
  · rename_i c
    apply list_ext
    · rw [undI_len, undI_len]
    · intro j hj
      rw [undI_len] at hj
      rw [undI_get hj, undI_get hj]
      unfold undV
      split
      · rename_i h1
        by_cases h2 : j - (now.length - 1 - others.length) = i
        · exfalso
          apply c
          rw [← h2, show j - (now.length - 1 - others.length) + (now.length - 1 - others.length) = j by omega]
          exact h1.2.2
        · rw [if_pos ⟨h1.1, by omega, h1.2.2⟩]
      · rename_i h1
        rw [if_neg fun z => h1 ⟨z.1, by omega, z.2.2⟩]
def undR (now others : List Rat) : List Rat := undI now others others.length
theorem undR_get {now others : List Rat} {j : Nat} (h : j < now.length - 1) (hl : others.length + 1 ≤ now.length) : gq (undR now others) j = if now.length - 1 - others.length ≤ j ∧ gq others (j - (now.length - 1 - others.length)) < gq now j then gq others (j - (now.length - 1 - others.length)) else gq now j := by
  unfold undR
  rw [undI_get h]
  unfold undV
  by_cases c : now.length - 1 - others.length ≤ j
  · have : j - (now.length - 1 - others.length) < others.length := by omega
    simp [c, this]
  · rw [if_neg fun z => c z.1, if_neg fun z => c z.1]
theorem undR_len (now others : List Rat) : (undR now others).length = now.length - 1 := undI_len _ _ _
theorem undR_mem {now others : List Rat} {x : Rat} (hl : others.length + 1 ≤ now.length) (h : x ∈ undR now others) : x ∈ now ∨ x ∈ others := by
  obtain ⟨j, hj⟩ := List.getElem?_of_mem h
  have lj := (List.getElem?_eq_some_iff.mp hj).1
  rw [undR_len] at lj
  have e := gq_of hj
  rw [undR_get lj hl] at e
  split at e
  · exact .inr (e ▸ gq_mem (by omega))
  · exact .inl (e ▸ gq_mem (by omega))
theorem undR_ok {now others : List Rat} (sn : SrtQ now) (so : SrtQ others) (lc : Lc now others) (hl : others.length + 2 ≤ now.length) : SrtQ (undR now others) ∧ Lc now (undR now others) ∧ Lc (undR now others) others := by
  obtain ⟨st, hst⟩ : ∃ st, st = now.length - 1 - others.length := ⟨_, rfl⟩
  have g : ∀ j, j < now.length - 1 → gq (undR now others) j = if st ≤ j ∧ gq others (j - st) < gq now j then gq others (j - st) else gq now j := fun j hj => by
    rw [undR_get hj (by omega), ← hst]
  have lo : ∀ j, st ≤ j → j < now.length - 1 → gq now (j + 1) ≤ gq others (j - st) := fun j h1 h2 => by
    have := (lc (j - st) (by omega)).2
    rw [show j - st + (now.length - others.length) = j + 1 by omega] at this
    exact this
  refine ⟨SrtQ.of fun i hi => ?_, fun i hi => ?_, fun i hi => ?_⟩
  · rw [undR_len] at hi
    rw [g (i + 1) (by omega), g i (by omega)]
    have n1 := sn.le (i := i) (j := i + 1) (by omega) (by omega)
    have o1 : st ≤ i → gq others (i + 1 - st) ≤ gq others (i - st) := fun h => so.le (by omega) (by omega)
    have l1 : st ≤ i → gq now (i + 1) ≤ gq others (i - st) := fun h => lo i h (by omega)
    by_cases c : st ≤ i
    · have o2 := o1 c
      have l2 := l1 c
      have c' : st ≤ i + 1 := by omega
      simp only [c, c', true_and]
      split <;> split <;> grind
    · rw [if_neg (c := st ≤ i ∧ _) fun z => c z.1]
      split <;> grind
  · rw [undR_len] at hi
    rw [undR_len, show now.length - (now.length - 1) = 1 by omega, g i hi]
    have n1 := sn.le (i := i) (j := i + 1) (by omega) (by omega)
    split
    · rename_i c
      exact ⟨Rat.le_of_lt c.2, lo i c.1 hi⟩
    · exact ⟨Rat.le_refl, n1⟩
  · rw [undR_len]
    rw [show now.length - 1 - others.length = st by omega, g i (by omega), g (i + st) (by omega)]
    have a := (lc i hi).1
    have o1 : st ≤ i → gq others i ≤ gq others (i - st) := fun h => so.le (by omega) hi
    rw [show i + st - st = i by omega]
    constructor
    · split
      · rename_i c
        exact o1 c.1
      · exact a
    · split
      · exact Rat.le_refl
      · rename_i c
        exact Rat.not_lt.mp fun z => c ⟨by omega, z⟩
/-- a row of so many numbers, the greatest first -/
structure Rw (n : Nat) (q : List Rat) : Prop where
  len : q.length = n
  srt : SrtQ q
  bq : ∀ x ∈ q, Bq 100 x
theorem Rw.opp {n : Nat} {q : List Rat} (h : Rw n q) : Rw n (oppQ q) := ⟨by rw [oppQ_len]; exact h.len, oppQ_srt h.srt, fun x hx => by
  unfold oppQ at hx
  obtain ⟨y, hy, rfl⟩ := List.mem_map.mp (List.mem_reverse.mp hx)
  have := h.bq y hy
  exact ⟨by rw [Rat.neg_num, Int.natAbs_neg]; exact this.n, by rw [Rat.neg_den]; exact this.d⟩⟩
/-- the rows between, so far as they are made -/
structure Ch (tops lows : List Rat) (rows : List (List Rat)) : Prop where
  few : rows.length + lows.length < tops.length
  each : ∀ k, k ≤ rows.length → Rw (tops.length - k) ((tops :: rows).getD k []) ∧ Lc ((tops :: rows).getD k []) lows ∧ ∀ j, j < k → Lc ((tops :: rows).getD j []) ((tops :: rows).getD k [])
theorem getD_app {α : Type} {l : List α} {x d : α} {k : Nat} (h : k < l.length) : (l ++ [x]).getD k d = l.getD k d := by
  rw [List.getD_eq_getElem?_getD, List.getD_eq_getElem?_getD, List.getElem?_append_left h]
theorem getD_last {α : Type} {l : List α} {x d : α} : (l ++ [x]).getD l.length d = x := by
  rw [List.getD_eq_getElem?_getD, List.getElem?_append_right (Nat.le_refl _), Nat.sub_self]
  rfl
theorem Ch.more {tops lows : List Rat} {rows : List (List Rat)} {m : Nat} (h : Ch tops lows rows) (rl : Rw m lows) (more : lows.length + 1 < tops.length - rows.length) : Ch tops lows (rows ++ [undR ((tops :: rows).getD rows.length []) lows]) := by
  obtain ⟨r, lc, _⟩ := h.each rows.length (Nat.le_refl _)
  obtain ⟨now, hn⟩ : ∃ now, now = (tops :: rows).getD rows.length [] := ⟨_, rfl⟩
  rw [← hn] at r lc ⊢
  have ln := r.len
  obtain ⟨s1, l1, l2⟩ := undR_ok r.srt rl.srt lc (by omega)
  have hc : tops :: (rows ++ [undR now lows]) = (tops :: rows) ++ [undR now lows] := rfl
  refine ⟨by rw [List.length_append, List.length_singleton]; omega, fun k hk => ?_⟩
  rw [List.length_append, List.length_singleton] at hk
  rw [hc]
  by_cases e : k ≤ rows.length
  · rw [getD_app (by rw [List.length_cons]; omega)]
    obtain ⟨a, b, c⟩ := h.each k e
    exact ⟨a, b, fun j hj => by rw [getD_app (by rw [List.length_cons]; omega)]; exact c j hj⟩
  · have ek : k = (tops :: rows).length := by rw [List.length_cons]; omega
    subst ek
    rw [getD_last]
    refine ⟨⟨by rw [undR_len, ln, List.length_cons]; omega, s1, fun x hx => ?_⟩, l2, fun j hj => ?_⟩
    · rcases undR_mem (by omega) hx with z | z
      · exact r.bq x z
      · exact rl.bq x z
    · rw [getD_app hj]
      rw [List.length_cons] at hj
      by_cases ej : j = rows.length
      · rw [ej, ← hn]
        exact l1
      · obtain ⟨rj, _, _⟩ := h.each j (by omega)
        obtain ⟨_, _, c⟩ := h.each rows.length (Nat.le_refl _)
        have cj := c j (by omega)
        rw [← hn] at cj
        have lj := rj.len
        exact cj.trans l1 (by omega) (by rw [undR_len]; omega)
theorem Ch.start {tops lows : List Rat} {n : Nat} (rt : Rw n tops) (lc : Lc tops lows) (few : lows.length < tops.length) : Ch tops lows [] := ⟨by simpa using few, fun k hk => by
  have : k = 0 := by simpa using hk
  subst this
  refine ⟨⟨rfl, rt.srt, rt.bq⟩, lc, fun j hj => by omega⟩⟩
end V3
/-! A generator expression whose tests and element may call defs: its frame and the bareness of the other generators are known. -/
namespace V3
open PySem.Spec PySem L2 PyProof.Rows GxR
section
variable {w : World} {prog : Program} {A : Around}
abbrev testsOf (ifs : List Expr) (ce : Env) : Sem Bool := forIn ifs true fun c r => if r = true then do let ok ← isTrue c ce (eval c ce); pure (ForInStep.yield ok) else pure (ForInStep.yield r)
/-- what stood is kept, of the frames fs all but the slots -/
def KM (fs : List Addr) (h h' : Heap) : Prop := ∀ b o, h.get? b = some o → (b ∉ fs → h'.get? b = some o) ∧ ∃ sl, h'.get? b = some { o with slots := sl }
theorem KM.trans {fs : List Addr} {h h1 h2 : Heap} (p : KM fs h h1) (q : KM fs h1 h2) : KM fs h h2 := fun b o it => by
  obtain ⟨p1, sl, p2⟩ := p b o it
  obtain ⟨_, sl2, q2⟩ := q b _ p2
  exact ⟨fun nf => (q b o (p1 nf)).1 nf, sl2, q2⟩
theorem KM.exact {fs : List Addr} {h h1 : Heap} (k : ∀ b o, h.get? b = some o → h1.get? b = some o) : KM fs h h1 := fun b o it => ⟨fun _ => k b o it, o.slots, k b o it⟩
theorem KM.ns {fs : List Addr} {h h1 : Heap} {C : Addr} {mp : Str → Option Value} (k : KM fs h h1) (n : h.Ns C mp) : h1.Ns C mp := by
  obtain ⟨o, es, ep, at_, dat, more⟩ := n
  obtain ⟨_, sl, q⟩ := k C o at_
  exact ⟨_, es, ep, q, dat, more⟩
/-- .. and other generators may be new -/
structure KeptG (fs : List Addr) (t t' : Shared) : Prop where
  os : t'.os = t.os
  bare : AllBare t'.gens
  heap : KM fs t.heap t'.heap
/-- .. but for the generator's own frame and what its iterator writes -/
structure SinceG (C : Addr) (wr fs : List Addr) (t t' : Shared) : Prop where
  os : t'.os = t.os
  bare : AllBare t'.gens
  size : t.gens.size ≤ t'.gens.size
  heap : ∀ b o, b ≠ C → b ∉ wr → t.heap.get? b = some o → (b ∉ fs → t'.heap.get? b = some o) ∧ ∃ sl, t'.heap.get? b = some { o with slots := sl }
theorem SinceG.refl {C : Addr} {wr fs : List Addr} {t : Shared} (b : AllBare t.gens) : SinceG C wr fs t t := ⟨rfl, b, Nat.le_refl _, fun _ o _ _ it => ⟨fun _ => it, o.slots, it⟩⟩
theorem SinceG.step {C : Addr} {wr fs : List Addr} {t t' : Shared} {hp : Heap} {tk : Nat} (h : SinceG C wr fs t t') (k : ∀ b o, b ≠ C → b ∉ wr → t'.heap.get? b = some o → hp.get? b = some o) : SinceG C wr fs t { t' with heap := hp, toks := tk } :=
  ⟨h.os, h.bare, h.size, fun b o nc nw it => by
    obtain ⟨p1, sl, p2⟩ := h.heap b o nc nw it
    exact ⟨fun nf => k b o nc nw (p1 nf), sl, k b _ nc nw p2⟩⟩
theorem SinceG.more {C : Addr} {wr fs : List Addr} {t t1 t2 : Shared} (h : SinceG C wr fs t t1) (z : t1.gens.size ≤ t2.gens.size) (k : KeptG fs t1 t2) : SinceG C wr fs t t2 :=
  ⟨k.os.trans h.os, k.bare, Nat.le_trans h.size z, fun b o nc nw it => by
    obtain ⟨p1, sl, p2⟩ := h.heap b o nc nw it
    obtain ⟨_, sl2, q2⟩ := k.heap b _ p2
    exact ⟨fun nf => (k.heap b o (p1 nf)).1 nf, sl2, q2⟩⟩
/-- what was there when the generator was made -/
def KeptO (old wr fs : List Addr) (ref h : Heap) : Prop := ∀ b ∈ old, b ∉ wr → ∀ o, ref.get? b = some o → (b ∉ fs → h.get? b = some o) ∧ ∃ sl, h.get? b = some { o with slots := sl }
theorem KeptO.exact {old wr fs : List Addr} {ref h h1 : Heap} (p : KeptO old wr fs ref h) (k : ∀ b ∈ old, b ∉ wr → ∀ o, h.get? b = some o → h1.get? b = some o) : KeptO old wr fs ref h1 := fun b hb nw o it => by
  obtain ⟨p1, sl, p2⟩ := p b hb nw o it
  exact ⟨fun nf => k b hb nw o (p1 nf), sl, k b hb nw _ p2⟩
theorem KeptO.km {old wr fs : List Addr} {ref h h1 : Heap} (p : KeptO old wr fs ref h) (k : KM fs h h1) : KeptO old wr fs ref h1 := fun b hb nw o it => by
  obtain ⟨p1, sl, p2⟩ := p b hb nw o it
  obtain ⟨_, sl2, q2⟩ := k b _ p2
  exact ⟨fun nf => (k b o (p1 nf)).1 nf, sl2, q2⟩
/-- what is asked of the tests and of the element at each thing that is walked -/
structure QuietF (prog : Program) (w : World) (ce : Env) (x : Str) (ifs : List Expr) (elt : Expr) (old wr fs : List Addr) (Dr : Nat → Value → Prop) (pz : Nat → Bool) (F : Nat → Value → Prop) (ref : Heap) (fr : Option (List Env)) (D U : Nat) : Prop where
  tests : ∀ (B : Around) Ex i v (t : Shared) mp, B.handled = none → B.frames = fr → B.depth ≤ D → B.units ≤ U → AllBare t.gens → Dr i v → t.heap.Ns ce.locals mp → mp x = some v → KeptO old wr fs ref t.heap →
    wpAny (model prog w) B (testsOf ifs ce) (fun ok t' => ok = pz i ∧ KeptG fs t t') Ex t
  elt : ∀ (B : Around) Ex i v (t : Shared) mp, B.handled = none → B.frames = fr → B.depth ≤ D → B.units ≤ U → AllBare t.gens → Dr i v → pz i = true → t.heap.Ns ce.locals mp → mp x = some v → KeptO old wr fs ref t.heap →
    wpAny (model prog w) B (eval elt ce) (fun y t' => F i y ∧ KeptG fs t t') Ex t
/-- what the walker may count on from one thing to the next -/
def protoB (C : Addr) (fp old wr fs : List Addr) (pz : Nat → Bool) (n : Nat) (F : Nat → Value → Prop) : Protocol := fun left t0 v t go =>
  (∃ i, (passing pz n 0)[(passing pz n 0).length - 1 - left]? = some i ∧ F i v) ∧ SinceG C wr fs t0 t ∧
    ∀ u : Shared, (∀ b ∈ C :: (fp ++ old), ∀ o, t.heap.get? b = some o → u.heap.get? b = some o) → AllBare u.gens → go (.send .none) u
abbrev endB (C : Addr) (wr fs : List Addr) : GenEnd := fun n t0 r t1 => r = .ok .next ∧ (n = 0 ∧ SinceG C wr fs t0 t1)
abbrev loopC (elt : Expr) (x : Str) (px : Pos) (iter : Expr) (ifs : List Expr) (scope : Scope) (pos : Pos) (I : Addr) (ce : Env) : Code := .compLoop (.GeneratorExp elt [⟨.Name x px, iter, ifs, 0⟩] scope pos) 0 (.ref I) .none ce
abbrev startC (elt : Expr) (x : Str) (px : Pos) (iter : Expr) (ifs : List Expr) (scope : Scope) (pos : Pos) (I : Addr) (ce : Env) : Code := .compStart (.GeneratorExp elt [⟨.Name x px, iter, ifs, 0⟩] scope pos) 0 (.ref I) .none ce
theorem seg_loopF {elt iter : Expr} {x : Str} {px : Pos} {ifs : List Expr} {scope : Scope} {pos : Pos} {I : Addr} {fp old wr fs : List Addr} {n : Nat} {Dr : Nat → Value → Prop} {St : Nat → Heap → Prop} {ce : Env} {fr : Option (List Env)}
    (quiet0 : A.handled = none) (frA : (A.over (loopC elt x px iter ifs scope pos I ce) []).frames = fr) (Wk : ∀ B : Around, B.handled = none → Walks prog w B I fp wr n Dr St) (pz : Nat → Bool) (F : Nat → Value → Prop) (ref : Heap)
    (kx : ce.kindOf x = some .local) (plain : (ce.scope.kind == .class || (ce.scope.kind == .module && ce.locals != ce.globals)) = false)
    (noco : ce.scope.isCoroutine = false) (apart : ce.locals ∉ fp) (apartO : ce.locals ∉ old) (sepF : ∀ b ∈ fp, b ∉ fs) (hQ : QuietF prog w ce x ifs elt old wr fs Dr pz F ref fr (A.depth + 1) (A.units + 3)) :
    ∀ (k i : Nat) (t0 t : Shared) (mp : Str → Option Value), n - i = k → i ≤ n → St i t.heap → t.heap.Ns ce.locals mp → SinceG ce.locals wr fs t0 t →
      KeptO old wr fs ref t.heap →
      Seg (model prog w) A (endB ce.locals wr fs) (protoB ce.locals fp old wr fs pz n F) (passing pz n i).length t0 (loopC elt x px iter ifs scope pos I ce) ((model prog w).den (loopC elt x px iter ifs scope pos I ce)) [] t := by
  have q0 : (A.over (loopC elt x px iter ifs scope pos I ce) []).handled = none := quiet0
  have qd : (A.over (loopC elt x px iter ifs scope pos I ce) []).depth ≤ A.depth + 1 := Nat.le_of_eq rfl
  have qu : (A.over (loopC elt x px iter ifs scope pos I ce) []).units ≤ A.units + 3 := Nat.le_of_eq rfl
  have offW : ce.locals ∉ wr := fun z => apart ((Wk A quiet0).sub _ z)
  intro k
  induction k with
  | zero =>
    intro i t0 t mp ek il st ns since kept
    obtain rfl : i = n := by omega
    show Seg _ A _ _ _ t0 _ ((compTurn (.GeneratorExp elt [⟨.Name x px, iter, ifs, 0⟩] scope pos) 0 (.ref I) .none ce).onRaise (leaving ce)) [] t
    (rw [compTurn_gen, Sem.onRaise_eq_wrap])
    (refine seg_bind_wrap (wpAny_standAt ?_))
    refine seg_bind_wrap ((Wk _ q0).done t _ _ st fun hp tk stay => ?_)
    exact seg_end (.ok .next) ⟨rfl, by rw [passing_end]; rfl, since.step fun b o _ nw it => stay b o nw it⟩
  | succ k again =>
    intro i t0 t mp ek il st ns since kept
    have more : i < n := by omega
    show Seg _ A _ _ _ t0 _ ((compTurn (.GeneratorExp elt [⟨.Name x px, iter, ifs, 0⟩] scope pos) 0 (.ref I) .none ce).onRaise (leaving ce)) [] t
    (rw [compTurn_gen, Sem.onRaise_eq_wrap])
    (refine seg_bind_wrap (wpAny_standAt ?_))
    refine seg_bind_wrap ((Wk _ q0).item i t _ _ more st fun v ha ta drawn sta ka => ?_)
    (refine seg_bind_wrap (wpAny_of_eq (rfl : letOwnedTupleGo (.Name x px) (.ref I) v = pure ()) ?_))
    refine seg_bind_wrap (wpAny_assign_Name (wpAny_storeName_local kx (ns.at' fun o it => ka _ o offW it) (fun hb nsb sb => ?_) plain))
    have stayB : ∀ b o, b ≠ ce.locals → b ∉ wr → t.heap.get? b = some o → hb.get? b = some o := fun b o nc nw it => sb.extBut b o nc (ka b o nw it)
    have stb : St (i + 1) hb := (Wk A quiet0).frame _ _ _ sta fun b hm o it => sb.extBut b o (fun z => apart (z ▸ hm)) it
    have keptB : KeptO old wr fs ref hb := kept.exact fun b hm nw o it => stayB b o (fun z => apartO (z ▸ hm)) nw it
    have bareT : AllBare t.gens := since.bare
    refine seg_bind_wrap (GenW.wpAny_gsz (n := t.gens.size) (Nat.le_refl _) (wpAny_mono (hQ.tests _ _ i v _ _ q0 frA qd qu bareT drawn nsb (by simp) keptB) (fun ok tc kc szc => ?_) fun _ _ z => z))
    obtain ⟨rfl, kc⟩ := kc
    have stc : St (i + 1) tc.heap := (Wk A quiet0).frame _ _ _ stb fun b hm o it => (kc.heap b o it).1 (sepF b hm)
    have nsc := kc.heap.ns nsb
    have sinceC : SinceG ce.locals wr fs t0 tc := (since.step stayB).more szc kc
    cases ep : pz i with
    | false =>
      rw [passing_false more ep]
      (simp only [Bool.false_eq_true, if_false])
      exact seg_again rfl (again (i + 1) t0 _ _ (by omega) more stc nsc sinceC (keptB.km kc.heap))
    | true =>
      rw [passing_true more ep, List.length_cons]
      simp only [if_true]
      have out : ∀ v, yieldOut ce v = yieldValue v := fun v => by simp only [yieldOut, noco, Bool.false_eq_true, if_false]
      simp only [out]
      (rw [Sem.bind_eq_wrap', Sem.bind_eq_wrap', Sem.wrap_wrap, Sem.wrap_wrap])
      refine seg_wrap (GenW.wpAny_gsz (n := tc.gens.size) (Nat.le_refl _) (wpAny_mono (hQ.elt _ _ i v _ _ q0 frA qd qu sinceC.bare drawn ep nsc (by simp) (keptB.km kc.heap)) (fun y td hd szd => ?_) fun _ _ z => z))
      obtain ⟨fy, kd⟩ := hd
      refine seg_at (seg_yield rfl rfl rfl ⟨⟨i, passing_here more ep, fy⟩, sinceC.more szd kd, fun u hal bu => ?_⟩)
      refine seg_again rfl (again (i + 1) u u _ (by omega) more ((Wk A quiet0).frame _ _ _ stc fun b hm o it => hal b (List.mem_cons_of_mem _ (List.mem_append_left _ hm)) o ((kd.heap b o it).1 (sepF b hm)))
        ((kd.heap.ns nsc).at' fun o it => hal _ (List.mem_cons_self ..) o it) (SinceG.refl bu) (((keptB.km kc.heap).km kd.heap).exact fun b hm _ o it => hal b (List.mem_cons_of_mem _ (List.mem_append_right _ hm)) o it))
theorem seg_startF {elt iter : Expr} {x : Str} {px : Pos} {ifs : List Expr} {scope : Scope} {pos : Pos} {I : Addr} {fp old wr fs : List Addr} {n : Nat} {Dr : Nat → Value → Prop} {St : Nat → Heap → Prop} {ce : Env} {fr : Option (List Env)}
    (quiet0 : A.handled = none) (frA : (A.over (loopC elt x px iter ifs scope pos I ce) []).frames = fr) (Wk : ∀ B : Around, B.handled = none → Walks prog w B I fp wr n Dr St) (pz : Nat → Bool) (F : Nat → Value → Prop) (ref : Heap)
    (kx : ce.kindOf x = some .local) (plain : (ce.scope.kind == .class || (ce.scope.kind == .module && ce.locals != ce.globals)) = false)
    (noco : ce.scope.isCoroutine = false) (apart : ce.locals ∉ fp) (apartO : ce.locals ∉ old) (sepF : ∀ b ∈ fp, b ∉ fs) (hQ : QuietF prog w ce x ifs elt old wr fs Dr pz F ref fr (A.depth + 1) (A.units + 3))
    (t0 t : Shared) (mp : Str → Option Value) (st : St 0 t.heap) (ns : t.heap.Ns ce.locals mp) (since : SinceG ce.locals wr fs t0 t) (kept : KeptO old wr fs ref t.heap) :
    Seg (model prog w) A (endB ce.locals wr fs) (protoB ce.locals fp old wr fs pz n F) (passing pz n 0).length t0 (startC elt x px iter ifs scope pos I ce) ((model prog w).den (startC elt x px iter ifs scope pos I ce)) [] t := by
  have q0 : (A.over (startC elt x px iter ifs scope pos I ce) []).handled = none := quiet0
  have lp := seg_loopF (iter := iter) (px := px) (scope := scope) (pos := pos) quiet0 frA Wk pz F ref kx plain noco apart apartO sepF hQ n 0 t0 t mp (Nat.sub_zero _) (Nat.zero_le _) st ns since kept
  show Seg _ A _ _ _ t0 _ ((compStart (.GeneratorExp elt [⟨.Name x px, iter, ifs, 0⟩] scope pos) 0 (.ref I) .none ce).onRaise (leaving ce)) [] t
  unfold compStart
  rw [Sem.onRaise_eq_wrap]
  show Seg _ A _ _ _ t0 _ ((ask >>= _).wrap _ _ _ _) [] t
  (refine seg_bind_wrap (wpAny_askSetting ?_))
  split
  · exact seg_again rfl lp
  · first
      | exact seg_bind_wrap (wpAny_rule (seg_bind_wrap (wpAny_standAt (seg_bind_wrap ((Wk _ q0).self 0 t _ _ st (seg_again rfl lp))))))
      | (refine seg_bind_wrap (wpAny_rule ?_)
         show Seg _ A _ _ _ t0 _ ((standAt iter.pos >>= _).wrap _ _ _ _) [] t
         exact seg_bind_wrap (wpAny_standAt (seg_bind_wrap ((Wk _ q0).self 0 t _ _ st (seg_again rfl lp)))))
end
end V3
namespace V3
open PySem.Spec PySem L2 PyProof.Rows GxR
theorem bare_set {t : Shared} {g : Nat} {gs : GenState} (b : AllBare t.gens) (hg : gs.bare = true) : AllBare (t.setGen g gs).gens := fun y hy => by
  rcases Array.mem_or_eq_of_mem_setIfInBounds hy with z | z
  · exact b y z
  · rw [z]
    exact hg
theorem set_size (t : Shared) (g : Nat) (gs : GenState) : (t.setGen g gs).gens.size = t.gens.size := by simp [Shared.setGen]
theorem set_at {t : Shared} {g : Nat} {gs : GenState} (h : g < t.gens.size) : (t.setGen g gs).gens[g]? = some gs := by
  simp [Shared.setGen, h]
/-- what a walk leaves: all but wr stands, of the frames fs all but the slots; the generators stay bare -/
structure MovedV (wr fs : List Addr) (t t' : Shared) : Prop where
  os : t'.os = t.os
  bare : AllBare t'.gens
  heap : ∀ b o, b ∉ wr → t.heap.get? b = some o → (b ∉ fs → t'.heap.get? b = some o) ∧ ∃ sl, t'.heap.get? b = some { o with slots := sl }
theorem MovedV.trans {wr fs : List Addr} {t t1 t2 : Shared} (p : MovedV wr fs t t1) (q : MovedV wr fs t1 t2) : MovedV wr fs t t2 := ⟨q.os.trans p.os, q.bare, fun b o n it => by
  obtain ⟨p1, sl, p2⟩ := p.heap b o n it
  obtain ⟨_, sl2, q2⟩ := q.heap b _ n p2
  exact ⟨fun nf => (q.heap b o n (p1 nf)).1 nf, sl2, q2⟩⟩
structure WalksV (prog : Program) (w : World) (A : Around) (I : Addr) (wr fs : List Addr) (n : Nat) (P : Nat → Value → Prop) (St : Nat → Shared → Prop) : Prop where
  item : ∀ i (t : Shared) (Q : Option Value → Shared → Prop) (E : Value → Shared → Prop), i < n → St i t → (∀ v t', P i v → St (i + 1) t' → MovedV wr fs t t' → Q (some v) t') → wpAny (model prog w) A (pyNext (.ref I)) Q E t
  done : ∀ (t : Shared) (Q : Option Value → Shared → Prop) (E : Value → Shared → Prop), St n t → (∀ t', MovedV wr fs t t' → Q none t') → wpAny (model prog w) A (pyNext (.ref I)) Q E t
  self : ∀ (t : Shared) (Q : Value → Shared → Prop) (E : Value → Shared → Prop), St 0 t → Q (.ref I) t → wpAny (model prog w) A (pyIter (.ref I)) Q E t
section
variable {w : World} {prog : Program} {A : Around}
theorem WalksV.down {I : Addr} {wr fs : List Addr} {n : Nat} {P : Nat → Value → Prop} {St : Nat → Shared → Prop} (Wk : WalksV prog w A.in1 I wr fs n P St) : WalksV prog w A I wr fs n P St :=
  ⟨fun i t Q E il st k => wpAny_of_in1 (Wk.item i t Q E il st k), fun t Q E st k => wpAny_of_in1 (Wk.done t Q E st k), fun t Q E st k => wpAny_of_in1 (Wk.self t Q E st k)⟩
theorem WalksV.in4 {I : Addr} {wr fs : List Addr} {n : Nat} {P : Nat → Value → Prop} {St : Nat → Shared → Prop} (Wk : WalksV prog w A.in4 I wr fs n P St) : WalksV prog w A.in1 I wr fs n P St :=
  WalksV.down (A := A.in1) (WalksV.down (A := A.in1.in1) (WalksV.down (A := A.in1.in1.in1) Wk))
/-- the generator at a, number g, before its j-th thing -/
def AtB (prog : Program) (w : World) (A : Around) (a : Addr) (g : Nat) (C : Addr) (fp old wr fs : List Addr) (pz : Nat → Bool) (n : Nat) (F : Nat → Value → Prop) (j : Nat) (t : Shared) : Prop :=
  t.heap.IsGen a g ∧ t.heap.NoLimit ∧ AllBare t.gens ∧ ∃ gs, t.gens[g]? = some gs ∧ ∀ u : Shared, (∀ b ∈ C :: (fp ++ old), ∀ o, t.heap.get? b = some o → u.heap.get? b = some o) → AllBare u.gens →
    gs.Goes (model prog w) A.in1 (endB C wr fs) (protoB C fp old wr fs pz n F) ((passing pz n 0).length - j) (.send .none) u
theorem AtB.fresh {elt iter : Expr} {x : Str} {px : Pos} {ifs : List Expr} {scope : Scope} {pos : Pos} {I a : Addr} {g : Nat} {fp old wr fs : List Addr} {n : Nat} {Dr : Nat → Value → Prop} {St : Nat → Heap → Prop} {ce : Env} {fr : Option (List Env)}
    (quiet0 : A.handled = none) (frA : (A.in1.over (loopC elt x px iter ifs scope pos I ce) []).frames = fr) (Wk : ∀ B : Around, B.handled = none → Walks prog w B I fp wr n Dr St) (pz : Nat → Bool) (F : Nat → Value → Prop)
    (kx : ce.kindOf x = some .local) (plain : (ce.scope.kind == .class || (ce.scope.kind == .module && ce.locals != ce.globals)) = false)
    (noco : ce.scope.isCoroutine = false) (apart : ce.locals ∉ fp) (apartO : ce.locals ∉ old) (sepF : ∀ b ∈ fp, b ∉ fs) {t : Shared} {mp : Str → Option Value} (hQ : QuietF prog w ce x ifs elt old wr fs Dr pz F t.heap fr (A.depth + 1) (A.units + 4))
    (gen : t.heap.IsGen a g) (new : t.gens[g]? = some (.fresh (startC elt x px iter ifs scope pos I ce))) (st : St 0 t.heap) (ns : t.heap.Ns ce.locals mp) (lim : t.heap.NoLimit) (bare : AllBare t.gens) : AtB prog w A a g ce.locals fp old wr fs pz n F 0 t :=
  ⟨gen, lim, bare, _, new, fun u hal bu => ⟨rfl, seg_startF (A := A.in1) quiet0 frA Wk pz F t.heap kx plain noco apart apartO sepF hQ u u mp ((Wk A quiet0).frame _ _ _ st fun b hm o it => hal b (List.mem_cons_of_mem _ (List.mem_append_left _ hm)) o it)
    (ns.at' fun o it => hal _ (List.mem_cons_self ..) o it) (SinceG.refl bu) fun b hm _ o it => ⟨fun _ => hal b (List.mem_cons_of_mem _ (List.mem_append_right _ hm)) o it, o.slots, hal b (List.mem_cons_of_mem _ (List.mem_append_right _ hm)) o it⟩⟩⟩
theorem walksB (quiet0 : A.handled = none) (a : Addr) (g : Nat) (C : Addr) (fp old wr fs : List Addr) (pz : Nat → Bool) (n : Nat) (F : Nat → Value → Prop) (ac : a ≠ C) (aw : a ∉ wr) (af : a ∉ fs)
    (room : A.depth < recursionLimit) (csC : cStatics ≠ C) (csW : cStatics ∉ wr) (csF : cStatics ∉ fs) :
    WalksV prog w A a (C :: wr) fs (passing pz n 0).length (fun j y => ∃ i, (passing pz n 0)[j]? = some i ∧ F i y) (AtB prog w A a g C fp old wr fs pz n F) where
  item := fun j t Q E jl st want => by
    obtain ⟨gen, lim, bare, gs, at_, goes⟩ := st
    obtain ⟨r, hr⟩ : ∃ r, (passing pz n 0).length - j = r + 1 := ⟨(passing pz n 0).length - j - 1, by omega⟩
    rw [hr] at goes
    have gl : g < t.gens.size := (Array.getElem?_eq_some_iff.mp at_).1
    refine wpAny_pyNext_genexpQ (P := fun k t0 t1 => k = 0 ∧ SinceG C wr fs t0 t1) quiet0 lim room gen at_ (goes _ (fun _ _ _ it => it) (bare_set bare rfl)) (fun v t1 gs1 b1 told => ?_) (fun t1 ended hp keep => ?_)
    · obtain ⟨⟨i, hi, fv⟩, since, go⟩ := told
      rw [show (passing pz n 0).length - 1 - (r + 1 - 1) = j by omega] at hi
      have gl1 : g < t1.gens.size := by
        have := since.size
        rw [set_size] at this
        omega
      have g1 : (t1.setGen g gs1).gens[g]? = some gs1 := set_at gl1
      obtain ⟨o, nm, qn, ho, more⟩ := gen
      obtain ⟨mc, nsc, nol⟩ := lim
      refine want v _ ⟨i, hi, fv⟩ ⟨⟨o, nm, qn, (since.heap a o ac aw ho).1 af, more⟩, ⟨mc, nsc.at' fun o it => (since.heap cStatics o csC csW it).1 csF, nol⟩, bare_set since.bare b1, gs1, g1, fun u hal bu => ?_⟩
        ⟨since.os, bare_set since.bare b1, fun b o hb it => since.heap b o (fun z => hb (z ▸ List.mem_cons_self ..)) (fun z => hb (List.mem_cons_of_mem _ z)) it⟩
      rw [show (passing pz n 0).length - (j + 1) = r by omega]
      exact go u hal bu
    · exact absurd ended.1 (Nat.succ_ne_zero r)
  done := fun t Q E st want => by
    obtain ⟨gen, lim, bare, gs, at_, goes⟩ := st
    rw [Nat.sub_self] at goes
    refine wpAny_pyNext_genexpQ (P := fun k t0 t1 => k = 0 ∧ SinceG C wr fs t0 t1) quiet0 lim room gen at_ (goes _ (fun _ _ _ it => it) (bare_set bare rfl)) (fun v t1 gs1 b1 told => ?_) (fun t1 ended hp keep => ?_)
    · obtain ⟨_, since, go⟩ := told
      exact (go t1 (fun _ _ _ it => it) since.bare).elim
    · obtain ⟨_, since⟩ := ended
      exact want _ ⟨since.os, bare_set since.bare rfl, fun b o hb it => by
        obtain ⟨p1, sl, p2⟩ := since.heap b o (fun z => hb (z ▸ List.mem_cons_self ..)) (fun z => hb (List.mem_cons_of_mem _ z)) it
        exact ⟨fun nf => keep b o (p1 nf), sl, keep b _ p2⟩⟩
  self := fun _ _ _ st want => wpAny_pyIter_gen st.1 want
/-- all(..) over such a walk of truths -/
theorem all_loopV {I : Addr} {wr fs : List Addr} {n : Nat} {P : Nat → Value → Prop} {St : Nat → Shared → Prop} {R : Result → Shared → Prop} (Wk : WalksV prog w A.in1 I wr fs n P St) (tr : Nat → Bool) (isB : ∀ i v, P i v → v = .bool (tr i)) :
    ∀ (k i : Nat) (t : Shared), n - i = k → i ≤ n → St i t → (∀ t', MovedV wr fs t t' → R (.ok (.ret (.bool (((List.range n).drop i).all tr)))) t') → codeAny (model prog w) A (.builtin "all.loop" ⟨[.ref I], []⟩) R t := by
  intro k
  induction k with
  | zero =>
    intro i t ek il st want
    obtain rfl : i = n := by omega
    (refine codeAny_builtin F.entry_all_loop ?_)
    (rw [Around.under_plainId F.plain_all_loop _])
    show wpAny _ A.in1 (pyNext (.ref I) >>= _) _ _ t
    refine wpAny_bind (Wk.done t _ _ st fun t' mv => wpAny_bind (wpAny_rule (wpAny_pure ?_)))
    have z := want t' mv
    rw [List.drop_of_length_le (Nat.le_of_eq List.length_range)] at z
    exact z
  | succ k again =>
    intro i t ek il st want
    have lt : i < n := by omega
    have cut : (List.range n).drop i = i :: (List.range n).drop (i + 1) := range_drop lt
    (refine codeAny_builtin F.entry_all_loop ?_)
    (rw [Around.under_plainId F.plain_all_loop _])
    show wpAny _ A.in1 (pyNext (.ref I) >>= _) _ _ t
    refine wpAny_bind (Wk.item i t _ _ lt st fun v t' pv st' mv => ?_)
    rw [isB i v pv]
    (refine wpAny_bind (wpAny_holding (wpAny_truthy_bool ?_)))
    (refine wpAny_bind (wpAny_letGo ?_))
    rw [cut] at want
    cases eb : tr i with
    | true =>
      simp only [if_true]
      refine wpAny_pure ⟨plainId_quiet F.plain_all_loop _, again (i + 1) _ (by omega) lt st' fun t2 mv2 => ?_⟩
      have z := want t2 (mv.trans mv2)
      rw [List.all_cons, eb, Bool.true_and] at z
      exact z
    | false =>
      simp only [Bool.false_eq_true, if_false, ite_false]
      (refine wpAny_bind (wpAny_rule (wpAny_pure ?_)))
      have z := want t' mv
      rw [List.all_cons, eb, Bool.false_and] at z
      exact z
theorem call_allV {E : Value → Shared → Prop} {s : Shared} {x : Value} {Q : Value → Shared → Prop}
    (h : wpAny (model prog w) A.in1 (pyIter x) (fun it t => ∃ I wr fs n P St tr, it = .ref I ∧ WalksV prog w A.in1 I wr fs n P St ∧ St 0 t ∧ (∀ i v, P i v → v = .bool (tr i)) ∧ ∀ t', MovedV wr fs t t' → Q (.bool ((List.range n).all tr)) t') E s) :
    (wpAny (model prog w) A (call (.builtin "all") [x]) Q E s) := by
  (refine call_function_tree F.kind_all F.plain_all F.entry_all (F.args_all1 _) ?_)
  unfold Builtin.«all»
  (refine wpAny_bind (m := oneArg "all" _) (wpAny_pure ?_))
  refine wpAny_bind (wpAny_mono h (fun it t ht => ?_) fun _ _ z => z)
  obtain ⟨I, wr, fs, n, P, St, tr, rfl, Wk, st, isB, want⟩ := ht
  exact wpAny_pure ⟨plainId_quiet F.plain_all_loop _, all_loopV Wk tr isB n 0 t rfl (Nat.zero_le _) st fun t' mv => by simpa using want t' mv⟩
end
end V3
namespace V3
open PySem.Spec PySem L2 PyProof.Rows GxR
section
variable {w : World} {prog : Program} {A : Around} {E : Value → Shared → Prop} {s : Shared}
/-- what the maker of such a generator has to know, behind the code object and the builtins -/
def MadeF (prog : Program) (w : World) (A : Around) (env : Env) (elt iter : Expr) (x : Str) (px : Pos) (ifs : List Expr) (scope : Scope) (cl : List (Str × Addr)) (pos : Pos) (Q : Value → Shared → Prop) (it code : Value) (bi : Addr) (t : Shared) : Prop :=
  AllBare t.gens ∧ ∃ (I : Addr) (fp wr fs : List Addr) (n : Nat) (Dr : Nat → Value → Prop) (St : Nat → Heap → Prop) (pz : Nat → Bool) (F : Nat → Value → Prop), it = .ref I ∧ (∀ B : Around, B.handled = none → Walks prog w B I fp wr n Dr St) ∧ St 0 t.heap ∧
    (∀ b ∈ fp, b < t.heap.objs.size) ∧ t.heap.NoLimit ∧ cStatics ∉ wr ∧ (∀ b ∈ fs, b ≤ t.heap.objs.size) ∧ (∀ b ∈ fp, b ∉ fs) ∧ cStatics ∉ fs ∧
    (∀ ref : Heap, (∀ b o, t.heap.get? b = some o → ref.get? b = some o) →
      QuietF prog w (genEnv scope cl t.heap.objs.size code bi env) x ifs elt (List.range t.heap.objs.size) wr fs Dr pz F ref (A.in4.in1.over (loopC elt x px iter ifs scope pos I (genEnv scope cl t.heap.objs.size code bi env)) []).frames (A.depth + 1) (A.units + 8)) ∧
    ∀ a hp tk gs, gs.bare = true → t.heap.objs.size < a → hp.objs.size = a + 1 → (∀ b o, t.heap.get? b = some o → hp.get? b = some o) →
      WalksV prog w A.in4 a (t.heap.objs.size :: wr) fs (passing pz n 0).length (fun j y => ∃ i, (passing pz n 0)[j]? = some i ∧ F i y) (AtB prog w A.in4 a t.gens.size t.heap.objs.size fp (List.range t.heap.objs.size) wr fs pz n F) →
      AtB prog w A.in4 a t.gens.size t.heap.objs.size fp (List.range t.heap.objs.size) wr fs pz n F 0 { t with gens := t.gens.push gs, toks := tk, heap := hp } → Q (.ref a) { t with gens := t.gens.push gs, toks := tk, heap := hp }
theorem genexpF {env : Env} {elt iter : Expr} {x : Str} {px : Pos} {ifs : List Expr} {scope : Scope} {cl : List (Str × Addr)} {pos : Pos} {Q : Value → Shared → Prop}
    (quiet0 : A.handled = none) (noco : scope.isCoroutine = false) (clo : closureFor scope env = pure cl) (nocell : ∀ y ∈ scope.names, y.2 ≠ .cell) (dot0 : scope.names.lookup (".0" : Str) = some NameKind.local)
    (kx : scope.names.lookup x = some .local) (kd : scope.kind = .function) (room : A.depth < recursionLimit)
    (h : wpAny (model prog w) A (eval iter env) (fun xv t1 => wpAny (model prog w) A (pyIter xv) (fun it t2 => t2.heap.NoLimit ∧
      wpAny (model prog w) A (genexprCode env pos (env.qual ++ "<genexpr>") scope) (fun code t3 => wpAny (model prog w) A (builtinsFor env.globals env.builtins) (fun bi t4 => MadeF prog w A env elt iter x px ifs scope cl pos Q it code bi t4) E t3) E t2) E t1) E s)
    (nofold : ∀ v, genFold iter env v = pure v) : wpAny (model prog w) A (eval (.GeneratorExp elt [⟨.Name x px, iter, ifs, 0⟩] scope pos) env) Q E s := by
  refine wpAny_GeneratorExp_make noco clo nocell dot0 kd room (wpAny_mono h (fun xv t1 a1 => wpAny_mono a1 (fun it t2 a2 => ⟨a2.1, wpAny_mono a2.2 (fun code t3 a3 => wpAny_mono a3 (fun bi t4 a4 => ?_)
    fun _ _ z => z) fun _ _ z => z⟩) fun _ _ z => z) fun _ _ z => z) nofold
  obtain ⟨bare, I, fp, wr, fs, n, Dr, St, pz, F, rfl, Wk, st, low, lim, csW, lowF, sepF, csF, hQ, want⟩ := a4
  have cl4 : cStatics < t4.heap.objs.size := by
    obtain ⟨_, q, _⟩ := lim
    exact q.lt
  intro hp nsp same
  have sz : hp.objs.size = t4.heap.objs.size + 1 := by rw [same.1, Heap.size_push]
  have keep : ∀ b o, t4.heap.get? b = some o → hp.get? b = some o := fun b o it => same.extBut b o (Nat.ne_of_lt (Heap.lt_size it)) (Heap.get?_push_of_some _ it)
  have inR : ∀ b ∈ wr, b ∈ List.range t4.heap.objs.size := fun b hb => List.mem_range.mpr (low b ((Wk A quiet0).sub b hb))
  have nC : hp.objs.size ≠ t4.heap.objs.size := by
    rw [sz]
    exact Nat.succ_ne_self _
  have nR : hp.objs.size ∉ List.range t4.heap.objs.size := fun z => by
    have := List.mem_range.mp z
    omega
  have keep5 : ∀ b o, t4.heap.get? b = some o → (hp.push { cls := .type "generator", data := .fields #[.int t4.gens.size 0, .str "<genexpr>" (t4.toks + 1), .str (env.qual ++ "<genexpr>") (t4.toks + 1 + 1)] }).get? b = some o :=
    fun b o it => Heap.get?_push_of_some _ (keep b o it)
  refine want _ _ _ _ rfl (by omega) (by rw [Heap.size_push]) keep5 (walksB (A := A.in4) quiet0 _ _ _ fp _ wr fs pz n F nC (fun z => nR (inR _ z)) (fun z => by have h9 : (hp.objs.size : Nat) ≤ t4.heap.objs.size := lowF _ z; omega) room (Nat.ne_of_lt cl4) csW csF) ?_
  refine AtB.fresh (A := A.in4) (ce := genEnv scope cl t4.heap.objs.size code bi env) (mp := fun y => if y = ".0" then some (.ref I) else none) quiet0 rfl
    Wk pz F kx (by simp [genEnv, kd]) noco
    (fun z => Nat.lt_irrefl _ (low _ z)) (fun z => Nat.lt_irrefl _ (List.mem_range.mp z)) sepF (hQ _ keep5) ⟨_, _, _, Heap.get?_push_size _ rfl, rfl, rfl, rfl⟩ (Array.getElem?_push_size ..) ((Wk A quiet0).frame _ _ _ st fun b _ o it => keep5 b o it) (nsp.push _) (lim.keeps keep5) (bare.push rfl)
end
end V3
/-! A call of a def with a promise, from a generator expression's own frame. -/
namespace V3
open PySem.Spec PySem L2 PyProof.Rows GxR
/-- what is known of lists and tuples, held fast by their very objects -/
def fast (h : Heap) (H : Hp) : Hp := fun b => match H b with
  | some (.tup xs) => (h.get? b).map fun o => .frz o (.tup xs)
  | some (.lst xs) => (h.get? b).map fun o => .frz o (.lst xs)
  | some (.frz o (.tup xs)) => some (.frz o (.tup xs))
  | some (.frz o (.lst xs)) => some (.frz o (.lst xs))
  | some (.dK kvs) => (h.get? b).map fun o => .frz o (.dK kvs)
  | some (.frz o (.dK kvs)) => some (.frz o (.dK kvs))
  | _ => none
section
variable {P : Program} {w : World} {h h' : Heap} {H : Hp}
theorem fast_none {b : Addr} (e : H b = none) : fast h H b = none := by
  unfold fast
  rw [e]
theorem fast_cases {b : Addr} {u : HO} (e : fast h H b = some u) : (∃ xs o, H b = some (.tup xs) ∧ h.get? b = some o ∧ u = .frz o (.tup xs)) ∨ (∃ xs o, H b = some (.lst xs) ∧ h.get? b = some o ∧ u = .frz o (.lst xs)) ∨
    (∃ xs o, H b = some (.frz o (.tup xs)) ∧ u = .frz o (.tup xs)) ∨ (∃ xs o, H b = some (.frz o (.lst xs)) ∧ u = .frz o (.lst xs)) ∨
    (∃ kvs o, H b = some (.dK kvs) ∧ h.get? b = some o ∧ u = .frz o (.dK kvs)) ∨ ∃ kvs o, H b = some (.frz o (.dK kvs)) ∧ u = .frz o (.dK kvs) := by
  unfold fast at e
  cases hb : H b with
  | none =>
    rw [hb] at e
    cases e
  | some ho =>
    rw [hb] at e
    cases ho with
    | tup xs =>
      obtain ⟨o, h1, h2⟩ := Option.map_eq_some_iff.mp e
      exact .inl ⟨xs, o, rfl, h1, h2.symm⟩
    | lst xs =>
      obtain ⟨o, h1, h2⟩ := Option.map_eq_some_iff.mp e
      exact .inr (.inl ⟨xs, o, rfl, h1, h2.symm⟩)
    | frz o u0 =>
      cases u0 with
      | tup xs => exact .inr (.inr (.inl ⟨xs, o, rfl, (Option.some.inj e).symm⟩))
      | lst xs => exact .inr (.inr (.inr (.inl ⟨xs, o, rfl, (Option.some.inj e).symm⟩)))
      | dK kvs => exact .inr (.inr (.inr (.inr (.inr ⟨kvs, o, rfl, (Option.some.inj e).symm⟩))))
      | _ => cases e
    | dK kvs =>
      obtain ⟨o, h1, h2⟩ := Option.map_eq_some_iff.mp e
      exact .inr (.inr (.inr (.inr (.inl ⟨kvs, o, rfl, h1, h2.symm⟩))))
    | _ => cases e
theorem fast_ok (ok : HOk P w H h) (k : ∀ b u o, H b = some u → (∀ q, u ≠ .tbl q) → h.get? b = some o → h'.get? b = some o) : HOk P w (fast h H) h' := by
  intro b u e
  rcases fast_cases e with (⟨xs, o, e1, e2, rfl⟩ | ⟨xs, o, e1, e2, rfl⟩ | ⟨xs, o, e1, rfl⟩ | ⟨xs, o, e1, rfl⟩ | ⟨kvs, o, e1, e2, rfl⟩ | ⟨kvs, o, e1, rfl⟩)
  · obtain ⟨z, its, rv, o2, h1, h2, n, h3⟩ := ok b _ e1
    rw [e2] at h1
    cases h1
    have kk := k b _ o e1 (fun q z => by cases z) e2
    exact ⟨kk, z, its, rv, o, kk, h2, n, h3⟩
  · obtain ⟨z, its, n, rv, h1⟩ := ok b _ e1
    rw [e2] at h1
    have kk := k b _ o e1 (fun q z => by cases z) e2
    exact ⟨kk, z, its, n, rv, by rw [kk, h1]⟩
  · obtain ⟨e2, z, its, rv, o2, h1, h2, n, h3⟩ := ok b _ e1
    rw [e2] at h1
    cases h1
    have kk := k b _ o e1 (fun q z => by cases z) e2
    exact ⟨kk, z, its, rv, o, kk, h2, n, h3⟩
  · obtain ⟨e2, z, its, n, rv, h1⟩ := ok b _ e1
    rw [e2] at h1
    have kk := k b _ o e1 (fun q z => by cases z) e2
    exact ⟨kk, z, its, n, rv, by rw [kk, h1]⟩
  · obtain ⟨z, ns, vs, kv, o2, es, ep, h1, x1⟩ := ok b _ e1
    rw [e2] at h1
    cases h1
    have kk := k b _ o e1 (fun q z => by cases z) e2
    exact ⟨kk, z, ns, vs, kv, o, es, ep, kk, x1⟩
  · obtain ⟨e2, z, ns, vs, kv, o2, es, ep, h1, x1⟩ := ok b _ e1
    rw [e2] at h1
    cases h1
    have kk := k b _ o e1 (fun q z => by cases z) e2
    exact ⟨kk, z, ns, vs, kv, o, es, ep, kk, x1⟩
theorem fast_tup {b : Addr} {xs : List V} (ok : HOk P w H h) (e : H b = some (.tup xs)) : ∃ o, fast h H b = some (.frz o (.tup xs)) := by
  obtain ⟨z, its, rv, o, h1, _⟩ := ok b _ e
  exact ⟨o, by unfold fast; rw [e]; simp only []; rw [h1]; rfl⟩
theorem fast_lst {b : Addr} {xs : List V} (ok : HOk P w H h) (e : H b = some (.lst xs)) : ∃ o, fast h H b = some (.frz o (.lst xs)) := by
  obtain ⟨z, its, n, rv, h1⟩ := ok b _ e
  exact ⟨_, by unfold fast; rw [e]; simp only []; rw [h1]; rfl⟩
theorem fast_dK {b : Addr} {kvs : List (Key × V)} (ok : HOk P w H h) (e : H b = some (.dK kvs)) : ∃ o, fast h H b = some (.frz o (.dK kvs)) := by
  obtain ⟨z, ns, vs, kv, o2, es, ep, h1, x1⟩ := ok b _ e
  exact ⟨_, by unfold fast; rw [e]; simp only []; rw [h1]; rfl⟩
theorem fastT {K : PySem.W.Frag} {a : Addr} {xs : List V} (ok : HOk P w H h) (s : SqT K H a xs) : SqT K (fast h H) a xs := by
  rcases s with ((e | ⟨o, e⟩) | e)
  · exact .inl (.inr (fast_tup ok e))
  · exact .inl (.inr ⟨o, by unfold fast; rw [e]⟩)
  · exact .inr e
theorem fastL {K : PySem.W.Frag} {a : Addr} {xs : List V} (ok : HOk P w H h) (s : SqL K H a xs) : SqL K (fast h H) a xs := by
  rcases s with ((e | ⟨o, e⟩) | e)
  · exact .inl (.inr (fast_lst ok e))
  · exact .inl (.inr ⟨o, by unfold fast; rw [e]⟩)
  · exact .inr e
end
mutual
theorem Dp.fast {P : Program} {w : World} {K : PySem.W.Frag} {h : Heap} {H : Hp} (ok : HOk P w H h) : ∀ {v : V} {d : PyData}, Dp K H v d → Dp K (V3.fast h H) v d
  | _, _, .non => .non
  | _, _, .bl b => .bl b
  | _, _, .int i => .int i
  | _, _, .str x => .str x
  | _, _, .lst s a => .lst (fastL ok s) (DpAll.fast ok a)
  | _, _, .tup s a => .tup (fastT ok s) (DpAll.fast ok a)
theorem DpAll.fast {P : Program} {w : World} {K : PySem.W.Frag} {h : Heap} {H : Hp} (ok : HOk P w H h) : ∀ {vs : List V} {ds : List PyData}, DpAll K H vs ds → DpAll K (V3.fast h H) vs ds
  | _, _, .nil => .nil
  | _, _, .cons a b => .cons (Dp.fast ok a) (DpAll.fast ok b)
end
theorem kept_CE {P : Program} {w : World} {outer : List Env} {h : Heap} {H : Hp} {t t' : Shared} {Q : VK} {u : Value} (ok : HOk P w (fast h H) t.heap) (c : CE outer P w (fast h H) t Q u t') : KeptG (frs outer) t t' ∧ ∃ v H', RelV v u ∧ Q v H' := by
  obtain ⟨v, H', os, bare, un, ok', r, q⟩ := c
  refine ⟨⟨os, bare, fun b o it => ?_⟩, v, H', r, q⟩
  have fixed : ∀ o' u', fast h H b = some (.frz o' u') → t'.heap.get? b = some o := fun o' u' e => by
    have h1 : t.heap.get? b = some o' := (ok b _ e).1
    rw [it] at h1
    cases h1
    exact (ok' b _ (un.frzs b _ _ e)).1
  cases e : fast h H b with
  | none =>
    by_cases hb : b ∈ frs outer
    · obtain ⟨sl, z⟩ := un.slot b o it e hb (by simp)
      exact ⟨fun nf => absurd hb nf, sl, z⟩
    · have z := un.keep b o it e hb (by simp)
      exact ⟨fun _ => z, o.slots, z⟩
  | some ho =>
    rcases fast_cases e with (⟨xs, o', e1, e2, rfl⟩ | ⟨xs, o', e1, e2, rfl⟩ | ⟨xs, o', e1, rfl⟩ | ⟨xs, o', e1, rfl⟩ | ⟨xs, o', e1, e2, rfl⟩ | ⟨xs, o', e1, rfl⟩) <;> exact ⟨fun _ => fixed _ _ e, o.slots, fixed _ _ e⟩
/-- what the frame's call of the def needs of the state t -/
structure InGen (X : Cx) (H : Hp) (h : Heap) (ce : Env) (C : Addr) (t : Shared) : Prop where
  base : ∀ b o, X.base.get? b = some o → t.heap.get? b = some o
  sz : X.base.objs.size ≤ t.heap.objs.size
  funs : t.heap.FunFrames X.base (ce :: X.stack)
  frf : ∀ b ∈ frs (ce :: X.stack), H b = none
  ok : HOk X.prog X.w (fast h H) t.heap
  bare : AllBare t.gens
theorem gen_call {X : Cx} {pins : List (Addr × Obj)} {σ : L2.St} {H : Hp} {s t : Shared} {k : Nat} {f C : Addr} {fd : FuncData} {ps : List Str} {sp : Sp} {B : Around} {ce : Env} {us : List Value} {vs : List V} {q : V → Prop} {R : Value → Shared → Prop} {Ex : Value → Shared → Prop}
    (I : Inv X pins σ H s) (G : FnOk X.prog X.w X.K X.mg X.base CX0 k f fd ps sp) (bd : Binds X.K fd ps []) (hr : Room (k + 1) X.A) (g : InGen X H s.heap ce C t)
    (b0 : B.handled = none) (bf : B.frames = some (ce :: X.stack)) (bd1 : B.depth ≤ X.A.depth + 1) (bu : B.units ≤ X.A.units + 8) (r : Vals vs us) (ask : sp vs (fast s.heap H) (fun v _ => q v) E0)
    (fin : ∀ v u t', q v → RelV v u → KeptG (frs (ce :: X.stack)) t t' → R u t') : wpAny (model X.prog X.w) B (call (.ref f) us) R Ex t := by
  have room : Room k B := ⟨b0, by have := hr.dp; omega, by have := hr.un; omega⟩
  have kin : X.K.In t.heap := I.ok.mod.kin.keeps g.base
  have e0 : Env0 X.prog X.w X.K X.mg X.base B (ce :: X.stack) t (fast s.heap H) := ⟨bf, I.ok.mod, fun b o it => ⟨g.base b o it, fast_none (I.bs b o it).2⟩, g.sz, g.funs, fun b hb => fast_none (g.frf b hb), g.ok, g.bare⟩
  have hl : (us ++ []).length = ps.length := by
    rw [List.append_nil, ← r.length]
    exact G.len _ _ _ _ ask
  have bs := bd t us kin hl
  rw [List.append_nil] at bs
  refine wpAny_call (codeAny_mono (G.run B (ce :: X.stack) t (fast s.heap H) ⟨us, []⟩ us vs (fun v _ => q v) E0 room e0 bs r ask) fun res t' c => ?_)
  cases res with
  | error e => exact False.elim c
  | ok fl =>
    cases fl with
    | ret u =>
      obtain ⟨kg, v, H', rv, qv⟩ := kept_CE g.ok c
      exact fin v u t' qv rv kg
    | next => exact False.elim c
    | brk => exact False.elim c
    | cont => exact False.elim c
end V3
set_option maxHeartbeats 8100000
namespace V3
open PySem.Spec PySem L2 PyProof.Rows GxR
section
variable {pins : List (Addr × Obj)} {X : Cx} {σ : L2.St} {H : Hp} {s : Shared}
theorem over_frames {A : Around} {elt iter : Expr} {x : Str} {px : Pos} {ifs : List Expr} {scope : Scope} {pos : Pos} {I : Addr} {ce : Env} {l : List Env} (e : A.frames = some l) :
    (A.in4.in1.over (loopC elt x px iter ifs scope pos I ce) []).frames = some (ce :: l) := by
  have e5 : A.in4.in1.frames = some l := e
  simp only [Around.over, List.map_nil]
  rw [e5]
  rfl
/-- behind a walk of a generator: the table has grown, of the frames the slots may differ -/
theorem inv_gen {P : Addr} {ps more : Array Value} {t' : Shared} (I : Inv X pins σ H s) (hP : H P = some (.tbl ps)) (os : t'.os = s.os) (bare : AllBare t'.gens)
    (k : ∀ b o, b ≠ P → s.heap.get? b = some o → (b ∉ frs X.stack → t'.heap.get? b = some o) ∧ ∃ sl, t'.heap.get? b = some { o with slots := sl })
    (hm : t'.heap.get? P = some { cls := .none, data := .fields (ps ++ more) }) : Inv X pins σ (upd H P (.tbl (ps ++ more))) t' := by
  have nP : ∀ b u, H b = some u → (∀ q, u ≠ .tbl q) → b ≠ P := fun b u e q zz => by
    rw [zz, hP] at e
    (exact q ps (Option.some.inj e).symm)
  have nN : ∀ b, H b = none → b ≠ P := fun b e zz => by
    rw [zz, hP] at e
    cases e
  have exactly : ∀ b u o, H b = some u → b ≠ P → s.heap.get? b = some o → t'.heap.get? b = some o := fun b u o e n it => (k b o n it).1 fun z => by
    rw [I.stkFree b z] at e
    cases e
  have un : Un (frs X.stack) [] H (upd H P (.tbl (ps ++ more))) s.heap t'.heap := by
    refine ⟨fun b o it e nf _ => (k b o (nN b e) it).1 nf, fun b o it e _ _ => (k b o (nN b e) it).2, fun b o _ e _ => by rw [upd_ne (nN b e)]; exact e, fun b o it _ => ?_, fun b xs e => by rw [upd_ne (nP b _ e (fun q z => by cases z))]; exact e,
      fun b o u e => by rw [upd_ne (nP b _ e (fun q z => by cases z))]; exact e, fun b qs e => ?_⟩
    · by_cases hb : b = P
      · exact ⟨_, by rw [hb]; exact hm⟩
      · obtain ⟨_, sl, z⟩ := k b o hb it
        exact ⟨_, z⟩
    · by_cases hb : b = P
      · rw [hb, hP] at e
        cases e
        exact ⟨more, by rw [hb, upd_same]⟩
      · exact ⟨#[], by rw [upd_ne hb, e]; simp⟩
  have ok : HOk X.prog X.w (upd H P (.tbl (ps ++ more))) t'.heap := by
    intro b u e
    by_cases hb : b = P
    · subst hb
      rw [upd_same] at e
      cases e
      exact hm
    · rw [upd_ne hb] at e
      refine (I.hok b u e).stay (fun d v hd q => ?_) (fun d q => by rw [upd_ne (nP d _ q (fun q z => by cases z))]; exact q) fun d xs q => by rw [upd_ne (nP d _ q (fun q z => by cases z))]; exact q
      rcases hd with (z | z)
      · subst z
        exact exactly _ u v e hb q
      · exact exactly d _ v z (nP d _ z (fun q z => by cases z)) q
  have J := I.call (h' := t'.heap) (g' := t'.gens) (d' := t'.drawn) (t' := t'.toks) (ch := []) un ok bare (fun b z => absurd z (by simp))
  rw [sh_eta s t' os] at J
  exact J
end
/-- all(f(x, c) for x in t), t a tuple, f a def with a promise, c a name of the def -/
def tAllC (X : Cx) (P : Addr) (ic : Nat) (sp : Sp) (te : TE) : TE := fun σ H Q => te σ H fun v H1 => ∃ (a : Addr) (xs : List V) (vc : V) (tr : Nat → Bool), v = .ref a ∧ SqT X.K H1 a xs ∧ TabG H1 P ∧ σ[ic]? = some (some vc) ∧
  (∀ h, HOk X.prog X.w H1 h → ∀ i xi, xs[i]? = some xi → sp [xi, vc] (fast h H1) (fun v _ => v = .bl (tr i)) E0) ∧ ∀ H2, Tabbed P H1 H2 → Q (.bl ((List.range xs.length).all tr)) H2
end V3
namespace V3
open PySem.Spec PySem L2 PyProof.Rows GxR
section
variable {X : Cx}
theorem tests_none {M : Model} {B : Around} {ce : Env} {Ex : Value → Shared → Prop} {t : Shared} {R : Bool → Shared → Prop} (h : R true t) : wpAny M B (testsOf [] ce) R Ex t := by
  show wpAny M B (forIn ([] : List Expr) true _) R Ex t
  simp only [List.forIn_nil]
  exact wpAny_pure h
theorem frs_apart {s : Shared} {l : List Env} {base : Heap} {b : Addr} (f : s.heap.FunFrames base l) (hb : b ∈ frs l) : base.get? b = none ∧ ∃ o, s.heap.get? b = some o ∧ ∀ vs, o.data ≠ .fields vs := by
  obtain ⟨n, o, ho, nf⟩ := f.mem hb
  exact ⟨n, o, ho, nf⟩
end
end V3
set_option maxHeartbeats 4100000
/-! A generator expression with any target, told by what each turn binds. -/
namespace V3
open PySem.Spec PySem L2 PyProof.Rows GxR
/-- each turn: what is next, the owned tuple let go, the target bound -/
structure Draws2 (prog : Program) (w : World) (tgt : Expr) (ce : Env) (I : Addr) (fp wr : List Addr) (n : Nat) (Bd : Nat → (Str → Option Value) → Prop) (St : Nat → Heap → Prop) : Prop where
  sub : ∀ b ∈ wr, b ∈ fp
  (frame : ∀ i h h', St i h → (∀ b ∈ fp, ∀ o, h.get? b = some o → h'.get? b = some o) → St i h')
  one : ∀ (B : Around), B.handled = none → ∀ i (t : Shared) mp (K : Option Value → Shared → Prop) (E : Value → Shared → Prop), i < n → St i t.heap → t.heap.Ns ce.locals mp →
    (∀ v t1, wpAny (model prog w) B (letOwnedTupleGo tgt (.ref I) v) (fun _ t2 => wpAny (model prog w) B (assign tgt ce v) (fun _ t3 => ∃ h' tk mp', t3 = { t with heap := h', toks := tk } ∧ Bd i mp' ∧ St (i + 1) h' ∧ h'.Ns ce.locals mp' ∧
      ∀ b o, b ≠ ce.locals → b ∉ wr → t.heap.get? b = some o → h'.get? b = some o) (fun _ _ => False) t2) (fun _ _ => False) t1 → K (some v) t1) → wpAny (model prog w) B (pyNext (.ref I)) K E t
  done : ∀ (B : Around), B.handled = none → ∀ (t : Shared) (K : Option Value → Shared → Prop) (E : Value → Shared → Prop), St n t.heap →
    (∀ h' tk, (∀ b o, b ∉ wr → t.heap.get? b = some o → h'.get? b = some o) → K none { t with heap := h', toks := tk }) → wpAny (model prog w) B (pyNext (.ref I)) K E t
  self : ∀ (B : Around), B.handled = none → ∀ (t : Shared) (K : Value → Shared → Prop) (E : Value → Shared → Prop), St 0 t.heap → K (.ref I) t → wpAny (model prog w) B (pyIter (.ref I)) K E t
structure QuietD (prog : Program) (w : World) (ce : Env) (ifs : List Expr) (elt : Expr) (old wr fs : List Addr) (Bd : Nat → (Str → Option Value) → Prop) (pz : Nat → Bool) (F : Nat → Value → Prop) (ref : Heap) (fr : Option (List Env)) (D U : Nat) : Prop where
  tests : ∀ (B : Around) Ex i (t : Shared) mp, B.handled = none → B.frames = fr → B.depth ≤ D → B.units ≤ U → AllBare t.gens → Bd i mp → t.heap.Ns ce.locals mp → KeptO old wr fs ref t.heap →
    wpAny (model prog w) B (testsOf ifs ce) (fun ok t' => ok = pz i ∧ KeptG fs t t') Ex t
  elt : ∀ (B : Around) Ex i (t : Shared) mp, B.handled = none → B.frames = fr → B.depth ≤ D → B.units ≤ U → AllBare t.gens → Bd i mp → pz i = true → t.heap.Ns ce.locals mp → KeptO old wr fs ref t.heap →
    wpAny (model prog w) B (eval elt ce) (fun y t' => F i y ∧ KeptG fs t t') Ex t
section
variable {w : World} {prog : Program} {A : Around}
abbrev loopD (elt : Expr) (tgt : Expr) (iter : Expr) (ifs : List Expr) (scope : Scope) (pos : Pos) (I : Addr) (ce : Env) : Code := .compLoop (.GeneratorExp elt [⟨tgt, iter, ifs, 0⟩] scope pos) 0 (.ref I) .none ce
abbrev startD (elt : Expr) (tgt : Expr) (iter : Expr) (ifs : List Expr) (scope : Scope) (pos : Pos) (I : Addr) (ce : Env) : Code := .compStart (.GeneratorExp elt [⟨tgt, iter, ifs, 0⟩] scope pos) 0 (.ref I) .none ce
theorem seg_loopD {elt iter : Expr} {tgt : Expr} {ifs : List Expr} {scope : Scope} {pos : Pos} {I : Addr} {fp old wr fs : List Addr} {n : Nat} {Bd : Nat → (Str → Option Value) → Prop} {St : Nat → Heap → Prop} {ce : Env} {fr : Option (List Env)}
    (quiet0 : A.handled = none) (frA : (A.over (loopD elt tgt iter ifs scope pos I ce) []).frames = fr) (Wk : Draws2 prog w tgt ce I fp wr n Bd St) (pz : Nat → Bool) (F : Nat → Value → Prop) (ref : Heap)
    (noco : ce.scope.isCoroutine = false) (apart : ce.locals ∉ fp) (apartO : ce.locals ∉ old) (sepF : ∀ b ∈ fp, b ∉ fs) (hQ : QuietD prog w ce ifs elt old wr fs Bd pz F ref fr (A.depth + 1) (A.units + 3)) :
    ∀ (k i : Nat) (t0 t : Shared) (mp : Str → Option Value), n - i = k → i ≤ n → St i t.heap → t.heap.Ns ce.locals mp → SinceG ce.locals wr fs t0 t →
      KeptO old wr fs ref t.heap →
      Seg (model prog w) A (endB ce.locals wr fs) (protoB ce.locals fp old wr fs pz n F) (passing pz n i).length t0 (loopD elt tgt iter ifs scope pos I ce) ((model prog w).den (loopD elt tgt iter ifs scope pos I ce)) [] t := by
  have q0 : (A.over (loopD elt tgt iter ifs scope pos I ce) []).handled = none := quiet0
  have qd : (A.over (loopD elt tgt iter ifs scope pos I ce) []).depth ≤ A.depth + 1 := Nat.le_of_eq rfl
  have qu : (A.over (loopD elt tgt iter ifs scope pos I ce) []).units ≤ A.units + 3 := Nat.le_of_eq rfl
  have offW : ce.locals ∉ wr := fun z => apart (Wk.sub _ z)
  intro k
  induction k with
  | zero =>
    intro i t0 t mp ek il st ns since kept
    obtain rfl : i = n := by omega
    show Seg _ A _ _ _ t0 _ ((compTurn (.GeneratorExp elt [⟨tgt, iter, ifs, 0⟩] scope pos) 0 (.ref I) .none ce).onRaise (leaving ce)) [] t
    (rw [compTurn_gen, Sem.onRaise_eq_wrap])
    (refine seg_bind_wrap (wpAny_standAt ?_))
    refine seg_bind_wrap (Wk.done _ q0 t _ _ st fun hp tk stay => ?_)
    exact seg_end (.ok .next) ⟨rfl, by rw [passing_end]; rfl, since.step fun b o _ nw it => stay b o nw it⟩
  | succ k again =>
    intro i t0 t mp ek il st ns since kept
    have more : i < n := by omega
    show Seg _ A _ _ _ t0 _ ((compTurn (.GeneratorExp elt [⟨tgt, iter, ifs, 0⟩] scope pos) 0 (.ref I) .none ce).onRaise (leaving ce)) [] t
    (rw [compTurn_gen, Sem.onRaise_eq_wrap])
    (refine seg_bind_wrap (wpAny_standAt ?_))
    refine seg_bind_wrap (Wk.one _ q0 i t mp _ _ more st ns fun v t1 h1 => ?_)
    refine seg_bind_wrap (wpAny_mono h1 (fun _ t2 h2 => ?_) fun _ _ z => z.elim)
    refine seg_bind_wrap (wpAny_mono h2 (fun _ t3 h3 => ?_) fun _ _ z => z.elim)
    obtain ⟨hb, tk, mp', rfl, bound, stb, nsb, stayB⟩ := h3
    have keptB : KeptO old wr fs ref hb := kept.exact fun b hm nw o it => stayB b o (fun z => apartO (z ▸ hm)) nw it
    have bareT : AllBare t.gens := since.bare
    refine seg_bind_wrap (GenW.wpAny_gsz (n := t.gens.size) (Nat.le_refl _) (wpAny_mono (hQ.tests _ _ i _ _ q0 frA qd qu bareT bound nsb keptB) (fun ok tc kc szc => ?_) fun _ _ z => z))
    obtain ⟨rfl, kc⟩ := kc
    have stc : St (i + 1) tc.heap := Wk.frame _ _ _ stb fun b hm o it => (kc.heap b o it).1 (sepF b hm)
    have nsc := kc.heap.ns nsb
    have sinceC : SinceG ce.locals wr fs t0 tc := (since.step stayB).more szc kc
    cases ep : pz i with
    | false =>
      rw [passing_false more ep]
      (simp only [Bool.false_eq_true, if_false])
      exact seg_again rfl (again (i + 1) t0 _ _ (by omega) more stc nsc sinceC (keptB.km kc.heap))
    | true =>
      rw [passing_true more ep, List.length_cons]
      simp only [if_true]
      have out : ∀ v, yieldOut ce v = yieldValue v := fun v => by simp only [yieldOut, noco, Bool.false_eq_true, if_false]
      simp only [out]
      (rw [Sem.bind_eq_wrap', Sem.bind_eq_wrap', Sem.wrap_wrap, Sem.wrap_wrap])
      refine seg_wrap (GenW.wpAny_gsz (n := tc.gens.size) (Nat.le_refl _) (wpAny_mono (hQ.elt _ _ i _ _ q0 frA qd qu sinceC.bare bound ep nsc (keptB.km kc.heap)) (fun y td hd szd => ?_) fun _ _ z => z))
      obtain ⟨fy, kd⟩ := hd
      refine seg_at (seg_yield rfl rfl rfl ⟨⟨i, passing_here more ep, fy⟩, sinceC.more szd kd, fun u hal bu => ?_⟩)
      refine seg_again rfl (again (i + 1) u u _ (by omega) more (Wk.frame _ _ _ stc fun b hm o it => hal b (List.mem_cons_of_mem _ (List.mem_append_left _ hm)) o ((kd.heap b o it).1 (sepF b hm)))
        ((kd.heap.ns nsc).at' fun o it => hal _ (List.mem_cons_self ..) o it) (SinceG.refl bu) (((keptB.km kc.heap).km kd.heap).exact fun b hm _ o it => hal b (List.mem_cons_of_mem _ (List.mem_append_right _ hm)) o it))
theorem seg_startD {elt iter : Expr} {tgt : Expr} {ifs : List Expr} {scope : Scope} {pos : Pos} {I : Addr} {fp old wr fs : List Addr} {n : Nat} {Bd : Nat → (Str → Option Value) → Prop} {St : Nat → Heap → Prop} {ce : Env} {fr : Option (List Env)}
    (quiet0 : A.handled = none) (frA : (A.over (loopD elt tgt iter ifs scope pos I ce) []).frames = fr) (Wk : Draws2 prog w tgt ce I fp wr n Bd St) (pz : Nat → Bool) (F : Nat → Value → Prop) (ref : Heap)
    (noco : ce.scope.isCoroutine = false) (apart : ce.locals ∉ fp) (apartO : ce.locals ∉ old) (sepF : ∀ b ∈ fp, b ∉ fs) (hQ : QuietD prog w ce ifs elt old wr fs Bd pz F ref fr (A.depth + 1) (A.units + 3))
    (t0 t : Shared) (mp : Str → Option Value) (st : St 0 t.heap) (ns : t.heap.Ns ce.locals mp) (since : SinceG ce.locals wr fs t0 t) (kept : KeptO old wr fs ref t.heap) :
    Seg (model prog w) A (endB ce.locals wr fs) (protoB ce.locals fp old wr fs pz n F) (passing pz n 0).length t0 (startD elt tgt iter ifs scope pos I ce) ((model prog w).den (startD elt tgt iter ifs scope pos I ce)) [] t := by
  have q0 : (A.over (startD elt tgt iter ifs scope pos I ce) []).handled = none := quiet0
  have lp := seg_loopD (iter := iter) (scope := scope) (pos := pos) quiet0 frA Wk pz F ref noco apart apartO sepF hQ n 0 t0 t mp (Nat.sub_zero _) (Nat.zero_le _) st ns since kept
  show Seg _ A _ _ _ t0 _ ((compStart (.GeneratorExp elt [⟨tgt, iter, ifs, 0⟩] scope pos) 0 (.ref I) .none ce).onRaise (leaving ce)) [] t
  unfold compStart
  rw [Sem.onRaise_eq_wrap]
  show Seg _ A _ _ _ t0 _ ((ask >>= _).wrap _ _ _ _) [] t
  (refine seg_bind_wrap (wpAny_askSetting ?_))
  split
  · exact seg_again rfl lp
  · first
      | exact seg_bind_wrap (wpAny_rule (seg_bind_wrap (wpAny_standAt (seg_bind_wrap (Wk.self _ q0 t _ _ st (seg_again rfl lp))))))
      | (refine seg_bind_wrap (wpAny_rule ?_)
         show Seg _ A _ _ _ t0 _ ((standAt iter.pos >>= _).wrap _ _ _ _) [] t
         exact seg_bind_wrap (wpAny_standAt (seg_bind_wrap (Wk.self _ q0 t _ _ st (seg_again rfl lp)))))
theorem AtB.freshD {elt iter : Expr} {tgt : Expr} {ifs : List Expr} {scope : Scope} {pos : Pos} {I a : Addr} {g : Nat} {fp old wr fs : List Addr} {n : Nat} {Bd : Nat → (Str → Option Value) → Prop} {St : Nat → Heap → Prop} {ce : Env} {fr : Option (List Env)}
    (quiet0 : A.handled = none) (frA : (A.in1.over (loopD elt tgt iter ifs scope pos I ce) []).frames = fr) (Wk : Draws2 prog w tgt ce I fp wr n Bd St) (pz : Nat → Bool) (F : Nat → Value → Prop)
    (noco : ce.scope.isCoroutine = false) (apart : ce.locals ∉ fp) (apartO : ce.locals ∉ old) (sepF : ∀ b ∈ fp, b ∉ fs) {t : Shared} {mp : Str → Option Value} (hQ : QuietD prog w ce ifs elt old wr fs Bd pz F t.heap fr (A.depth + 1) (A.units + 4))
    (gen : t.heap.IsGen a g) (new : t.gens[g]? = some (.fresh (startD elt tgt iter ifs scope pos I ce))) (st : St 0 t.heap) (ns : t.heap.Ns ce.locals mp) (lim : t.heap.NoLimit) (bare : AllBare t.gens) : AtB prog w A a g ce.locals fp old wr fs pz n F 0 t :=
  ⟨gen, lim, bare, _, new, fun u hal bu => ⟨rfl, seg_startD (A := A.in1) quiet0 frA Wk pz F t.heap noco apart apartO sepF hQ u u mp (Wk.frame _ _ _ st fun b hm o it => hal b (List.mem_cons_of_mem _ (List.mem_append_left _ hm)) o it)
    (ns.at' fun o it => hal _ (List.mem_cons_self ..) o it) (SinceG.refl bu) fun b hm _ o it => ⟨fun _ => hal b (List.mem_cons_of_mem _ (List.mem_append_right _ hm)) o it, o.slots, hal b (List.mem_cons_of_mem _ (List.mem_append_right _ hm)) o it⟩⟩⟩
end
section
variable {w : World} {prog : Program} {A : Around} {E : Value → Shared → Prop} {s : Shared}
/-- what the maker of such a generator has to know, behind the code object and the builtins -/
def MadeD (prog : Program) (w : World) (A : Around) (env : Env) (elt iter tgt : Expr) (ifs : List Expr) (scope : Scope) (cl : List (Str × Addr)) (pos : Pos) (Q : Value → Shared → Prop) (it code : Value) (bi : Addr) (t : Shared) : Prop :=
  AllBare t.gens ∧ ∃ (I : Addr) (fp wr fs : List Addr) (n : Nat) (Bd : Nat → (Str → Option Value) → Prop) (St : Nat → Heap → Prop) (pz : Nat → Bool) (F : Nat → Value → Prop), it = .ref I ∧ Draws2 prog w tgt (genEnv scope cl t.heap.objs.size code bi env) I fp wr n Bd St ∧ St 0 t.heap ∧
    (∀ b ∈ fp, b < t.heap.objs.size) ∧ t.heap.NoLimit ∧ cStatics ∉ wr ∧ (∀ b ∈ fs, b ≤ t.heap.objs.size) ∧ (∀ b ∈ fp, b ∉ fs) ∧ cStatics ∉ fs ∧
    (∀ ref : Heap, (∀ b o, t.heap.get? b = some o → ref.get? b = some o) →
      QuietD prog w (genEnv scope cl t.heap.objs.size code bi env) ifs elt (List.range t.heap.objs.size) wr fs Bd pz F ref (A.in4.in1.over (loopD elt tgt iter ifs scope pos I (genEnv scope cl t.heap.objs.size code bi env)) []).frames (A.depth + 1) (A.units + 8)) ∧
    ∀ a hp tk gs, gs.bare = true → t.heap.objs.size < a → hp.objs.size = a + 1 → (∀ b o, t.heap.get? b = some o → hp.get? b = some o) →
      WalksV prog w A.in4 a (t.heap.objs.size :: wr) fs (passing pz n 0).length (fun j y => ∃ i, (passing pz n 0)[j]? = some i ∧ F i y) (AtB prog w A.in4 a t.gens.size t.heap.objs.size fp (List.range t.heap.objs.size) wr fs pz n F) →
      AtB prog w A.in4 a t.gens.size t.heap.objs.size fp (List.range t.heap.objs.size) wr fs pz n F 0 { t with gens := t.gens.push gs, toks := tk, heap := hp } → Q (.ref a) { t with gens := t.gens.push gs, toks := tk, heap := hp }
theorem genexpD {env : Env} {elt iter : Expr} {tgt : Expr} {ifs : List Expr} {scope : Scope} {cl : List (Str × Addr)} {pos : Pos} {Q : Value → Shared → Prop}
    (quiet0 : A.handled = none) (noco : scope.isCoroutine = false) (clo : closureFor scope env = pure cl) (nocell : ∀ y ∈ scope.names, y.2 ≠ .cell) (dot0 : scope.names.lookup (".0" : Str) = some NameKind.local)
    (kd : scope.kind = .function) (room : A.depth < recursionLimit)
    (h : wpAny (model prog w) A (eval iter env) (fun xv t1 => wpAny (model prog w) A (pyIter xv) (fun it t2 => t2.heap.NoLimit ∧
      wpAny (model prog w) A (genexprCode env pos (env.qual ++ "<genexpr>") scope) (fun code t3 => wpAny (model prog w) A (builtinsFor env.globals env.builtins) (fun bi t4 => MadeD prog w A env elt iter tgt ifs scope cl pos Q it code bi t4) E t3) E t2) E t1) E s)
    (nofold : ∀ v, genFold iter env v = pure v) : wpAny (model prog w) A (eval (.GeneratorExp elt [⟨tgt, iter, ifs, 0⟩] scope pos) env) Q E s := by
  refine wpAny_GeneratorExp_make noco clo nocell dot0 kd room (wpAny_mono h (fun xv t1 a1 => wpAny_mono a1 (fun it t2 a2 => ⟨a2.1, wpAny_mono a2.2 (fun code t3 a3 => wpAny_mono a3 (fun bi t4 a4 => ?_)
    fun _ _ z => z) fun _ _ z => z⟩) fun _ _ z => z) fun _ _ z => z) nofold
  obtain ⟨bare, I, fp, wr, fs, n, Bd, St, pz, F, rfl, Wk, st, low, lim, csW, lowF, sepF, csF, hQ, want⟩ := a4
  have cl4 : cStatics < t4.heap.objs.size := by
    obtain ⟨_, q, _⟩ := lim
    exact q.lt
  intro hp nsp same
  have sz : hp.objs.size = t4.heap.objs.size + 1 := by rw [same.1, Heap.size_push]
  have keep : ∀ b o, t4.heap.get? b = some o → hp.get? b = some o := fun b o it => same.extBut b o (Nat.ne_of_lt (Heap.lt_size it)) (Heap.get?_push_of_some _ it)
  have inR : ∀ b ∈ wr, b ∈ List.range t4.heap.objs.size := fun b hb => List.mem_range.mpr (low b (Wk.sub b hb))
  have nC : hp.objs.size ≠ t4.heap.objs.size := by
    rw [sz]
    exact Nat.succ_ne_self _
  have nR : hp.objs.size ∉ List.range t4.heap.objs.size := fun z => by
    have := List.mem_range.mp z
    omega
  have keep5 : ∀ b o, t4.heap.get? b = some o → (hp.push { cls := .type "generator", data := .fields #[.int t4.gens.size 0, .str "<genexpr>" (t4.toks + 1), .str (env.qual ++ "<genexpr>") (t4.toks + 1 + 1)] }).get? b = some o :=
    fun b o it => Heap.get?_push_of_some _ (keep b o it)
  refine want _ _ _ _ rfl (by omega) (by rw [Heap.size_push]) keep5 (walksB (A := A.in4) quiet0 _ _ _ fp _ wr fs pz n F nC (fun z => nR (inR _ z)) (fun z => by have h9 : (hp.objs.size : Nat) ≤ t4.heap.objs.size := lowF _ z; omega) room (Nat.ne_of_lt cl4) csW csF) ?_
  refine AtB.freshD (A := A.in4) (ce := genEnv scope cl t4.heap.objs.size code bi env) (mp := fun y => if y = ".0" then some (.ref I) else none) quiet0 rfl
    Wk pz F noco
    (fun z => Nat.lt_irrefl _ (low _ z)) (fun z => Nat.lt_irrefl _ (List.mem_range.mp z)) sepF (hQ _ keep5) ⟨_, _, _, Heap.get?_push_size _ rfl, rfl, rfl, rfl⟩ (Array.getElem?_push_size ..) (Wk.frame _ _ _ st fun b _ o it => keep5 b o it) (nsp.push _) (lim.keeps keep5) (bare.push rfl)
end
end V3
/-! Turns over pairs: the target is two names. -/
namespace V3
open PySem.Spec PySem L2 PyProof.Rows GxR
section
variable {w : World} {prog : Program}
theorem Draws2.pair {a b : Str} {pa pb tp : Pos} {kk : Nat} {ce : Env} {I : Addr} {fp wr : List Addr} {n : Nat} {Pt : Nat → Array Value → Prop} {St : Nat → Heap → Prop} {Mid : Nat → Addr → Heap → Prop}
    (Wk : ∀ B : Around, B.handled = none → WalksT prog w B I fp wr n Pt St Mid) (two : ∀ i vals, Pt i vals → ∃ x y, vals = #[x, y]) (ka : ce.kindOf a = some .local) (kb : ce.kindOf b = some .local) (ab : (a = b) = False)
    (plain : (ce.scope.kind == .class || (ce.scope.kind == .module && ce.locals != ce.globals)) = false) (apart : ce.locals ∉ fp) :
    Draws2 prog w (.Tuple [.Name a pa, .Name b pb] kk tp) ce I fp wr n (fun i mp => ∃ x y, Pt i #[x, y] ∧ mp a = some x ∧ mp b = some y) St where
  sub := (Wk callerA rfl).sub
  frame := (Wk callerA rfl).frame
  one := fun B q i t mp K E il st ns told => by
    have offW : ce.locals ∉ wr := fun z => apart ((Wk B q).sub _ z)
    refine (Wk B q).item i t K E il st fun T vals h1 tk pt low tup mid keep1 => told _ _ ((Wk B q).go _ _ _ i T _ _ _ mid fun h2 st2 keep2 => ?_)
    obtain ⟨x, y, rfl⟩ := two i vals pt
    have tup2 : h2.IsTuple T #[x, y] := by
      obtain ⟨o, e, r⟩ := tup
      exact ⟨o, keep2 T o ((Wk B q).apart i T _ mid) e, r⟩
    have ns2 : h2.Ns ce.locals mp := ns.at' fun o it => keep2 _ o offW (keep1 _ o offW it)
    refine wpAny_assign_Tuple (s := { t with heap := h2, toks := tk }) q tup2 rfl rfl fun h3 ext => ?_
    have keep3 : ∀ c o, h2.get? c = some o → h3.get? c = some o := fun c o it => ext c o (Nat.ne_of_lt (Heap.lt_size it)) it
    refine assignInOrder_cons (wpAny_assign_Name (wpAny_storeName_local ka (ns2.at' fun o it => keep3 _ o it) (fun h4 ns4 same4 => ?_) plain))
    refine assignInOrder_cons (wpAny_assign_Name (wpAny_storeName_local kb ns4 (fun h5 ns5 same5 => ?_) plain))
    refine assignInOrder_nil ⟨h5, _, _, rfl, ⟨x, y, pt, ?_, by simp⟩, (Wk B q).frame _ h2 h5 st2 fun c hc o it => same5.extBut c o (fun z => apart (z ▸ hc)) (same4.extBut c o (fun z => apart (z ▸ hc)) (keep3 c o it)), ns5, fun c o nc nw it =>
      same5.extBut c o nc (same4.extBut c o nc (keep3 c o (keep2 c o nw (keep1 c o nw it))))⟩
    rw [if_neg (fun z => by rw [← ab]; exact z), if_pos rfl]
  done := fun B q t K E st k => (Wk B q).done t K E st k
  self := fun B q t K E st k => (Wk B q).self 0 t K E st k
end
end V3
set_option maxHeartbeats 8100000
/-! A generator expression over any iterator, its element told by small rules inside its own frame; all and any over it. -/
namespace V3
open PySem.Spec PySem L2 PyProof.Rows GxR RZ
theorem KeptG.refl {fs : List Addr} {t : Shared} (b : AllBare t.gens) : KeptG fs t t := ⟨rfl, b, KM.exact fun _ _ it => it⟩
theorem KeptG.trans {fs : List Addr} {t t1 t2 : Shared} (p : KeptG fs t t1) (q : KeptG fs t1 t2) : KeptG fs t t2 := ⟨q.os.trans p.os, q.bare, p.heap.trans q.heap⟩
/-- the element's own frame; Ok: the states that it may stand in -/
structure GF (X : Cx) (H : Hp) (h : Heap) (σ : L2.St) (scope : Scope) (ce : Env) (B : Around) (mp : Str → Option Value) (Ok : Shared → Prop) : Prop where
  inv : ∃ (pins : List (Addr × Obj)) (s : Shared), s.heap = h ∧ Inv X pins σ H s
  b0 : B.handled = none
  bf : B.frames = some (ce :: X.stack)
  bd : B.depth ≤ X.A.depth + 1
  bu : B.units ≤ X.A.units + 8
  sc : ce.scope = scope
  kind : scope.kind = .function
  glob : ce.globals = mainGlobals
  inGen : ∀ t, Ok t → InGen X H h ce 0 t
  ns : ∀ t, Ok t → t.heap.Ns ce.locals mp
  next : ∀ t t', Ok t → KeptG (frs (ce :: X.stack)) t t' → Ok t'
  tok : ∀ t n, Ok t → Ok { t with toks := n }
  cell : ∀ (cn : Str) (ic : Nat) (vc : V), Cap X scope cn ic → σ[ic]? = some (some vc) → ∃ uc, RelV vc uc ∧ ∀ (p : Pos) Ex (R : Value → Shared → Prop) t, Ok t → R uc t → wpAny (model X.prog X.w) B (eval (.Name cn p) ce) R Ex t
def GE (X : Cx) (ce : Env) (B : Around) (Ok : Shared → Prop) (e : Expr) (P : V → Prop) : Prop :=
  ∀ (Ex : Value → Shared → Prop) (t : Shared), Ok t → wpAny (model X.prog X.w) B (eval e ce) (fun u t' => (∃ v, RelV v u ∧ P v) ∧ KeptG (frs (ce :: X.stack)) t t') Ex t
section
variable {X : Cx} {H : Hp} {h : Heap} {σ : L2.St} {scope : Scope} {ce : Env} {B : Around} {mp : Str → Option Value} {Ok : Shared → Prop} {e e1 e2 : Expr} {P P1 P2 : V → Prop}
theorem GF.bare (G : GF X H h σ scope ce B mp Ok) {t : Shared} (ok : Ok t) : AllBare t.gens := (G.inGen t ok).bare
theorem ge_loc {x : Str} {p : Pos} {u : Value} {v : V} (G : GF X H h σ scope ce B mp Ok) (hl : scope.names.lookup x = some .local) (hm : mp x = some u) (r : RelV v u) (pv : P v) (dx : (x == ("__debug__" : Str)) = false := by decide) : GE X ce B Ok (.Name x p) P :=
  fun Ex t ok => wpAny_Name (wpAny_loadName_local (by rw [G.sc]; exact G.kind) (by show ce.scope.names.lookup x = _; rw [G.sc]; exact hl) (G.ns t ok) hm ⟨⟨v, r, pv⟩, KeptG.refl (G.bare ok)⟩) dx
theorem ge_cap {x : Str} {p : Pos} {ic : Nat} {v : V} (G : GF X H h σ scope ce B mp Ok) (C : Cap X scope x ic) (hv : σ[ic]? = some (some v)) (pv : P v) : GE X ce B Ok (.Name x p) P := fun Ex t ok => by
  obtain ⟨uc, r, go⟩ := G.cell x ic v C hv
  exact go p Ex _ t ok ⟨⟨v, r, pv⟩, KeptG.refl (G.bare ok)⟩
theorem ge_glob {x : Str} {p : Pos} {u : Value} {v : V} (G : GF X H h σ scope ce B mp Ok) (kf : scope.names.lookup x = some .globalImplicit) (hm : X.mg x = some u) (r : RelV v u) (pv : P v) (dx : (x == ("__debug__" : Str)) = false := by decide) : GE X ce B Ok (.Name x p) P := fun Ex t ok => by
  obtain ⟨pins, s, _, I⟩ := G.inv
  exact Calls.Name_function_global (by rw [G.sc]; exact G.kind) (by show ce.scope.names.lookup x = _; rw [G.sc]; exact kf) (Calls.loadGlobal_global (by rw [G.glob]; exact I.mod.glob.keeps (G.inGen t ok).base) hm ⟨⟨v, r, pv⟩, KeptG.refl (G.bare ok)⟩) dx
theorem ge_int {i : Int} {j : Nat} {p : Pos} (G : GF X H h σ scope ce B mp Ok) (pv : P (.int i)) : GE X ce B Ok (.Constant (.int i) j p) P := fun Ex t ok =>
  wpAny_Constant_int ⟨⟨.int i, ⟨_, rfl⟩, pv⟩, ⟨rfl, G.bare (t := t) ok, KM.exact fun _ _ it => it⟩⟩
theorem ge_imp {P2 : V → Prop} (a : GE X ce B Ok e P) (i : ∀ v, P v → P2 v) : GE X ce B Ok e P2 := fun Ex t ok => thn (a Ex t ok) fun u t' ⟨⟨v, r, pv⟩, k⟩ => ⟨⟨v, r, i v pv⟩, k⟩
theorem ge_add {p : Pos} (G : GF X H h σ scope ce B mp Ok) (a : GE X ce B Ok e1 P1) (b : GE X ce B Ok e2 P2) (q : ∀ x y, P1 x → P2 y → ∃ i j, x = .int i ∧ y = .int j ∧ P (.int (i + j))) : GE X ce B Ok (.BinOp e1 .Add e2 p) P := fun Ex t ok => by
  refine wpAny_BinOp (thn (a Ex t ok) fun u1 t1 ⟨⟨x, r1, p1⟩, k1⟩ => thn (b Ex t1 (G.next _ _ ok k1)) fun u2 t2 ⟨⟨y, r2, p2⟩, k2⟩ => ?_)
  obtain ⟨i, j, rfl, rfl, pv⟩ := q x y p1 p2
  obtain ⟨t', rfl⟩ := r1
  obtain ⟨t'', rfl⟩ := r2
  exact add_int ⟨⟨.int _, ⟨_, rfl⟩, pv⟩, k1.trans (k2.trans ⟨rfl, k2.bare, KM.exact fun _ _ it => it⟩)⟩
theorem ge_cmp {p : Pos} {op : CmpOp} {f : Int → Int → Bool} (G : GF X H h σ scope ce B mp Ok) (a : GE X ce B Ok e1 P1) (b : GE X ce B Ok e2 P2) (hm : behindInMarks op e2 = false)
    (rule : ∀ (i j : Int) (t u : Tok) (Q E : Value → Shared → Prop) (s : Shared), Q (.bool (f i j)) s → wpAny (model X.prog X.w) B (compareOp op (.int i t) (.int j u)) Q E s)
    (q : ∀ x y, P1 x → P2 y → ∃ i j, x = .int i ∧ y = .int j ∧ P (.bl (f i j))) : GE X ce B Ok (.Compare e1 [op] [e2] p) P := fun Ex t ok => by
  refine wpAny_Compare1 (thn (a Ex t ok) fun u1 t1 ⟨⟨x, r1, p1⟩, k1⟩ => thn (b Ex t1 (G.next _ _ ok k1)) fun u2 t2 ⟨⟨y, r2, p2⟩, k2⟩ => ?_) (by first | exact hm | assumption)
  obtain ⟨i, j, rfl, rfl, pv⟩ := q x y p1 p2
  obtain ⟨t', rfl⟩ := r1
  obtain ⟨t'', rfl⟩ := r2
  exact rule _ _ _ _ _ _ _ ⟨⟨.bl _, rfl, pv⟩, k1.trans k2⟩
theorem ge_not {p : Pos} (G : GF X H h σ scope ce B mp Ok) (a : GE X ce B Ok e P1) (q : ∀ x, P1 x → ∃ c, x = .bl c ∧ P (.bl (!c))) : GE X ce B Ok (.UnaryOp .Not e p) P := fun Ex t ok => by
  refine UnaryOp_ (thn (a Ex t ok) fun u1 t1 ⟨⟨x, r1, p1⟩, k1⟩ => ?_)
  obtain ⟨c, rfl, pv⟩ := q x p1
  cases r1
  exact not_of (wpAny_truthy_bool ⟨⟨.bl (!c), rfl, pv⟩, k1⟩)
theorem ge_one {p : Pos} {op : BoolOp} (a : GE X ce B Ok e P) : GE X ce B Ok (.BoolOp op [e] p) P := fun Ex t ok => BoolOp_one (a Ex t ok)
theorem ge_and {p : Pos} {rest : List Expr} {c : Bool} (G : GF X H h σ scope ce B mp Ok) (a : GE X ce B Ok e1 (· = .bl c)) (b : c = true → GE X ce B Ok (.BoolOp .And (e2 :: rest) p) P) (q : c = false → P (.bl false)) : GE X ce B Ok (.BoolOp .And (e1 :: e2 :: rest) p) P := fun Ex t ok => by
  refine BoolOp_and (thn (a Ex t ok) fun u1 t1 ⟨⟨x, r1, p1⟩, k1⟩ => ?_)
  subst p1
  cases r1
  refine wpAny_truthy_bool ?_
  cases c with
  | true => exact thn (b rfl Ex t1 (G.next _ _ ok k1)) fun u t' ⟨z, k2⟩ => ⟨z, k1.trans k2⟩
  | false => exact ⟨⟨.bl false, rfl, q rfl⟩, k1⟩
/-- an item of a tuple that stood when the generator was made -/
theorem ge_ix {p : Pos} {a : Addr} {xs : List V} {i : Int} {v : V} (G : GF X H h σ scope ce B mp Ok) (h1 : GE X ce B Ok e1 (· = .ref a)) (h2 : GE X ce B Ok e2 (· = .int i)) (hq : SqT X.K (fast h H) a xs) (he : atI xs i = some v) (pv : P v)
    (hs : ∀ o i, subscripted e2 false o i = operate [o, i] (getItem o i)) : GE X ce B Ok (.Subscript e1 e2 p) P := fun Ex t ok => by
  refine Subscript_ (thn (h1 Ex t ok) fun u1 t1 ⟨⟨x, r1, p1⟩, k1⟩ => thn (h2 Ex t1 (G.next _ _ ok k1)) fun u2 t2 ⟨⟨y, r2, p2⟩, k2⟩ => ?_)
  subst p1 p2
  cases r1
  obtain ⟨tk, rfl⟩ := r2
  have ok2 := G.next _ _ (G.next _ _ ok k1) k2
  have g := G.inGen t2 ok2
  obtain ⟨pins, s, _, I⟩ := G.inv
  have tup : ∃ its : List Value, Vals xs its ∧ IsTup t2.heap a its.toArray ∧ xs.length ≤ sizeLine := by
    rcases hq with z | ⟨o, its, n, hk, hc, hs2, hz, r⟩
    · obtain ⟨z, its, r, pp⟩ := z.ok g.ok
      exact ⟨its, r, pp, z⟩
    · refine ⟨its.toList, r, ⟨o, (I.mod.kin.keeps g.base) a o hk, hc, n, by simpa using hs2⟩, ?_⟩
      have e := r.length
      (simp only [Array.length_toList] at e)
      omega
  obtain ⟨its, r, pl, hz⟩ := tup
  (obtain ⟨j, h1, h2, h3, h4, h5⟩ := atI_get he)
  (obtain ⟨w, ew, rw'⟩ := r.get h2)
  have hl := r.length
  have hn := line63
  exact subscriptTail_builtinR (x := w) pl.typeIs slot_tuple_getitem.lookup (getItem_tuple (j := j) (Q := fun r s' => r = w ∧ ((∃ v, RelV v r ∧ P v) ∧ KeptG (frs (ce :: X.stack)) t s')) pl (by omega) (by omega) (by rw [List.size_toArray, ← hl]; exact h1) (by simpa using ew) ⟨rfl, ⟨v, rw', pv⟩, k1.trans k2⟩) (hs _ _)
theorem ge_call1 {fn : Str} {p0 pos0 : Pos} {k : Nat} {ps : List Str} {sp : Sp} (G : GF X H h σ scope ce B mp Ok) (D : Df X.prog X.w X.K X.mg X.base fn k ps sp) (hr : Room (k + 1) X.A) (kf : scope.names.lookup fn = some .globalImplicit) (h1 : GE X ce B Ok e1 P1)
    (ask : ∀ x, P1 x → sp [x] (fast h H) (fun v _ => P v) E0) (df : (fn == ("__debug__" : Str)) = false := by decide) (hs : ∀ env, starEach [e1] env = (false, eval e1 env) :: starEach [] env := by intro _; rfl) : GE X ce B Ok (.Call (.Name fn p0) [e1] [] pos0) P := fun Ex t ok => by
  obtain ⟨f, fd, gf, kp, bd, F, _⟩ := D.ex
  obtain ⟨pins, s, rfl, I⟩ := G.inv
  refine wpAny_Call_Name_kw (Calls.Name_function_global (by rw [G.sc]; exact G.kind) (by show ce.scope.names.lookup fn = _; rw [G.sc]; exact kf) (Calls.loadGlobal_global (by rw [G.glob]; exact I.mod.glob.keeps (G.inGen t ok).base) gf ?_) df)
  refine PySem.W.callWith_K (h₀ := X.base) I.ok.mod.kin kp ?_ (hs ce) (by rfl)
  rw [hs]
  show wpAny _ B (spliced ((false, eval e1 ce) :: [])) _ _ t
  refine Calls.spliced_cons (thn (h1 _ t ok) fun u1 t1 ⟨⟨x, r1, p1⟩, k1⟩ => ?_)
  have ok1 := G.next _ _ ok k1
  refine Calls.spliced_nil ⟨I.ok.mod.kin.keeps (G.inGen t1 ok1).base, ?_⟩
  exact gen_call (q := P) I F bd hr (G.inGen t1 ok1) G.b0 G.bf G.bd G.bu (.cons r1 .nil) (ask x p1) fun v2 u2 t2 qv rv2 kg => ⟨⟨v2, rv2, qv⟩, k1.trans kg⟩
theorem ge_call2 {fn : Str} {p0 pos0 : Pos} {k : Nat} {ps : List Str} {sp : Sp} (G : GF X H h σ scope ce B mp Ok) (D : Df X.prog X.w X.K X.mg X.base fn k ps sp) (hr : Room (k + 1) X.A) (kf : scope.names.lookup fn = some .globalImplicit) (h1 : GE X ce B Ok e1 P1) (h2 : GE X ce B Ok e2 P2)
    (ask : ∀ x y, P1 x → P2 y → sp [x, y] (fast h H) (fun v _ => P v) E0) (df : (fn == ("__debug__" : Str)) = false := by decide) (hs : ∀ env, starEach [e1, e2] env = (false, eval e1 env) :: starEach [e2] env := by intro _; rfl) (hs2 : ∀ env, starEach [e2] env = (false, eval e2 env) :: starEach [] env := by intro _; rfl) : GE X ce B Ok (.Call (.Name fn p0) [e1, e2] [] pos0) P := fun Ex t ok => by
  obtain ⟨f, fd, gf, kp, bd, F, _⟩ := D.ex
  obtain ⟨pins, s, rfl, I⟩ := G.inv
  refine wpAny_Call_Name_kw (Calls.Name_function_global (by rw [G.sc]; exact G.kind) (by show ce.scope.names.lookup fn = _; rw [G.sc]; exact kf) (Calls.loadGlobal_global (by rw [G.glob]; exact I.mod.glob.keeps (G.inGen t ok).base) gf ?_) df)
  refine PySem.W.callWith_K (h₀ := X.base) I.ok.mod.kin kp ?_ (hs ce) (by rw [hs2]; rfl)
  rw [hs, hs2]
  show wpAny _ B (spliced ((false, eval e1 ce) :: (false, eval e2 ce) :: [])) _ _ t
  refine Calls.spliced_cons (thn (h1 _ t ok) fun u1 t1 ⟨⟨x, r1, p1⟩, k1⟩ => ?_)
  have ok1 := G.next _ _ ok k1
  refine Calls.spliced_cons (thn (h2 _ t1 ok1) fun u2 t2 ⟨⟨y, r2, p2⟩, k2⟩ => ?_)
  have ok2 := G.next _ _ ok1 k2
  refine Calls.spliced_nil ⟨I.ok.mod.kin.keeps (G.inGen t2 ok2).base, ?_⟩
  exact gen_call (q := P) I F bd hr (G.inGen t2 ok2) G.b0 G.bf G.bd G.bu (.cons r1 (.cons r2 .nil)) (ask x y p1 p2) fun v2 u2 t2 qv rv2 kg => ⟨⟨v2, rv2, qv⟩, (k1.trans k2).trans kg⟩
end
/-- an iterator that stands ready -/
structure ItReady (X : Cx) (P : Addr) (h0 hz : Heap) (tgt : Expr) (scope : Scope) (I : Addr) (fp wr : List Addr) (n : Nat) (Bd : Nat → (Str → Option Value) → Prop) (St : Nat → Heap → Prop) : Prop where
  keep : ∀ b o, h0.get? b = some o → hz.get? b = some o
  grow : h0.objs.size ≤ hz.objs.size
  draws : ∀ ce : Env, ce.scope = scope → ce.locals ∉ fp → Draws2 X.prog X.w tgt ce I fp wr n Bd St
  sub : ∀ b ∈ wr, b ∈ fp
  st : St 0 hz
  low : ∀ b ∈ fp, b < hz.objs.size
  high : ∀ b ∈ wr, h0.objs.size ≤ b
  offP : ∀ b ∈ fp, b ≠ P
  offF : ∀ b ∈ fp, b ∉ frs X.stack
structure GenS0 (env : Env) (scope : Scope) : Prop where
  kind : scope.kind = .function
  (co : scope.isCoroutine = false)
  (cell : ∀ y ∈ scope.names, y.2 ≠ .cell)
  (dot : scope.names.lookup (".0" : Str) = some NameKind.local)
  (free : ∀ y ∈ scope.names, y.2 = .free → ∃ c, env.cells.lookup y.1 = some c)
section
variable {X : Cx}
theorem gen_core {pins : List (Addr × Obj)} {σ : L2.St} {H1 : Hp} {s0 : Shared} {hz : Heap} {c P I : Addr} {elt iter tgt : Expr} {scope : Scope} {gpos : Pos} {fp wr : List Addr} {n : Nat} {Bd : Nat → (Str → Option Value) → Prop} {St : Nat → Heap → Prop} {E : Value → Shared → Prop} {F : Nat → V → Prop} {Qg : Value → Shared → Prop} {k : Nat}
    (I0 : Inv X pins σ H1 s0) (hr : Room k X.A) (TB : TabB X.base X.mg c P) (hcode : X.env.code = .ref c) (S : GenS0 X.env scope) (rdy : ItReady X P s0.heap hz tgt scope I fp wr n Bd St) (tab : TabG H1 P)
    (helt : ∀ (ce : Env) (B : Around) (mp : Str → Option Value) (Ok : Shared → Prop) (i : Nat), Bd i mp → GF X H1 s0.heap σ scope ce B mp Ok → GE X ce B Ok elt (F i))
    (want : ∀ (g : Addr) (t5 : Shared) (wr' fs' : List Addr) (St' : Nat → Shared → Prop), WalksV X.prog X.w X.A.in4 g wr' fs' n (fun j y => ∃ v, RelV v y ∧ F j v) St' → St' 0 t5 → (∀ t', MovedV wr' fs' t5 t' → ∃ H2, Tabbed P H1 H2 ∧ Inv X pins σ H2 t') → Qg (.ref g) t5) :
    hz.NoLimit ∧ wpAny (model X.prog X.w) X.A (genexprCode X.env gpos (X.env.qual ++ "<genexpr>") scope) (fun code t3 => wpAny (model X.prog X.w) X.A (builtinsFor X.env.globals X.env.builtins) (fun bi t4 => MadeD X.prog X.w X.A X.env elt iter tgt [] scope (cloFrom X.env.cells scope.names []) gpos Qg (.ref I) code bi t4) E t3) E { s0 with heap := hz } := by
  obtain ⟨ptab, hP, htr⟩ := tab
  have I1 : Inv X pins σ H1 { s0 with heap := hz } := I0.kept (t' := s0.toks) rdy.keep
  have atP : s0.heap.get? P = some { cls := .none, data := .fields ptab } := I0.hok P _ hP
  have ltP : P < s0.heap.objs.size := Heap.lt_size atP
  have atP2 : hz.get? P = some { cls := .none, data := .fields ptab } := rdy.keep _ _ atP
  have hdC : PySem.W.CodeHd hz c P := TB.code.keeps fun b u e => I1.bk b u e
  have nol : hz.NoLimit := I1.nolimit
  have csB : ∃ o, X.base.get? cStatics = some o := by
    obtain ⟨_, q, _⟩ := I0.ok.mod.nolimit
    obtain ⟨o, es, ep, ho, _⟩ := q
    exact ⟨o, ho⟩
  have notFr : ∀ b o, X.base.get? b = some o → b ∉ frs X.stack := fun b o it z => by
    have := (frs_apart I0.stack z).1
    rw [it] at this
    cases this
  have frLow : ∀ b ∈ frs X.stack, b < s0.heap.objs.size := fun b z => by
    obtain ⟨_, o, ho, _⟩ := frs_apart I0.stack z
    exact Heap.lt_size ho
  have frNotP : P ∉ frs X.stack := fun z => by
    have := I0.stkFree P z
    rw [hP] at this
    cases this
  have cont : ∀ (code : Value) (hp3 : Heap) (tk : Nat) (ptab3 : Array Value), Heap.ExtBut P hz hp3 → hz.objs.size ≤ hp3.objs.size → hp3.get? P = some { cls := .none, data := .fields ptab3 } → (∃ more, ptab3 = ptab ++ more) → TriplesOk ptab3.toList →
      wpAny (model X.prog X.w) X.A (builtinsFor X.env.globals X.env.builtins) (fun bi t4 => MadeD X.prog X.w X.A X.env elt iter tgt [] scope (cloFrom X.env.cells scope.names []) gpos Qg (.ref I) code bi t4) E { s0 with heap := hp3, toks := tk } := by
    intro code hp3 tk ptab3 hx3 sz3 atP3 grown ok3
    (obtain ⟨bm, ob, e1, e2, e3, e4, e5, e6, e7, e8⟩ := TB.bm)
    have keep3 : ∀ b u, b ≠ P → hz.get? b = some u → hp3.get? b = some u := fun b u nb it => hx3 b u nb it
    have keep0 : ∀ b u, b ≠ P → s0.heap.get? b = some u → hp3.get? b = some u := fun b u nb it => hx3 b u nb (rdy.keep b u it)
    have baseNP : ∀ b o, X.base.get? b = some o → b ≠ P := fun b o it z => by
      have := (I0.bs b o it).2
      rw [z, hP] at this
      cases this
    obtain ⟨oCs, csAt⟩ := csB
    have csLow : cStatics < s0.heap.objs.size := Heap.lt_size (I0.bk _ _ csAt)
    have lowN : s0.heap.objs.size ≤ hp3.objs.size := Nat.le_trans rdy.grow sz3
    have fpLow : ∀ b ∈ fp, b < hp3.objs.size := fun b hb => Nat.lt_of_lt_of_le (rdy.low b hb) sz3
    have pall : passing (fun _ => true) n 0 = List.range n := GxR.passing_true _
    have wrHigh : ∀ b ∈ wr, s0.heap.objs.size ≤ b ∧ b < hp3.objs.size := fun b hb => ⟨rdy.high b hb, fpLow b (rdy.sub b hb)⟩
    refine wpAny_builtinsFor (m := X.mg) (by rw [I0.ok.glob]; exact (I1.mod.glob.keeps I1.bk).extBut hx3 TB.gP) e1 e2 (keep3 _ _ e4 (I1.bk _ _ e5)) e6 e7 e8 ?_
    have dr := rdy.draws (genEnv scope (cloFrom X.env.cells scope.names []) hp3.objs.size code builtinsNs X.env) rfl (fun z => Nat.lt_irrefl _ (fpLow _ z))
    refine ⟨I0.bare, I, fp, wr, hp3.objs.size :: frs X.stack, n, Bd, St, (fun _ => true), (fun i y => ∃ v, RelV v y ∧ F i v), rfl, dr, dr.frame 0 _ _ rdy.st (fun b hb o it => keep3 b o (rdy.offP b hb) it), fpLow, nol.extBut hx3 (baseNP _ _ csAt), ?_, ?_, ?_, ?_, ?_, ?_⟩
    · intro z
      exact absurd (wrHigh _ z).1 (Nat.not_le_of_lt csLow)
    · intro b hb
      show b ≤ hp3.objs.size
      rcases List.mem_cons.mp hb with (z | z)
      · rw [z]
        exact Nat.le_refl _
      · exact Nat.le_of_lt (Nat.lt_of_lt_of_le (frLow b z) lowN)
    · intro b hb hf
      rcases List.mem_cons.mp hf with (y | y)
      · have := fpLow b hb
        rw [y] at this
        exact Nat.lt_irrefl _ this
      · exact rdy.offF b hb y
    · intro z
      rcases List.mem_cons.mp z with (y | y)
      · have e : cStatics = hp3.objs.size := y
        rw [e] at csLow
        exact absurd csLow (Nat.not_lt_of_le lowN)
      · exact notFr _ _ csAt y
    · intro ref href
      refine ⟨fun B Ex i t mp hB fB dB uB bT bd ns kept => tests_none ⟨rfl, ⟨rfl, bT, KM.exact (fun _ _ it => it)⟩⟩, fun B Ex i t mp hB fB dB uB bT bd _ ns kept => ?_⟩
      have fB' : B.frames = some (genEnv scope (cloFrom X.env.cells scope.names []) hp3.objs.size code builtinsNs X.env :: X.stack) := by
        have e5 : X.A.in4.in1.frames = some X.stack := I0.ok.frames
        rw [fB]
        simp only [Around.over, List.map_nil]
        rw [e5]
        rfl
      have bszS : X.base.objs.size ≤ s0.heap.objs.size := Nat.le_trans I0.ok.bsz I0.sz
      have both : ∀ u : Heap, KeptO (List.range hp3.objs.size) wr (hp3.objs.size :: frs X.stack) ref u → ∀ b o, b ≠ P → s0.heap.get? b = some o → (b ∉ frs X.stack → u.get? b = some o) ∧ ∃ sl, u.get? b = some { o with slots := sl } := fun u kept b o nb it => by
        have lt := Heap.lt_size it
        have ltc : b < hp3.objs.size := Nat.lt_of_lt_of_le lt lowN
        obtain ⟨p1, p2⟩ := kept b (List.mem_range.mpr ltc) (fun z => absurd lt (Nat.not_lt_of_le (wrHigh b z).1)) o (href _ _ (keep0 b o nb it))
        exact ⟨fun nf => p1 fun z => (List.mem_cons.mp z).elim (fun y => Nat.ne_of_lt ltc y) nf, p2⟩
      have G : GF X H1 s0.heap σ scope (genEnv scope (cloFrom X.env.cells scope.names []) hp3.objs.size code builtinsNs X.env) B mp (fun u => AllBare u.gens ∧ u.heap.Ns hp3.objs.size mp ∧ KeptO (List.range hp3.objs.size) wr (hp3.objs.size :: frs X.stack) ref u.heap) := by
        refine ⟨⟨pins, s0, rfl, I0⟩, hB, fB', dB, uB, rfl, S.kind, I0.ok.glob, fun u ⟨ub, un, uk⟩ => ?_, fun u ok => ok.2.1, fun u u' ⟨ub, un, uk⟩ kg => ⟨kg.bare, kg.heap.ns un, uk.km kg.heap⟩, fun u n ok => ok, fun cn ic vc Cc hvc => ?_⟩
        · have bu := both u.heap uk
          have baseT : ∀ b o, X.base.get? b = some o → u.heap.get? b = some o := fun b o it => (bu b o (baseNP b o it) (I0.bk b o it)).1 (notFr b o it)
          obtain ⟨oC, esC, epC, atC, datC, moreC⟩ := id un
          have ltC : hp3.objs.size < u.heap.objs.size := Heap.lt_size atC
          refine ⟨baseT, Nat.le_trans bszS (Nat.le_of_lt (Nat.lt_of_le_of_lt lowN ltC)), ⟨?_, ⟨hp3.objs.size, oC, rfl, ?_, atC, fun vs z => ?_⟩, ?_⟩, fun b hb => ?_, ?_, ub⟩
          · show scope.kind ≠ .module
            rw [S.kind]
            exact fun z => nomatch z
          · cases eb : X.base.get? hp3.objs.size with
            | none => rfl
            | some o =>
              have := Nat.lt_of_lt_of_le (Heap.lt_size eb) bszS
              exact absurd this (Nat.not_lt_of_le lowN)
          · rw [datC] at z
            cases z
          · refine Heap.FunFrames.of_keeps (fun b o it nf => ?_) I0.stack
            have nb : b ≠ P := fun z => by
              rw [z, atP] at it
              cases it
              exact nf _ rfl
            obtain ⟨_, sl, z⟩ := bu b o nb it
            exact ⟨_, z, rfl⟩
          · rcases List.mem_cons.mp hb with (z | z)
            · rw [z]
              exact I0.hok.fresh lowN
            · exact I0.stkFree b z
          · refine fast_ok I0.hok fun b u2 o e nt it => (bu b o (fun z => ?_) it).1 fun z => ?_
            · rw [z, hP] at e
              exact nt ptab (Option.some.inj e).symm
            · have := I0.stkFree b z
              rw [e] at this
              cases this
        · obtain ⟨cc, uc, rc, look, cellAt⟩ := Cc.at I0 hvc
          refine ⟨uc, rc, fun p Ex R u ok q => Cc.eval S.kind rfl rfl look ?_ q⟩
          obtain ⟨o, ho, hd⟩ := cellAt
          have nb : cc ≠ P := fun z => by
            rw [z, atP] at ho
            cases ho
            cases hd
          obtain ⟨_, sl, z⟩ := both u.heap ok.2.2 cc o nb ho
          exact ⟨_, z, hd⟩
      exact helt _ B mp _ i bd G Ex t ⟨bT, ns, kept⟩
    · intro g hp5 tk5 gs gsb ltg szg k5 Wk at5
      have hg5 : hp3.objs.size < hp5.objs.size := by
        rw [szg]
        exact Nat.lt_succ_of_lt ltg
      have len : (passing (fun _ => true) n 0).length = n := by rw [pall, List.length_range]
      rw [len] at Wk
      refine want g _ _ _ _ ⟨fun i t Q E hi st kq => Wk.item i t Q E hi st fun v t' hy => kq v t' ?_, Wk.done, Wk.self⟩ at5 fun t' mv => ?_
      · obtain ⟨i2, hi2, hf⟩ := hy
        rw [pall, List.getElem?_range hi] at hi2
        rw [Option.some.inj hi2]
        exact hf
      · obtain ⟨more, rfl⟩ := grown
        have offW : ∀ b, b < s0.heap.objs.size → b ∉ hp3.objs.size :: wr := fun b lt z => by
          rcases List.mem_cons.mp z with (y | y)
          · rw [y] at lt
            exact absurd lt (Nat.not_lt_of_le lowN)
          · exact absurd lt (Nat.not_lt_of_le (wrHigh _ y).1)
        have kB : ∀ b o, b < s0.heap.objs.size → hp3.get? b = some o → (b ∉ frs X.stack → t'.heap.get? b = some o) ∧ ∃ sl, t'.heap.get? b = some { o with slots := sl } := fun b o lt it => by
          obtain ⟨p1, p2⟩ := mv.heap b o (offW b lt) (k5 b o it)
          exact ⟨fun nf => p1 fun z => (List.mem_cons.mp z).elim (fun y => absurd (Nat.lt_of_lt_of_le lt lowN) (by rw [y]; exact Nat.lt_irrefl _)) nf, p2⟩
        have J := inv_gen (t' := t') (more := more) I0 hP mv.os mv.bare (fun b o nb it => kB b o (Heap.lt_size it) (keep0 b o nb it)) ((kB P _ ltP atP3).1 frNotP)
        exact ⟨_, ⟨⟨ptab ++ more, upd_same, ok3⟩, fun b nb => upd_ne nb⟩, J⟩
  refine ⟨nol, ?_⟩
  cases among : codeAmong gpos ptab.toList with
  | none =>
    refine wpAny_genexprCodeX hcode (hdC.code atP2 htr) (hdC.tab atP2) among fun c2 hp2 tk hx2 ge2 lt2 isC _ tabA _ => ?_
    obtain ⟨o1, vs, f1, tf, fl, tg, inF, tx, tt, op, _, _, _, _, _, _, _, _, _, trs, _⟩ := isC
    exact cont _ hp2 tk _ hx2 (Nat.le_trans ge2 (Nat.le_of_lt lt2)) tabA.2 ⟨_, rfl⟩ trs
  | some cv =>
    refine wpAny_genexprCode_hit hcode (hdC.code atP2 htr) among ?_
    exact cont cv hz s0.toks ptab (Heap.ExtBut.refl _ _) (Nat.le_refl _) atP2 ⟨#[], by simp⟩ htr
end
end V3
/-! all(.. for i, x in enumerate(t)), the element told by small rules. -/
namespace V3
open PySem.Spec PySem L2 PyProof.Rows GxR RZ
section
variable {X : Cx}
/-- all over a generator that stands -/
theorem all_end {pins : List (Addr × Obj)} {σ : L2.St} {H1 : Hp} {P g : Addr} {t5 : Shared} {wr' fs' : List Addr} {St' : Nat → Shared → Prop} {n : Nat} {tr : Nat → Bool} {pos : Pos} {Q : VK}
    (Wk : WalksV X.prog X.w X.A.in4 g wr' fs' n (fun j y => ∃ v, RelV v y ∧ v = .bl (tr j)) St') (st : St' 0 t5) (on : ∀ t', MovedV wr' fs' t5 t' → ∃ H2, Tabbed P H1 H2 ∧ Inv X pins σ H2 t') (q : ∀ H2, Tabbed P H1 H2 → Q (.bl ((List.range n).all tr)) H2) :
    wpAny (model X.prog X.w) X.A (spliced (backTo pos (starEach [] X.env))) (fun vs t6 => wpAny (model X.prog X.w) X.A (call (.builtin "all") (.ref g :: vs)) (EP X pins σ Q) X.xe t6) X.xe t5 := by
  refine Calls.spliced_nil (call_allV ?_)
  refine Wk.in4.self _ _ _ st ⟨g, _, _, _, _, _, tr, rfl, Wk.in4, st, fun j y hy => ?_, fun t' mv => ?_⟩
  · obtain ⟨v, r, rfl⟩ := hy
    exact r
  · obtain ⟨H2, tb, J⟩ := on t' mv
    exact ⟨.bl _, H2, J, rfl, q H2 tb⟩
abbrev genEn (a b : Str) (pa pb tp pe pe2 gpos : Pos) (kk : Nat) (e1 elt : Expr) (scope : Scope) : Expr := .GeneratorExp elt [⟨.Tuple [.Name a pa, .Name b pb] kk tp, .Call (.Name "enumerate" pe) [e1] [] pe2, [], 0⟩] scope gpos
def tAllEn (X : Cx) (P : Addr) (scope : Scope) (elt : Expr) (a b : Str) (ta : TA) : TE := fun σ H Q => ta σ H fun vs H1 => ∃ (p : Addr) (xs : List V) (tr : Nat → Bool), vs = [.ref p] ∧ SqT X.K H1 p xs ∧ TabG H1 P ∧
  (∀ (h : Heap), HOk X.prog X.w H1 h → ∀ (ce : Env) (B : Around) (mp : Str → Option Value) (Ok : Shared → Prop) (i : Nat) (x : V) (ti : Tok) (u : Value), xs[i]? = some x → mp a = some (.int (i : Int) ti) → mp b = some u → RelV x u → GF X H1 h σ scope ce B mp Ok → GE X ce B Ok elt (· = .bl (tr i))) ∧
  ∀ H2, Tabbed P H1 H2 → Q (.bl ((List.range xs.length).all tr)) H2
theorem pe_allEn {c P : Addr} {e1 elt : Expr} {a b : Str} {pa pb tp p pe pe2 gpos pos : Pos} {kk : Nat} {scope : Scope} {ta : TA} {k : Nat}
    (hr : Room k X.A) (hg : Gl X "all") (hma : X.mg "all" = none) (hge : Gl X "enumerate") (hme : X.mg "enumerate" = none) (TB : TabB X.base X.mg c P) (hcode : X.env.code = .ref c) (S : GenS0 X.env scope) (ka : scope.names.lookup a = some .local) (kb : scope.names.lookup b = some .local) (ab : (a = b) = False) (ha : PA X [e1] ta)
    (nofold : ∀ v, genFold (.Call (.Name "enumerate" pe) [e1] [] pe2) X.env v = pure v)
    (hs : starEach [e1] X.env = [(false, eval e1 X.env)] := by rfl)
    (he : starEach [genEn a b pa pb tp pe pe2 gpos kk e1 elt scope] X.env = (false, eval (genEn a b pa pb tp pe pe2 gpos kk e1 elt scope) X.env) :: starEach [] X.env := by rfl) :
    PE X (.Call (.Name "all" p) [genEn a b pa pb tp pe pe2 gpos kk e1 elt scope] [] pos) (tAllEn X P scope elt a b ta) := by
  (refine ⟨fun pins s σ H Q I h => ?_⟩)
  refine wpAny_Call_Name_kw (ld_blt (u := .builtin "all") I hg hma (by decide +kernel) ?_)
  refine PyProof.Rows.callWith_builtin1 (id := "all") ?_ he (by rfl)
  rw [he]
  show wpAny _ _ (spliced ((false, eval (genEn a b pa pb tp pe pe2 gpos kk e1 elt scope) X.env) :: backTo pos (starEach [] X.env))) _ _ s
  refine Calls.spliced_cons (genexpD hr.hd S.co (closure_ok S.free) S.cell S.dot S.kind (by have := hr.dp; omega) ?_ nofold)
  refine Call_ (ld_blt I hge hme boot_enumerate (PyProof.Rows.callWith_type1 (thn (ha.run pe2 pins s σ H _ I h) fun us s1 ⟨vs, H1, I1, r1, q1⟩ => ?_) hs rfl))
  obtain ⟨l, xs, tr, rfl, hsq, tab, ask, q⟩ := q1
  cases r1 with
  | cons r rr =>
    cases rr
    cases r
    obtain ⟨its, rv, pl, hz⟩ := I1.tuple hsq
    have ht : s1.heap.IsTuple l its.toArray := by
      obtain ⟨ob, h1, h2, n, h3⟩ := pl
      exact ⟨ob, h1, h2, n, h3⟩
    have hal : l < s1.heap.objs.size := by obtain ⟨_, q0, _⟩ := ht; exact Heap.lt_size q0
    refine call_enum_begins (begins_tuple l its.toArray) ht fun hq isE hit hsz hk => wpAny_pyIter_enum isE ?_
    have lenE : its.toArray.size = xs.length := by
      rw [List.size_toArray]
      exact rv.length.symm
    obtain ⟨ptab, hP, htr⟩ := id tab
    have atP : s1.heap.get? P = some { cls := .none, data := .fields ptab } := I1.hok P _ hP
    have ltP : P < s1.heap.objs.size := Heap.lt_size atP
    have lNP : l ≠ P := fun z => by
      obtain ⟨ob2, q1, _, _, q4⟩ := ht
      rw [z, atP] at q1
      cases q1
      cases q4
    have notFr : ∀ b o, X.base.get? b = some o → b ∉ frs X.stack := fun b o it z => by
      have := (frs_apart I1.stack z).1
      rw [it] at this
      cases this
    have frLow : ∀ b ∈ frs X.stack, b < s1.heap.objs.size := fun b z => by
      obtain ⟨_, o, ho, _⟩ := frs_apart I1.stack z
      exact Heap.lt_size ho
    have lFr : l ∉ frs X.stack := fun z => by
      rcases hsq with ((e | ⟨o, e⟩) | ⟨o, it2, n2, e, _⟩)
      · have := I1.stkFree l z
        rw [e] at this
        cases this
      · have := I1.stkFree l z
        rw [e] at this
        cases this
      · exact notFr l o (I1.ok.mod.kin l o e) z
    have rdy : ItReady X P s1.heap hq (.Tuple [.Name a pa, .Name b pb] kk tp) scope (s1.heap.objs.size + 1) [s1.heap.objs.size + 1, s1.heap.objs.size, l] [s1.heap.objs.size + 1, s1.heap.objs.size] its.toArray.size
        (fun i mp => ∃ x y, (∃ t x', its.toArray[i]? = some x' ∧ #[x, y] = #[.int (i : Int) t, x']) ∧ mp a = some x ∧ mp b = some y) (fun i h => (∃ old, IsEnum h (s1.heap.objs.size + 1) s1.heap.objs.size i old) ∧ h.IsTupleIter s1.heap.objs.size l i ∧ h.IsTuple l its.toArray) := by
      refine ⟨hk, by rw [hsz]; exact Nat.le_add_right _ _, fun ce hsc hlo => ?_, fun b hb => ?_, ⟨⟨_, isE⟩, ⟨_, hit, rfl, rfl⟩, ?_⟩, fun b hb => ?_, fun b hb => ?_, fun b hb => ?_, fun b hb => ?_⟩
      · refine Draws2.pair (Mid := fun i T h => (∃ x, IsEnumOut h (s1.heap.objs.size + 1) s1.heap.objs.size ((i : Int) + 1) x T) ∧ (h.IsTupleIter s1.heap.objs.size l (i + 1) ∧ h.IsTuple l its.toArray) ∧ T ≠ s1.heap.objs.size + 1 ∧ T ≠ s1.heap.objs.size) (fun B hB => WalksT.enumerateD (A := B) (Draws.tuple (by exact hB) s1.heap.objs.size l (Nat.ne_of_lt hal) its.toArray) (s1.heap.objs.size + 1) (Nat.succ_ne_self _) (fun z => ?_) (List.mem_cons_self ..)) (fun i vals pt => ?_) (by show ce.scope.names.lookup a = _; rw [hsc]; exact ka) (by show ce.scope.names.lookup b = _; rw [hsc]; exact kb) ab (by rw [hsc]; simp [S.kind]) hlo
        · simp only [List.mem_cons, List.not_mem_nil, or_false] at z
          rcases z with z | z
          · exact Nat.succ_ne_self _ z
          · exact Nat.ne_of_lt (Nat.lt_succ_of_lt hal) z.symm
        · obtain ⟨t, x, _, e⟩ := pt
          exact ⟨_, _, e⟩
      · simp only [List.mem_cons, List.not_mem_nil, or_false] at hb ⊢
        rcases hb with z | z
        · exact .inl z
        · exact .inr (.inl z)
      · obtain ⟨ob, h1, h2, n, h3⟩ := ht
        exact ⟨ob, hk _ _ h1, h2, n, h3⟩
      · rw [hsz]
        (simp only [List.mem_cons, List.not_mem_nil, or_false] at hb)
        rcases hb with z | z | z <;> subst z
        · exact Nat.lt_succ_self _
        · (exact Nat.lt_succ_of_lt (Nat.lt_succ_self _))
        · exact Nat.lt_succ_of_lt (Nat.lt_succ_of_lt hal)
      · simp only [List.mem_cons, List.not_mem_nil, or_false] at hb
        rcases hb with z | z <;> subst z
        · exact Nat.le_add_right _ _
        · exact Nat.le_refl _
      · simp only [List.mem_cons, List.not_mem_nil, or_false] at hb
        rcases hb with z | z | z <;> subst z
        · exact Nat.ne_of_gt (Nat.lt_succ_of_lt ltP)
        · exact Nat.ne_of_gt ltP
        · exact lNP
      · intro z
        (simp only [List.mem_cons, List.not_mem_nil, or_false] at hb)
        rcases hb with y | y | y <;> subst y
        · exact absurd (frLow _ z) (Nat.not_lt_of_le (Nat.le_add_right _ _))
        · exact absurd (frLow _ z) (Nat.not_lt_of_le (Nat.le_refl _))
        · exact lFr z
    refine gen_core (F := fun i v => v = .bl (tr i)) I1 hr TB hcode S rdy tab (fun ce B mp Ok i bd G => ?_) (fun g t5 wr' fs' St' Wk st on => all_end (P := P) (H1 := H1) Wk st on fun H2 tb => ?_)
    · obtain ⟨x, y, ⟨t, x', hx, exy⟩, ma, mb⟩ := bd
      have e1 : x = .int (i : Int) t ∧ y = x' := by simpa using exy
      obtain ⟨rfl, rfl⟩ := e1
      have li : i < xs.length := by
        have := (Array.getElem?_eq_some_iff.mp hx).1
        omega
      obtain ⟨u, hu, ru⟩ := rv.get (List.getElem?_eq_getElem li)
      have eu : u = y := by
        have q : its.toArray[i]? = some u := by simpa using hu
        rw [q] at hx
        exact Option.some.inj hx
      subst eu
      exact ask _ I1.hok ce B mp Ok i _ t u (List.getElem?_eq_getElem li) ma mb ru G
    · rw [lenE]
      exact q H2 tb
end
end V3
/-! t[::-1] of a tuple; parts of tuples of data, and one behind the other. -/
namespace HT
open PySem PySem.Spec PyProof.Rows PySem.Calls
section
variable {prog : Program} {A : Around}
variable {w : World} {s : Shared}
variable {E : Value → Shared → Prop}
theorem getItem_tuple_rev {t sl : Addr} {items : Array Value} {vs : Value} {Q : Value → Shared → Prop} (ht : IsTup s.heap t items) (hs : s.heap.IsSliceOf sl .none .none vs) (ps : IsPart vs (some (-1)))
    (h : Q (.ref s.heap.objs.size) { s with heap := s.heap.push { cls := .type "tuple", data := .seq items.toList.reverse.toArray } }) (hsz : items.size ≤ sizeLine) :
    wpAny (model prog w) A (getItem (.ref t) (.ref sl)) Q E s := by
  have htake : sizeOk (.seq items.toList.reverse.toArray) := by
    show items.toList.reverse.toArray.size ≤ sizeLine
    rw [List.size_toArray, List.length_reverse, Array.length_toList]
    exact hsz
  (obtain ⟨os, hos, hcs, hds⟩ := id hs)
  (have hTs : s.TypeIs (.ref sl) "slice" := ⟨os, hos, hcs⟩)
  unfold getItem
  (try with_reducible refine wpAny_holding ?_)
  (first | refine wpAny_bind (wpAny_pure ?_) | skip)
  (refine wpAny_bind (wpAny_sequenceKey ht.typeIs (by decide) ?_))
  refine wpAny_bind (wpAny_callSpecial?_slot (name := Str.ofString "__getitem__") ht.typeIs PyProof.Rows.slot_tuple_getitem (wpAny_call_entry PyProof.Rows.slot_tuple_getitem ht.typeIs entry_tuple_getitem ?_ (args_tuple_getitem _ _)))
  (show wpAny _ _ (Builtin.Tuple.tupleItemsOf (.ref t) >>= _) _ _ s)
  (refine wpAny_bind (tupleItemsOf_ ht ?_))
  (refine wpAny_bind (wpAny_typeOf hTs ?_))
  rw [if_pos (by decide)]
  have app : ∀ {Q2 : Int × Int × Nat → Shared → Prop} {E2 : Value → Shared → Prop} {A2 : Around}, Q2 ((items.size : Int) - 1, -1, items.size) s → wpAny (model prog w) A2 (Builtin.Slice.sliceApplied (.ref sl) (pure (items.size : Int))) Q2 E2 s := fun {Q2 E2 A2} h => by
    (unfold Builtin.Slice.sliceApplied Builtin.Slice.sliceFields)
    refine wpAny_bind (wpAny_bind (wpAny_field hos hds (x := .none) rfl (wpAny_bind (wpAny_field hos hds (x := .none) rfl (wpAny_bind (wpAny_field hos hds (x := vs) rfl (wpAny_pure ?_)))))))
    refine wpAny_bind (slicePart_ ps ?_)
    show wpAny _ _ (if ((-1 : Int) == 0) = true then _ else _) _ _ s
    rw [if_neg (by decide)]
    refine wpAny_bind (slicePart_none (wpAny_bind (slicePart_none (wpAny_bind (wpAny_pure ?_)))))
    show wpAny _ _ (match Builtin.Slice.sliceAdjust none none (-1) (items.size : Int) with | (lo, hi) => pure (lo, (-1 : Int), Builtin.Slice.slicePlaces lo hi (-1))) _ _ s
    have e1 : Builtin.Slice.sliceAdjust none none (-1) (items.size : Int) = ((items.size : Int) - 1, -1) := by
      first
        | rfl
        | simp [Builtin.Slice.sliceAdjust]
    rw [e1]
    have e2 : Builtin.Slice.slicePlaces ((items.size : Int) - 1) (-1) (-1) = items.size := by
      (unfold Builtin.Slice.slicePlaces)
      (have h1 : ¬ ((-1 : Int) > 0) := by decide)
      by_cases h : (items.size : Int) - 1 > -1
      · have e : ((items.size : Int) - 1 - -1 - 1) / (- -1) + 1 = (items.size : Int) := by
          (rw [show (- -1 : Int) = 1 by decide, Int.ediv_one])
          omega
        (simp only [h1, if_false, h, if_true, e, Int.toNat_natCast])
      · have e : items.size = 0 := by omega
        simp [e]
    show wpAny _ _ (pure ((items.size : Int) - 1, (-1 : Int), Builtin.Slice.slicePlaces ((items.size : Int) - 1) (-1) (-1))) _ _ s
    rw [e2]
    exact wpAny_pure h
  refine wpAny_bind (app ?_)
  have hno : ¬ ((((items.size : Int) - 1) == 0 && (-1 : Int) == 1 && items.size == items.size) = true) := by
    intro q
    (rw [Bool.and_eq_true, Bool.and_eq_true] at q)
    exact absurd q.1.2 (by decide)
  show wpAny _ _ (if (((items.size : Int) - 1) == 0 && (-1 : Int) == 1 && items.size == items.size) = true then _ else _) _ _ s
  rw [if_neg hno]
  have pick : ((List.range items.size).filterMap fun (m : Nat) => items[(((items.size : Int) - 1) + (m : Int) * (-1)).toNat]?).toArray = items.toList.reverse.toArray := by
    have e : (List.range items.size).filterMap (fun (m : Nat) => items[(((items.size : Int) - 1) + (m : Int) * (-1)).toNat]?) = ((List.range items.size).map fun k => items.size - 1 - k).filterMap (items[·]?) := by
      rw [List.filterMap_map]
      congr 1
      funext m
      have e : (((items.size : Int) - 1) + (m : Int) * (-1)).toNat = items.size - 1 - m := by omega
      show items[(((items.size : Int) - 1) + (m : Int) * (-1)).toNat]? = items[items.size - 1 - m]?
      rw [e]
    rw [e, PySem.W.krv_range, List.filterMap_reverse, PySem.W.krv_all]
  rw [pick]
  first | (exact wpAny_bind (m := Builtin.Tuple.tupleExact _) (wpAny_newObj_type (wpAny_pure ⟨_, rfl, wpAny_pure h⟩) htake)) | (exact wpAny_bind (m := Builtin.Tuple.tupleExact _) (wpAny_newObj_type (wpAny_bind (wpAny_pure (wpAny_pure ⟨_, rfl, wpAny_pure h⟩))) htake)) | (exact wpAny_bind (wpAny_bind (m := Builtin.Tuple.tupleExact _) (wpAny_newObj_type (wpAny_pure (wpAny_pure ⟨_, rfl, wpAny_pure h⟩)) htake))) | (exact wpAny_bind (wpAny_bind (m := Builtin.Tuple.tupleExact _) (wpAny_newObj_type (wpAny_pure ⟨_, rfl, wpAny_pure h⟩) htake)))
end
end HT
namespace V3
open PySem.Spec PySem L2 PyProof.Rows GxR RZ
section
variable {X : Cx}
def tRevT (K : PySem.W.Frag) (te : TE) : TE := fun σ H Q => te σ H fun x H1 => ∃ a xs, x = .ref a ∧ SqT K H1 a xs ∧ ∀ p, H1 p = none → Q (.ref p) (upd H1 p (.tup xs.reverse))
theorem pe_revT {e : Expr} {te : TE} {k : Nat} {p1 p2 p3 pos : Pos} (he : PE X e te) : PE X (.Subscript e (.Slice none none (some (.UnaryOp .USub (.Constant (.int 1) k p1) p2)) p3) pos) (tRevT X.K te) := by
  (refine ⟨fun pins s σ H Q I h => ?_⟩)
  (refine Subscript_ (thn (he.run pins s σ H _ I h) fun v s1 ⟨x, H1, I1, r1, q1⟩ => ?_))
  (obtain ⟨a, xs, ex, hx, q⟩ := q1)
  subst ex
  cases r1
  (have hst : PO X (some (.UnaryOp .USub (.Constant (.int 1) k p1) p2)) (tPart (tUn (rU fun i => .int (-i)) (tC (.int 1)))) := po_some (pe_un un_neg pe_int))
  (refine wpAny_Slice (thn (po_none.run pins s1 σ H1 (fun o H2 => o = none ∧ H2 = H1) I1 ⟨rfl, rfl⟩) fun vl s2 ⟨l, H2, I2, pl, el, e2⟩ => ?_))
  subst el e2
  (refine thn (po_none.run pins s2 σ H2 (fun o H3 => o = none ∧ H3 = H2) I2 ⟨rfl, rfl⟩) fun vu s3 ⟨u, H3, I3, pu, eu, e3⟩ => ?_)
  subst eu e3
  (refine thn (hst.run pins s3 σ H3 (fun o H4 => o = some (-1) ∧ H4 = H3) I3 ⟨1, rfl, -1, rfl, rfl, rfl⟩) fun vs s4 ⟨o, H4, I4, ps, eo, e4⟩ => ?_)
  subst eo e4
  cases pl
  cases pu
  have I5 : Inv X pins σ H4 { s4 with heap := s4.heap.push { cls := .type "slice", data := .fields #[.none, .none, vs] } } := I4.kept (t' := s4.toks) fun b ob q => Heap.get?_push_of_some _ q
  obtain ⟨its, r, ht, hz⟩ := I5.tuple hx
  have hlen := r.length
  show wpAny (model X.prog X.w) X.A (subscriptTail e (.Slice none none (some (.UnaryOp .USub (.Constant (.int 1) k p1) p2)) p3) (.ref a) (.ref s4.heap.objs.size)) (EP X pins σ Q) X.xe { s4 with heap := s4.heap.push { cls := .type "slice", data := .fields #[.none, .none, vs] } }
  refine tail_any (ops := [.ref a, .ref s4.heap.objs.size]) ht.typeIs (PyProof.Rows.slot_tuple_getitem.lookup) ?_ (by with_unfolding_all rfl)
  refine HT.getItem_tuple_rev ht (Heap.IsSliceOf.new _ .none .none vs) ps ?_ (by rw [List.size_toArray]; omega)
  refine ⟨.ref _, _, I5.laid (t' := s4.toks) (o := .tup xs.reverse) (fun b ob q => Heap.get?_push_of_some _ q) (Nat.le_refl _) ?_, rfl, q _ (I5.hok.fresh (Nat.le_refl _))⟩
  exact ⟨by rw [List.length_reverse]; exact hz, _, r.reverse, IsTup.new _ _⟩
end
/-! ### tuples of data -/
def cutP (ds : List PyData) (lo hi : Option Int) : List PyData := (ds.drop (HT.sIx ds.length 0 lo)).take (HT.sIx ds.length ds.length hi - HT.sIx ds.length 0 lo)
section
variable {K : PySem.W.Frag} {H H' : Hp}
theorem dtAll_takeN : ∀ {vs : List V} {ds : List PyData} (i : Nat), DpTAll K H vs ds → DpTAll K H (vs.take i) (ds.take i)
  | _, _, 0, _ => .nil
  | _, _, _ + 1, .nil => .nil
  | _, _, i + 1, .cons a b => .cons a (dtAll_takeN i b)
theorem dtAll_dropN : ∀ {vs : List V} {ds : List PyData} (i : Nat), DpTAll K H vs ds → DpTAll K H (vs.drop i) (ds.drop i)
  | _, _, 0, h => h
  | _, _, _ + 1, .nil => .nil
  | _, _, i + 1, .cons a b => dtAll_dropN i b
theorem dtAll_rev : ∀ {vs : List V} {ds : List PyData}, DpTAll K H vs ds → DpTAll K H vs.reverse ds.reverse
  | _, _, .nil => .nil
  | _, _, .cons a b => by
    (rw [List.reverse_cons, List.reverse_cons])
    exact dtAll_app (dtAll_rev b) (.cons a .nil)
theorem dtCut {xs : List V} {ds : List PyData} (h : DpTAll K H xs ds) (lo hi : Option Int) : DpTAll K H (cutV xs lo hi) (cutP ds lo hi) := by
  unfold cutV cutP
  rw [dtAll_len h]
  exact dtAll_takeN _ (dtAll_dropN _ h)
theorem cutP_whole {ds : List PyData} {lo hi : Option Int} (h : HT.sIx ds.length 0 lo = 0 ∧ HT.sIx ds.length ds.length hi = ds.length) : cutP ds lo hi = ds := by
  unfold cutP
  rw [h.1, h.2]
  simp
theorem cutP_to (ds : List PyData) (i : Nat) : cutP ds none (some (i : Int)) = ds.take i := by
  unfold cutP
  simp only [HT.sIx]
  rw [if_neg (by omega)]
  simp only [List.drop_zero, Nat.sub_zero, Int.toNat_natCast]
  rcases Nat.le_total i ds.length with h | h
  · rw [Nat.min_eq_left h]
  · rw [Nat.min_eq_right h, List.take_length, List.take_of_length_le h]
theorem cutP_from (ds : List PyData) (i : Nat) : cutP ds (some ((i : Int) + 1)) none = ds.drop (i + 1) := by
  unfold cutP
  simp only [HT.sIx]
  rw [if_neg (by omega)]
  have e : ((i : Int) + 1).toNat = i + 1 := by omega
  rw [e]
  rcases Nat.le_total (i + 1) ds.length with h | h
  · (rw [Nat.min_eq_left h, List.take_of_length_le (by simp)])
  · rw [Nat.min_eq_right h, List.drop_length, List.drop_of_length_le h]
    simp
theorem cutP_last {ds : List PyData} (h : 0 < ds.length) : cutP ds none (some (-1)) = ds.take (ds.length - 1) := by
  unfold cutP
  simp only [HT.sIx]
  rw [if_pos (by decide)]
  (simp only [List.drop_zero, Nat.sub_zero])
  congr 1
  omega
theorem dtTupQ {v : V} {ds : List PyData} (h : DpT K H v (.tuple ds)) : ∃ p xs, v = .ref p ∧ SqT K H p xs ∧ DpTAll K H xs ds := by
  cases h with
  | tup a b => exact ⟨_, _, rfl, a, b⟩
theorem slQ {v : V} {ds : List PyData} {lo hi : Option Int} {Q : VK} (an : DpT K H v (.tuple ds)) (g : ∀ H' v', Same H H' → DpT K H' v' (.tuple (cutP ds lo hi)) → Q v' H') : rSlA K v lo hi H Q := by
  obtain ⟨p, xs, rfl, hp, hA⟩ := dtTupQ an
  have l := dtAll_len hA
  refine ⟨p, xs, rfl, hp, fun h => ?_, fun _ q hq => ?_⟩
  · rw [l] at h
    refine g H _ (Same.refl _) ?_
    rw [cutP_whole h]
    exact an
  · have s : Same H (upd H q (.tup (cutV xs lo hi))) := same_upd hq
    exact g _ _ s (.tup (SqT.of upd_same) ((dtCut hA lo hi).keep (Same.kt s)))
theorem catQ {v w : V} {ds es : List PyData} {Q : VK} (x : DpT K H v (.tuple ds)) (y : DpT K H w (.tuple es)) (le : ds.length + es.length ≤ 1000) (g : ∀ H' u, Same H H' → DpT K H' u (.tuple (ds ++ es)) → Q u H') : rCatA K v w H Q := by
  obtain ⟨p, xs, rfl, hp, hA⟩ := dtTupQ x
  obtain ⟨q, ys, rfl, hq, hB⟩ := dtTupQ y
  have l := dtAll_len hA
  have m := dtAll_len hB
  refine ⟨p, q, xs, ys, rfl, rfl, hp, hq, Nat.le_trans (show xs.length + ys.length ≤ 1000 by omega) (by show 1000 ≤ sizeLine; decide), fun e => ?_, fun _ e => ?_, fun _ _ r hr => ?_⟩
  · have : ds = [] := List.length_eq_zero_iff.mp (by rw [← l, e]; rfl)
    subst this
    exact g H _ (Same.refl _) y
  · have : es = [] := List.length_eq_zero_iff.mp (by rw [← m, e]; rfl)
    subst this
    refine g H _ (Same.refl _) ?_
    rw [List.append_nil]
    exact x
  · have s : Same H (upd H r (.tup (xs ++ ys))) := same_upd hr
    exact g _ _ s (.tup (SqT.of upd_same) ((dtAll_app hA hB).keep (Same.kt s)))
/-- a part of a tuple of data, and one behind the other -/
def rSlQ (K : PySem.W.Frag) : V → Option Int → Option Int → Hp → VK → Prop := fun v lo hi H Q => ∃ ds, DpT K H v (.tuple ds) ∧ ∀ H' v', Same H H' → DpT K H' v' (.tuple (cutP ds lo hi)) → Q v' H'
theorem sl_Q {X : Cx} : SlR X (rSlQ X.K) := by
  intro pins s σ H x v vl vu lo hi sl Q I rx h1 h2 h3 h
  obtain ⟨ds, an, g⟩ := h
  exact sl_tupA pins s σ H x v vl vu lo hi sl Q I rx h1 h2 h3 (slQ an g)
def rCatQ (K : PySem.W.Frag) : R2 := fun v w H Q => ∃ ds es, DpT K H v (.tuple ds) ∧ DpT K H w (.tuple es) ∧ ds.length + es.length ≤ 1000 ∧ ∀ H' u, Same H H' → DpT K H' u (.tuple (ds ++ es)) → Q u H'
theorem op_catQ {X : Cx} : OpR X (binaryOp .Add) (rCatQ X.K) := by
  (intro pins s σ H x y v u Q I rx ry h)
  obtain ⟨ds, es, h1, h2, le, g⟩ := h
  exact op_catA pins s σ H x y v u Q I rx ry (catQ h1 h2 le g)
end
end V3
namespace V3
open PySem.Spec PySem L2 PyProof.Rows RZ GxR
def topS (i : Nat) : Stmt := PySem.Challenge.pw_rootsabove_k23_whole_laced_or_not_and_ro.main.body.getD i (.Pass ⟨0, 0, 0, 0⟩)
structure Gs (K : PySem.W.Frag) (mg : Str → Option Value) : Prop where
  gcd : mg "gcd" = some (.builtin "math.gcd")
  MOST : ∃ tk, mg "MOST_ROOTS" = some (.int 6 tk)
  type_ : mg "type" = none
  int_ : mg "int" = none
  tuple_ : mg "tuple" = none
  list_ : mg "list" = none
  str_ : mg "str" = none
  bool_ : mg "bool" = none
  len : mg "len" = none
  range : mg "range" = none
  abs : mg "abs" = none
  isinstance : mg "isinstance" = none
  all : mg "all" = none
  enumerate : mg "enumerate" = none
  zip : mg "zip" = none
  divmod : mg "divmod" = none
  max : mg "max" = none
  min : mg "min" = none
abbrev rowQ (qs : List Rat) : PyData := .tuple (qs.map frd)
theorem gqDt {K : PySem.W.Frag} {H : Hp} {xs : List V} {qs : List Rat} {i : Nat} (h : DpTAll K H xs (qs.map frd)) (l : i < qs.length) : ∃ v, xs[i]? = some v ∧ DpT K H v (frd (gq qs i)) := fqGet h (gq_get l)
section
variable {mg : Str → Option Value} {base : Heap} {K : PySem.W.Frag} {P : Program} {w : World}
abbrev s_is_above : Stmt := topS 5
abbrev N_is_above : List Str := ["one", "other"]
theorem sc_is_above : FnScope N_is_above ["one", "other"] (defScope s_is_above) := ⟨rfl, rfl, rfl, by decide +kernel, rfl, by decide +kernel, by decide +kernel⟩
theorem ok_is_above (F : At K mg "is_above" s_is_above) : Df P w K mg base "is_above" 1 ["one", "other"] (spR2b K fun x y => decide (y < x)) := by
  have sc := sc_is_above
  refine Df.mk' F sc (fun vs H Q E h => ?_) (fun _ _ _ _ _ _ us hl => match us, hl with | [_, _], _ => rfl) (fun f cdv A outer s H vs Q E hr h => ?_)
  · obtain ⟨v, w, x, y, rfl, _⟩ := h
    rfl
  · obtain ⟨v, w, x, y, rfl, hx, hy, sx, sy, q⟩ := h
    obtain ⟨p, rfl, hp⟩ := fqT hx
    obtain ⟨p', rfl, hp'⟩ := fqT hy
    refine ⟨_, (pss_one (ps_ret (pe_cmpR op_gt (pe_op op_mulW (pe_ix ix_tup (pv 0) pe_int (fun _ _ => rfl)) (pe_ix ix_tup (pv 1) pe_int (fun _ _ => rfl))) (pe_op op_mulW (pe_ix ix_tup (pv 1) pe_int (fun _ _ => rfl)) (pe_ix ix_tup (pv 0) pe_int (fun _ _ => rfl))) (nomark _)))), ?_⟩
    refine ⟨_, rfl, _, _, _, _, rfl, rfl, hp, at20, _, rfl, _, _, _, _, rfl, rfl, hp', at21, _, _, rfl, rfl, mulW4 sx.n (natI sy.d), ?_⟩
    refine ⟨_, rfl, _, _, _, _, rfl, rfl, hp', at20, _, rfl, _, _, _, _, rfl, rfl, hp, at21, _, _, rfl, rfl, mulW4 sy.n (natI sx.d), ?_⟩
    dsimp only at q
    rw [← rlt] at q
    exact ⟨_, _, rfl, rfl, q⟩
abbrev s_is_whole : Stmt := topS 8
abbrev N_is_whole : List Str := ["value"]
theorem sc_is_whole : FnScope N_is_whole ["value"] (defScope s_is_whole) := ⟨rfl, rfl, rfl, by decide +kernel, rfl, by decide +kernel, by decide +kernel⟩
def spWhole (K : PySem.W.Frag) : Sp := fun vs H Q _ => ∃ v T, vs = [v] ∧ TyB K H v T ∧ Q (.bl (decide (T = "int"))) H
theorem ok_is_whole (T : Gs K mg) (F : At K mg "is_whole" s_is_whole) : Df P w K mg base "is_whole" 1 ["value"] (spWhole K) := by
  have sc := sc_is_whole
  refine Df.mk' F sc (fun vs H Q E h => ?_) (fun _ _ _ _ _ _ us hl => match us, hl with | [_], _ => rfl) (fun f cdv A outer s H vs Q E hr h => ?_)
  · obtain ⟨v, T, rfl, _⟩ := h
    rfl
  · obtain ⟨v, Ty, rfl, ty, q⟩ := h
    refine ⟨_, (pss_one (ps_ret (pe_cmpR op_isTyB (pe_callTy call_type1 (by rfl) T.type_ (by decide +kernel) (pa_cons (pv 0) pa_nil)) (pe_bltn (v := .ty "int") (by rfl) T.int_ (by decide +kernel) rfl) (nomark _)))), ?_⟩
    exact ⟨_, rfl, _, _, rfl, ty, _, _, rfl, rfl, q⟩
abbrev s_is_tuple_of : Stmt := topS 9
abbrev N_is_tuple_of : List Str := ["value", "size"]
theorem sc_is_tuple_of : FnScope N_is_tuple_of ["value", "size"] (defScope s_is_tuple_of) := ⟨rfl, rfl, rfl, by decide +kernel, rfl, by decide +kernel, by decide +kernel⟩
def spTupOf (K : PySem.W.Frag) : Sp := fun vs H Q _ => ∃ (a : Addr) (xs : List V) (n : Int), vs = [.ref a, .int n] ∧ SqT K H a xs ∧ Q (.bl (decide ((xs.length : Int) = n))) H
theorem ok_is_tuple_of (T : Gs K mg) (F : At K mg "is_tuple_of" s_is_tuple_of) : Df P w K mg base "is_tuple_of" 1 ["value", "size"] (spTupOf K) := by
  have sc := sc_is_tuple_of
  refine Df.mk' F sc (fun vs H Q E h => ?_) (fun _ _ _ _ _ _ us hl => match us, hl with | [_, _], _ => rfl) (fun f cdv A outer s H vs Q E hr h => ?_)
  · obtain ⟨a, xs, n, rfl, _⟩ := h
    rfl
  · obtain ⟨a, xs, n, rfl, ha, q⟩ := h
    refine ⟨_, (pss_one (ps_ret (pe_and (pe_cmpR op_isTyB (pe_callTy call_type1 (by rfl) T.type_ (by decide +kernel) (pa_cons (pv 0) pa_nil)) (pe_bltn (v := .ty "tuple") (by rfl) T.tuple_ (by decide +kernel) rfl) (nomark _)) (pe_one (pe_cmpR op_eq (pe_callB call_len_seq (by rfl) T.len PySem.boot_len (pa_cons (pv 0) pa_nil)) (pv 1) (nomark _)))))), ?_⟩
    refine ⟨_, rfl, _, _, rfl, .tup ha, _, _, rfl, rfl, _, rfl, ifT (by decide) ?_⟩
    refine ⟨_, rfl, _, _, rfl, .inr ha, _, rfl, rfl, ?_⟩
    have ee : decide (V.int (xs.length : Int) = V.int n) = decide ((xs.length : Int) = n) := by simp
    rw [← ee] at q
    exact q
abbrev s_is_fraction : Stmt := topS 10
abbrev N_is_fraction : List Str := ["value", "number", "under"]
theorem sc_is_fraction : FnScope N_is_fraction ["value"] (defScope s_is_fraction) := ⟨rfl, rfl, rfl, by decide +kernel, rfl, by decide +kernel, by decide +kernel⟩
def spIsFr (K : PySem.W.Frag) : Sp := fun vs H Q _ => ∃ v x, vs = [v] ∧ DpT K H v (frd x) ∧ Q (.bl true) H
theorem ok_is_fraction (T : Gs K mg) (D_is_whole : Df P w K mg base "is_whole" 1 ["value"] (spWhole K)) (D_is_tuple_of : Df P w K mg base "is_tuple_of" 1 ["value", "size"] (spTupOf K)) (F : At K mg "is_fraction" s_is_fraction) :
    Df P w K mg base "is_fraction" 2 ["value"] (spIsFr K) := by
  have sc := sc_is_fraction
  refine Df.mk' F sc (fun vs H Q E h => ?_) (fun _ _ _ _ _ _ us hl => match us, hl with | [_], _ => rfl) (fun f cdv A outer s H vs Q E hr h => ?_)
  · obtain ⟨a, q, rfl, _⟩ := h
    rfl
  · obtain ⟨v, x, rfl, hx, q⟩ := h
    obtain ⟨p, rfl, hp⟩ := fqT hx
    refine ⟨_, (pss_cons (ps_if (pt_not (pt_val (pe_fn D_is_tuple_of (by decide) hr (pa_cons (pv 0) (pa_cons pe_int pa_nil))))) (pss_one (ps_ret pe_bl)) pss_nil) (pss_cons (ps_asg (pv 0) (pg_tup rfl (pgs_cons (pg_name (i := 1) sc.nd rfl (.inl rfl)) (pgs_cons (pg_name (i := 2) sc.nd rfl (.inl rfl)) pgs_nil)))) (pss_one (ps_ret (pe_and (pe_fn D_is_whole (by decide) hr (pa_cons (pv 1) pa_nil)) (pe_and (pe_fn D_is_whole (by decide) hr (pa_cons (pv 2) pa_nil)) (pe_and (pe_cmpR op_gt (pv 2) pe_int (nomark _)) (pe_one (pe_cmpR op_eq (pe_callBfun cr_gcd (by rfl) T.gcd (pa_cons (pv 1) (pa_cons (pv 2) pa_nil))) pe_int (nomark _)))))))))), ?_⟩
    refine ⟨_, rfl, _, _, _, rfl, hp, _, rfl, ifF rfl ?_⟩
    refine ⟨_, rfl, _, _, rfl, hp, rfl, _, _, rfl, _, _, rfl, rfl, ?_⟩
    refine ⟨_, rfl, _, _, rfl, .int _, _, rfl, ifT (by decide) ?_⟩
    refine ⟨_, rfl, _, _, rfl, .int _, _, rfl, ifT (by decide) ?_⟩
    refine ⟨_, rfl, _, _, rfl, rfl, _, rfl, ifT (decide_eq_true (rden_pos x)) ?_⟩
    (refine ⟨_, rfl, _, rfl, _, _, rfl, rfl, ?_⟩)
    have e : (Nat.gcd x.num.natAbs (x.den : Int).natAbs : Nat) = 1 := by
      rw [Int.natAbs_natCast]
      exact x.reduced
    rw [e]
    exact q
abbrev s_check_roots_of : Stmt := topS 12
abbrev N_check_roots_of : List Str := ["roots", "least", "most", "index", "root"]
theorem sc_check_roots_of : FnScope N_check_roots_of ["roots", "least", "most"] (defScope s_check_roots_of) := ⟨rfl, rfl, rfl, by decide +kernel, rfl, by decide +kernel, by decide +kernel⟩
def spCheckRootsOf (K : PySem.W.Frag) : Sp := fun vs H Q _ => ∃ (v : V) (a b : Nat) (qs : List Rat), vs = [v, .int a, .int b] ∧ DpT K H v (rowQ qs) ∧ Rw qs.length qs ∧ a ≤ qs.length ∧ 1 ≤ qs.length ∧ qs.length ≤ b ∧ ∀ H', Same H H' → Q .non H'
theorem ok_check_roots_of (T : Gs K mg) (D_is_fraction : Df P w K mg base "is_fraction" 2 ["value"] (spIsFr K)) (D_is_above : Df P w K mg base "is_above" 1 ["one", "other"] (spR2b K fun x y => decide (y < x))) (F : At K mg "check_roots_of" s_check_roots_of) :
    Df P w K mg base "check_roots_of" 3 ["roots", "least", "most"] (spCheckRootsOf K) := by
  have sc := sc_check_roots_of
  refine Df.mk' F sc (fun vs H Q E h => ?_) (fun _ _ _ _ _ _ us hl => match us, hl with | [_, _, _], _ => rfl) (fun f cdv A outer s H vs Q E hr h => ?_)
  · obtain ⟨v, a, b, qs, rfl, _⟩ := h
    rfl
  · obtain ⟨v, a, b, qs, rfl, hx, rw_, la, l1, lb, q⟩ := h
    obtain ⟨p, xs, rfl, hp, ha⟩ := dtTupQ hx
    have hl : xs.length = qs.length := by rw [dtAll_len ha, List.length_map]
    refine ⟨_, (pss_cons (ps_if (PW.pt (pw_or (pt_cmpR op_notTyB (pe_callTy call_type1 (by rfl) T.type_ (by decide +kernel) (pa_cons (pv 0) pa_nil)) (pe_bltn (v := .ty "tuple") (by rfl) T.tuple_ (by decide +kernel) rfl) (nomark _)) (pw_or1 (pt_not (pt_chain op_le op_le (pe_callB (call_max2 rfl) (by rfl) T.max (by decide +kernel) (pa_cons pe_int (pa_cons (pv 1) pa_nil))) (pe_callB call_len_seq (by rfl) T.len PySem.boot_len (pa_cons (pv 0) pa_nil)) (pv 2)))))) (pss_one ps_never) pss_nil) (pss_one (ps_for PassesOwn.never rfl (pi_enumT (by rfl) T.enumerate (pa_cons (pv 0) pa_nil)) (pg_tup rfl (pgs_cons (pg_name (i := 3) sc.nd rfl (.inl rfl)) (pgs_cons (pg_name (i := 4) sc.nd rfl (.inl rfl)) pgs_nil))) (pss_one (ps_if (PW.pt (pw_or (pt_not (pt_val (pe_fn D_is_fraction (by decide) hr (pa_cons (pv 4) pa_nil)))) (pw_or1 (PW.pt (pw_and (pt_cmpR op_gt (pv 3) pe_int (nomark _)) (pw_and1 (pt_val (pe_fn D_is_above (by decide) hr (pa_cons (pv 4) (pa_cons (pe_ix ix_tup (pv 0) (pe_op op_sub (pv 3) pe_int) (fun _ _ => rfl)) pa_nil)))))))))) (pss_one ps_never) pss_nil))))), ?_⟩
    refine ⟨_, rfl, _, _, rfl, .tup hp, _, _, rfl, rfl, _, rfl, ifF (by decide) ?_⟩
    refine ⟨_, rfl, _, _, rfl, ?_⟩
    have em : (if (a : Int) > 1 then (a : Int) else 1) ≤ (xs.length : Int) := by split <;> omega
    refine ⟨_, rfl, _, _, rfl, .inr hp, _, _, rfl, rfl, _, rfl, ifT (decide_eq_true em) ?_⟩
    refine ⟨_, rfl, _, _, rfl, rfl, _, rfl, ifF (by rw [hl]; simp; omega) ?_⟩
    refine ⟨_, rfl, p, xs, rfl, hp, for_enumT (K := K) (a := p) (xs := xs) (fun i σ H' => (∃ y z, σ = [some (.ref p), some (.int a), some (.int b), y, z]) ∧ Same H H') ⟨⟨none, none, rfl⟩, Same.refl _⟩ (fun i σ H' _ h => sameT h.2 hp) ?_ ?_⟩
    · rintro i x T' σ H' hi ⟨⟨y, z, rfl⟩, sm⟩ hT
      obtain ⟨qq, hq, hdp⟩ := fqGetV ha hi
      have hil := (List.getElem?_eq_some_iff.mp hq).1
      have sm2 : Same H (upd H' T' (.tup [.int (i : Nat), x])) := sm.trans (same_upd hT)
      refine ⟨T', _, rfl, SqT.of upd_same, rfl, _, _, rfl, _, _, rfl, rfl, ?_⟩
      refine ⟨_, rfl, _, qq, rfl, fqSame hdp sm2, _, rfl, ifF rfl ?_⟩
      refine ⟨_, rfl, _, _, rfl, rfl, _, rfl, if2 (fun e => ?_) (fun e => ?_)⟩
      · have e0 : 0 < i := by
          have := of_decide_eq_true e
          omega
        obtain ⟨j, rfl⟩ : ∃ j, i = j + 1 := ⟨i - 1, by omega⟩
        obtain ⟨v', hv', dv'⟩ := gqDt (i := j) ha (by omega)
        refine ⟨_, rfl, _, rfl, _, rfl, _, _, rfl, rfl, _, _, _, _, rfl, rfl, sameT sm2 hp, at_of (j := j) (by omega) hv', ?_⟩
        refine ⟨_, _, qq, gq qs j, rfl, fqSame hdp sm2, fqSame dv' sm2, (rw_.bq _ (List.mem_of_getElem? hq)).mono (by decide), (rw_.bq _ (gq_mem (by omega))).mono (by decide), _, rfl, ifF ?_ ?_⟩
        · have := rw_.srt.le (i := j) (j := j + 1) (by omega) hil
          rw [gq_of hq] at this
          exact decide_eq_false (Rat.not_lt.mpr this)
        · exact ⟨⟨_, _, rfl⟩, sm2⟩
      · exact iteF ⟨⟨_, _, rfl⟩, sm2⟩
    · rintro σ H' ⟨_, sm⟩
      exact q H' sm
abbrev s_check_roots : Stmt := topS 11
abbrev N_check_roots : List Str := ["roots"]
theorem sc_check_roots : FnScope N_check_roots ["roots"] (defScope s_check_roots) := ⟨rfl, rfl, rfl, by decide +kernel, rfl, by decide +kernel, by decide +kernel⟩
def spCheckRoots (K : PySem.W.Frag) : Sp := fun vs H Q _ => ∃ (v : V) (qs : List Rat), vs = [v] ∧ DpT K H v (rowQ qs) ∧ Rw qs.length qs ∧ 1 ≤ qs.length ∧ qs.length ≤ 6 ∧ ∀ H', Same H H' → Q .non H'
theorem ok_check_roots (T : Gs K mg) (D_check_roots_of : Df P w K mg base "check_roots_of" 3 ["roots", "least", "most"] (spCheckRootsOf K)) (F : At K mg "check_roots" s_check_roots) : Df P w K mg base "check_roots" 4 ["roots"] (spCheckRoots K) := by
  have sc := sc_check_roots
  obtain ⟨tk, hM⟩ := T.MOST
  refine Df.mk' F sc (fun vs H Q E h => ?_) (fun _ _ _ _ _ _ us hl => match us, hl with | [_], _ => rfl) (fun f cdv A outer s H vs Q E hr h => ?_)
  · obtain ⟨v, qs, rfl, _⟩ := h
    rfl
  · obtain ⟨v, qs, rfl, hx, rw_, l1, l6, q⟩ := h
    refine ⟨_, (pss_one (ps_expr (pe_fn D_check_roots_of (by decide) hr (pa_cons (pv 0) (pa_cons pe_int (pa_cons (pe_glob (v := .int 6) (by rfl) hM ⟨_, rfl⟩) pa_nil)))))), ?_⟩
    exact ⟨_, rfl, _, 1, 6, qs, rfl, hx, rw_, l1, l1, l6, q⟩
abbrev s_check_fewer : Stmt := topS 14
abbrev N_check_fewer : List Str := ["roots", "others"]
theorem sc_check_fewer : FnScope N_check_fewer ["roots", "others"] (defScope s_check_fewer) := ⟨rfl, rfl, rfl, by decide +kernel, rfl, by decide +kernel, by decide +kernel⟩
def spFewer (K : PySem.W.Frag) : Sp := fun vs H Q _ => ∃ (v w : V) (tops lows : List Rat), vs = [v, w] ∧ DpT K H v (rowQ tops) ∧ DpT K H w (rowQ lows) ∧ Rw tops.length tops ∧ Rw lows.length lows ∧ tops.length ≤ 6 ∧ 1 ≤ lows.length ∧ lows.length < tops.length ∧ ∀ H', Same H H' → Q .non H'
theorem ok_check_fewer (T : Gs K mg) (D_check_roots : Df P w K mg base "check_roots" 4 ["roots"] (spCheckRoots K)) (D_check_roots_of : Df P w K mg base "check_roots_of" 3 ["roots", "least", "most"] (spCheckRootsOf K)) (F : At K mg "check_fewer" s_check_fewer) :
    Df P w K mg base "check_fewer" 5 ["roots", "others"] (spFewer K) := by
  have sc := sc_check_fewer
  refine Df.mk' F sc (fun vs H Q E h => ?_) (fun _ _ _ _ _ _ us hl => match us, hl with | [_, _], _ => rfl) (fun f cdv A outer s H vs Q E hr h => ?_)
  · obtain ⟨v, w, tops, lows, rfl, _⟩ := h
    rfl
  · obtain ⟨v, w', tops, lows, rfl, hv, hw, rt, rl, l6, l1, lt, q⟩ := h
    refine ⟨_, (pss_cons (ps_expr (pe_fn D_check_roots (by decide) hr (pa_cons (pv 0) pa_nil))) (pss_one (ps_expr (pe_fn D_check_roots_of (by decide) hr (pa_cons (pv 1) (pa_cons pe_int (pa_cons (pe_op op_sub (pe_callB call_len_seq (by rfl) T.len PySem.boot_len (pa_cons (pv 0) pa_nil)) pe_int) pa_nil))))))), ?_⟩
    refine ⟨_, rfl, _, tops, rfl, hv, rt, by omega, l6, fun H1 s1 => ?_⟩
    obtain ⟨p, xs, rfl, hp, ha⟩ := dtTupQ hv
    have hl : xs.length = tops.length := by rw [dtAll_len ha, List.length_map]
    refine ⟨_, rfl, _, rfl, _, _, rfl, .inr (sameT s1 hp), _, _, rfl, rfl, ?_⟩
    refine ⟨_, 1, tops.length - 1, lows, ?_, DpT.keep (Same.kt s1) hw, rl, l1, l1, by omega, fun H2 s2 => q H2 (s1.trans s2)⟩
    have : ((xs.length : Int) - 1) = ((tops.length - 1 : Nat) : Int) := by omega
    show [w', V.int 1, V.int ((xs.length : Int) - 1)] = _
    rw [this]
    rfl
end
end V3
namespace V3
open PySem.Spec PySem L2 PyProof.Rows RZ GxR
mutual
theorem DpT.fast {P : Program} {w : World} {K : PySem.W.Frag} {h : Heap} {H : Hp} (ok : HOk P w H h) : ∀ {v : V} {d : PyData}, DpT K H v d → DpT K (V3.fast h H) v d
  | _, _, .non => .non
  | _, _, .bl b => .bl b
  | _, _, .int i => .int i
  | _, _, .str x => .str x
  | _, _, .tup s a => .tup (fastT ok s) (DpTAll.fast ok a)
theorem DpTAll.fast {P : Program} {w : World} {K : PySem.W.Frag} {h : Heap} {H : Hp} (ok : HOk P w H h) : ∀ {vs : List V} {ds : List PyData}, DpTAll K H vs ds → DpTAll K (V3.fast h H) vs ds
  | _, _, .nil => .nil
  | _, _, .cons a b => .cons (DpT.fast ok a) (DpTAll.fast ok b)
end
section
variable {mg : Str → Option Value} {base : Heap} {K : PySem.W.Frag} {P : Program} {w : World}
/-- two rows of fractions, the second one shorter -/
structure TwoR (K : PySem.W.Frag) (H : Hp) (v w : V) (tops lows : List Rat) : Prop where
  dt : DpT K H v (rowQ tops)
  dl : DpT K H w (rowQ lows)
  rt : Rw tops.length tops
  rl : Rw lows.length lows
  l6 : tops.length ≤ 6
  l1 : 1 ≤ lows.length
  lt : lows.length < tops.length
theorem TabG.sameG {P : Addr} {H H' : Hp} (t : TabG H P) (s : Same H H') : TabG H' P := by
  obtain ⟨ps, hp, tr⟩ := t
  exact ⟨ps, s _ _ hp, tr⟩
theorem TwoR.keep {H H' : Hp} {v w : V} {tops lows : List Rat} (h : TwoR K H v w tops lows) (s : KeepT H H') : TwoR K H' v w tops lows := ⟨DpT.keep s h.dt, DpT.keep s h.dl, h.rt, h.rl, h.l6, h.l1, h.lt⟩
abbrev s_are_laced : Stmt := topS 16
abbrev N_are_laced : List Str := ["roots", "others", "fewer", "index", "other"]
theorem sc_are_laced : FnScope N_are_laced ["roots", "others"] (defScope s_are_laced) := ⟨rfl, rfl, rfl, by decide +kernel, rfl, by decide +kernel, by decide +kernel⟩
def spAreLaced (K : PySem.W.Frag) (Pt : Addr) : Sp := fun vs H Q _ => ∃ (v w : V) (tops lows : List Rat), vs = [v, w] ∧ TwoR K H v w tops lows ∧ TabG H Pt ∧ ∀ H', Tabbed Pt H H' → Q (.bl (lacB tops lows)) H'
theorem ok_are_laced (T : Gs K mg) {c Pt : Addr} (TB : TabB base mg c Pt) (D_is_above : Df P w K mg base "is_above" 1 ["one", "other"] (spR2b K fun x y => decide (y < x))) (F : AtC K mg "are_laced" s_are_laced c) :
    Df P w K mg base "are_laced" 3 ["roots", "others"] (spAreLaced K Pt) := by
  have sc := sc_are_laced
  refine Df.mkC F sc (fun vs H Q E h => ?_) (fun _ _ _ _ _ _ us hl => match us, hl with | [_, _], _ => rfl) (fun f A outer s H vs Q E hr h => ?_)
  · obtain ⟨v, w, tops, lows, rfl, _⟩ := h
    rfl
  · obtain ⟨v, w', tops, lows, rfl, tw, tab, q⟩ := h
    obtain ⟨p, xs, rfl, hp, hA⟩ := dtTupQ tw.dt
    obtain ⟨p', ys, rfl, hp', hB⟩ := dtTupQ tw.dl
    have lx : xs.length = tops.length := by rw [dtAll_len hA, List.length_map]
    have ly : ys.length = lows.length := by rw [dtAll_len hB, List.length_map]
    have lt := tw.lt
    refine ⟨_, (pss_cons (ps_set (i := 2) sc.nd rfl (.inr rfl) (pe_op op_sub (pe_callB call_len_seq (by rfl) T.len PySem.boot_len (pa_cons (pv 0) pa_nil)) (pe_callB call_len_seq (by rfl) T.len PySem.boot_len (pa_cons (pv 1) pa_nil))))
      (pss_one (ps_ret (pe_allEn (P := Pt) hr (by rfl) T.all (by rfl) T.enumerate TB rfl ⟨rfl, rfl, by decide +kernel, rfl, by
        intro y hy e
        simp only [List.mem_cons, List.not_mem_nil, or_false] at hy
        rcases hy with rfl | rfl | rfl | rfl | rfl | rfl <;> first | exact ⟨_, rfl⟩ | cases e⟩ rfl rfl (by simp; decide) (pa_cons (pv 1) pa_nil) (fun _ => rfl))))), ?_⟩
    refine ⟨_, rfl, _, _, rfl, .inr hp, _, rfl, _, _, rfl, .inr hp', _, _, rfl, rfl, ?_⟩
    refine ⟨_, rfl, p', ys, (fun i => !decide (gq tops i < gq lows i) && !decide (gq lows i < gq tops (i + (tops.length - lows.length)))), rfl, hp', tab, fun h ok ce B mp Ok i x ti u hx ma mb ru G => ?_, fun H2 t2 => ?_⟩
    · have hi : i < lows.length := by
        have := (List.getElem?_eq_some_iff.mp hx).1
        omega
      obtain ⟨y, hy, dy⟩ := fqGetV hB hx
      have ey := gq_of hy
      rw [← ey] at dy hy
      have mfew : ((xs.length : Int) - (ys.length : Int)) = ((tops.length - lows.length : Nat) : Int) := by omega
      obtain ⟨v1, hv1, d1⟩ := gqDt (i := i) hA (by omega)
      obtain ⟨v2, hv2, d2⟩ := gqDt (i := i + (tops.length - lows.length)) hA (by omega)
      have sfast := fastT ok hp
      have by_ := (tw.rl.bq _ (gq_mem hi)).mono (show 100 ≤ 4000 by decide)
      have b1 := (tw.rt.bq _ (gq_mem (show i < tops.length by omega))).mono (show 100 ≤ 4000 by decide)
      have b2 := (tw.rt.bq _ (gq_mem (show i + (tops.length - lows.length) < tops.length by omega))).mono (show 100 ≤ 4000 by decide)
      refine ge_and G (c := !decide (gq tops i < gq lows i)) (ge_not G (P1 := (· = .bl (decide (gq tops i < gq lows i)))) (ge_call2 G D_is_above hr rfl (P1 := (· = x)) (P2 := (· = v1)) (ge_loc G rfl mb ru rfl) (ge_ix G (a := p) (i := (i : Int)) (ge_cap G (ic := 0) ⟨rfl, rfl, rfl, fun _ => rfl, by decide, by decide⟩ rfl rfl) (ge_loc G (v := .int (i : Int)) rfl ma ⟨_, rfl⟩ rfl) sfast (at_of rfl hv1) rfl (fun _ _ => rfl)) ?_) ?_) (fun c => ge_one (ge_not G (P1 := (· = .bl (decide (gq lows i < gq tops (i + (tops.length - lows.length)))))) (ge_call2 G D_is_above hr rfl (P1 := (· = v2)) (P2 := (· = x)) (ge_ix G (a := p) (i := ((i + (tops.length - lows.length) : Nat) : Int)) (ge_cap G (ic := 0) ⟨rfl, rfl, rfl, fun _ => rfl, by decide, by decide⟩ rfl rfl) (ge_add G (P1 := (· = .int (i : Int))) (P2 := (· = .int ((tops.length - lows.length : Nat) : Int))) (ge_loc G (v := .int (i : Int)) rfl ma ⟨_, rfl⟩ rfl) (ge_cap G (ic := 2) ⟨rfl, rfl, rfl, fun _ => rfl, by decide, by decide⟩ rfl ?_) ?_) sfast (at_of rfl hv2) rfl (fun _ _ => rfl)) (ge_loc G rfl mb ru rfl) ?_) ?_)) ?_
      · rintro a b rfl rfl
        exact ⟨_, _, _, _, rfl, DpT.fast ok dy, DpT.fast ok d1, by_, b1, rfl⟩
      · rintro a rfl
        exact ⟨_, rfl, rfl⟩
      · show V.int ((xs.length : Int) - (ys.length : Int)) = _
        rw [mfew]
      · rintro a b rfl rfl
        exact ⟨_, _, rfl, rfl, by rw [Int.natCast_add]⟩
      · rintro a b rfl rfl
        exact ⟨_, _, _, _, rfl, DpT.fast ok d2, DpT.fast ok dy, b2, by_, rfl⟩
      · rintro a rfl
        refine ⟨_, rfl, ?_⟩
        dsimp only
        rw [c, Bool.true_and]
      · intro c
        dsimp only
        rw [c, Bool.false_and]
    · have e : (List.range ys.length).all (fun i => !decide (gq tops i < gq lows i) && !decide (gq lows i < gq tops (i + (tops.length - lows.length)))) = lacB tops lows := by rw [ly]; rfl
      rw [e]
      exact q H2 t2
abbrev s_is_laced : Stmt := topS 15
abbrev N_is_laced : List Str := ["roots", "others"]
theorem sc_is_laced : FnScope N_is_laced ["roots", "others"] (defScope s_is_laced) := ⟨rfl, rfl, rfl, by decide +kernel, rfl, by decide +kernel, by decide +kernel⟩
theorem ok_is_laced {Pt : Addr} (D_check_fewer : Df P w K mg base "check_fewer" 5 ["roots", "others"] (spFewer K)) (D_are_laced : Df P w K mg base "are_laced" 3 ["roots", "others"] (spAreLaced K Pt)) (F : At K mg "is_laced" s_is_laced) :
    Df P w K mg base "is_laced" 6 ["roots", "others"] (fun vs H Q _ => ∃ (v w : V) (tops lows : List Rat), vs = [v, w] ∧ TwoR K H v w tops lows ∧ TabG H Pt ∧ ∀ H', But Pt H H' → TabG H' Pt → Q (.bl (lacB tops lows)) H') := by
  have sc := sc_is_laced
  refine Df.mk' F sc (fun vs H Q E h => ?_) (fun _ _ _ _ _ _ us hl => match us, hl with | [_, _], _ => rfl) (fun f cdv A outer s H vs Q E hr h => ?_)
  · obtain ⟨v, w, tops, lows, rfl, _⟩ := h
    rfl
  · obtain ⟨v, w', tops, lows, rfl, tw, tab, q⟩ := h
    refine ⟨_, (pss_cons (ps_expr (pe_fn D_check_fewer (by decide) hr (pa_cons (pv 0) (pa_cons (pv 1) pa_nil)))) (pss_one (ps_ret (pe_fn D_are_laced (by decide) hr (pa_cons (pv 0) (pa_cons (pv 1) pa_nil)))))), ?_⟩
    refine ⟨_, rfl, _, rfl, _, _, tops, lows, rfl, tw.dt, tw.dl, tw.rt, tw.rl, tw.l6, tw.l1, tw.lt, fun H1 s1 => ?_⟩
    refine ⟨_, rfl, _, rfl, _, _, tops, lows, rfl, tw.keep (Same.kt s1), TabG.sameG (P := Pt) tab s1, fun H2 t2 => ?_⟩
    exact q H2 ((Same.but s1).trans (tab_but t2)) t2.1
abbrev s_row_under : Stmt := topS 18
abbrev N_row_under : List Str := ["roots", "others", "step", "found", "index", "other"]
theorem sc_row_under : FnScope N_row_under ["roots", "others"] (defScope s_row_under) := ⟨rfl, rfl, rfl, by decide +kernel, rfl, by decide +kernel, by decide +kernel⟩
def spUnder (K : PySem.W.Frag) : Sp := fun vs H Q _ => ∃ (v w : V) (now lows : List Rat), vs = [v, w] ∧ DpT K H v (rowQ now) ∧ DpT K H w (rowQ lows) ∧ Rw now.length now ∧ Rw lows.length lows ∧ now.length ≤ 6 ∧ 1 ≤ lows.length ∧ lows.length + 2 ≤ now.length ∧
  ∀ H' v', Same H H' → DpT K H' v' (rowQ (undR now lows)) → Q v' H'
theorem ok_row_under (T : Gs K mg) (D_is_above : Df P w K mg base "is_above" 1 ["one", "other"] (spR2b K fun x y => decide (y < x))) (F : At K mg "row_under" s_row_under) : Df P w K mg base "row_under" 2 ["roots", "others"] (spUnder K) := by
  have sc := sc_row_under
  refine Df.mk' F sc (fun vs H Q E h => ?_) (fun _ _ _ _ _ _ us hl => match us, hl with | [_, _], _ => rfl) (fun f cdv A outer s H vs Q E hr h => ?_)
  · obtain ⟨v, w, tops, lows, rfl, _⟩ := h
    rfl
  · obtain ⟨v, w', now, lows, rfl, dn, dl, rn, rl, l6, l1, ll, q⟩ := h
    obtain ⟨p, xs, rfl, hp, hA⟩ := dtTupQ dn
    obtain ⟨p', ys, rfl, hp', hB⟩ := dtTupQ dl
    have lx : xs.length = now.length := by rw [dtAll_len hA, List.length_map]
    have ly : ys.length = lows.length := by rw [dtAll_len hB, List.length_map]
    refine ⟨_, (pss_cons (ps_set (i := 2) sc.nd rfl (.inl rfl) (pe_op op_sub (pe_op op_sub (pe_callB call_len_seq (by rfl) T.len PySem.boot_len (pa_cons (pv 0) pa_nil)) pe_int) (pe_callB call_len_seq (by rfl) T.len PySem.boot_len (pa_cons (pv 1) pa_nil)))) (pss_cons (ps_set (i := 3) sc.nd rfl (.inl rfl) (pe_callTy call_list_of (by rfl) T.list_ (by decide +kernel) (pa_cons (pe_slice sl_Q (pv 0) po_none (po_some (pe_un un_neg pe_int))) pa_nil))) (pss_cons (ps_for PassesOwn.never rfl (pi_enumT (by rfl) T.enumerate (pa_cons (pv 1) pa_nil)) (pg_tup rfl (pgs_cons (pg_name (i := 4) sc.nd rfl (.inl rfl)) (pgs_cons (pg_name (i := 5) sc.nd rfl (.inl rfl)) pgs_nil))) (pss_one (ps_if (pt_val (pe_fn D_is_above (by decide) hr (pa_cons (pe_ix ix_list (pv 3) (pe_op op_add (pv 4) (pv 2)) (fun _ _ => rfl)) (pa_cons (pv 5) pa_nil)))) (pss_one (ps_asg (pv 5) (pg_sub (pv 3) (pe_op op_add (pv 4) (pv 2)) set_list))) pss_nil))) (pss_one (ps_ret (pe_callTy call_tuple_of (by rfl) T.tuple_ (by decide +kernel) (pa_cons (pv 3) pa_nil))))))), ?_⟩
    refine ⟨_, rfl, _, _, rfl, .inr hp, _, _, rfl, rfl, _, rfl, _, _, rfl, .inr hp', _, _, rfl, rfl, ?_⟩
    have est : ((xs.length : Int) - 1 - (ys.length : Int)) = ((now.length - 1 - lows.length : Nat) : Int) := by omega
    refine ⟨_, rfl, 1, rfl, _, rfl, now.map frd, dn, fun H1 v1 s1 d1 => ?_⟩
    rw [cutP_last (by rw [List.length_map]; omega), List.length_map] at d1
    obtain ⟨p1, zs, rfl, hp1, hC⟩ := dtTupQ d1
    refine ⟨p1, zs, rfl, .inr hp1, fun pf hpf => ?_⟩
    have s2 : Same H (upd H1 pf (.lst zs)) := s1.trans (same_upd hpf)
    have hC0 : DpTAll K (upd H1 pf (.lst zs)) zs ((undI now lows 0).map frd) := by
      rw [undI_zero, List.map_take]
      exact hC.keep (Same.kt (same_upd hpf))
    have pfn : H pf = none := by
      cases e : H pf with
      | none => rfl
      | some o => rw [s1 _ _ e] at hpf; cases hpf
    refine ⟨_, rfl, p', ys, rfl, sameT s2 hp', for_enumT (K := K) (a := p') (xs := ys) (fun i σ H' => (∃ y z, σ = [some (.ref p), some (.ref p'), some (.int ((xs.length : Int) - 1 - (ys.length : Int))), some (.ref pf), y, z]) ∧ Same H H' ∧ ∃ zs, H' pf = some (.lst zs) ∧ DpTAll K H' zs ((undI now lows i).map frd)) ⟨⟨none, none, rfl⟩, s2, zs, upd_same, hC0⟩ (fun i σ H' _ h => sameT h.2.1 hp') ?_ ?_⟩
    · rintro i x T' σ H' hi ⟨⟨y, z, rfl⟩, sm, zs', hz, hzs⟩ hT
      obtain ⟨qq, hq, hdp⟩ := fqGetV hB hi
      have hil := (List.getElem?_eq_some_iff.mp hq).1
      have eq := gq_of hq
      rw [← eq] at hdp
      have sT : Same H' (upd H' T' (.tup [.int (i : Nat), x])) := same_upd hT
      have sm2 := sm.trans sT
      have hz2 := sT _ _ hz
      have hzs2 := hzs.keep (Same.kt sT)
      have lz : zs'.length = now.length - 1 := by rw [dtAll_len hzs, List.length_map, undI_len]
      refine ⟨T', _, rfl, SqT.of upd_same, rfl, _, _, rfl, _, _, rfl, rfl, ?_⟩
      generalize upd H' T' (.tup [.int (i : Nat), x]) = H3 at sm2 sT hz2 hzs2
      have hin : i + (now.length - 1 - lows.length) < (undI now lows i).length := by rw [undI_len]; omega
      obtain ⟨v', hv', dv'⟩ := gqDt (i := i + (now.length - 1 - lows.length)) hzs2 hin
      have bz : Bq 100 (gq (undI now lows i) (i + (now.length - 1 - lows.length))) := by
        rw [undI_get (by omega)]
        unfold undV
        split
        · exact rl.bq _ (gq_mem (by omega))
        · exact rn.bq _ (gq_mem (by omega))
      refine ⟨_, rfl, _, rfl, _, rfl, _, _, rfl, rfl, pf, zs', _, _, rfl, rfl, SqL.of hz2, at_of (j := i + (now.length - 1 - lows.length)) (by omega) hv', _, rfl, ?_⟩
      refine ⟨_, _, _, _, rfl, dv', fqSame hdp sm2, bz.mono (by decide), (rl.bq _ (gq_mem hil)).mono (by decide), _, rfl, ?_⟩
      have mo := undI_more (now := now) hil (by omega)
      refine if2 (fun e => ?_) (fun e => ?_)
      · have c := of_decide_eq_true e
        rw [if_pos c] at mo
        refine ⟨_, rfl, _, rfl, _, rfl, _, rfl, _, _, rfl, rfl, pf, zs', _, i + (now.length - 1 - lows.length), rfl, rfl, hz2, ixNat (i := i + (now.length - 1 - lows.length)) (by omega) (by omega), ?_⟩
        · refine ⟨⟨_, _, rfl⟩, same_updN sm2 pfn, _, upd_same, ?_⟩
          rw [mo, List.map_set]
          exact dtAll_set _ (hzs2.keep (kt_lst hz2)) (DpT.keep (kt_lst hz2) (fqSame hdp sm2))
      · have c := of_decide_eq_false e
        rw [if_neg c] at mo
        refine ⟨⟨_, _, rfl⟩, sm2, zs', hz2, ?_⟩
        rw [mo]
        exact hzs2
    · rintro σ H' ⟨⟨y, z, rfl⟩, sm, zs', hz, hzs⟩
      refine ⟨_, rfl, pf, zs', rfl, .inl ⟨SqL.of hz, fun l hl' => ?_⟩⟩
      rw [ly] at hzs
      exact q _ _ (sm.trans (same_upd hl')) (.tup (SqT.of upd_same) (hzs.keep (Same.kt (same_upd hl'))))
end
end V3
namespace V3
open PySem.Spec PySem L2 PyProof.Rows RZ GxR
theorem TabG.updN {P p : Addr} {H : Hp} {o : HO} (t : TabG H P) (h : p ≠ P) : TabG (upd H p o) P := by
  obtain ⟨ps, hp, tr⟩ := t
  exact ⟨ps, by rw [upd_ne (Ne.symm h)]; exact hp, tr⟩
theorem TabG.ne {P p : Addr} {H : Hp} (t : TabG H P) (h : H p = none) : p ≠ P := fun z => by
  obtain ⟨ps, hp, tr⟩ := t
  rw [← z, h] at hp
  cases hp
theorem But.none {P p : Addr} {H H' : Hp} (b : But P H H') (h : H' p = none) (n : p ≠ P) : H p = none := by
  cases e : H p with
  | none => rfl
  | some o =>
    have := b p o n e
    rw [h] at this
    cases this
section
variable {mg : Str → Option Value} {base : Heap} {K : PySem.W.Frag} {P : Program} {w : World}
abbrev s_rows_between : Stmt := topS 17
abbrev N_rows_between : List Str := ["roots", "others", "found", "now"]
theorem sc_rows_between : FnScope N_rows_between ["roots", "others"] (defScope s_rows_between) := ⟨rfl, rfl, rfl, by decide +kernel, rfl, by decide +kernel, by decide +kernel⟩
abbrev rowsQ (rows : List (List Rat)) : PyData := .tuple (rows.map rowQ)
def spBetween (K : PySem.W.Frag) (Pt : Addr) : Sp := fun vs H Q _ => ∃ (v w : V) (tops lows : List Rat), vs = [v, w] ∧ TwoR K H v w tops lows ∧ TabG H Pt ∧
  (lacB tops lows = false → ∀ H', But Pt H H' → TabG H' Pt → Q .non H') ∧
  (lacB tops lows = true → ∀ H' v' rows, But Pt H H' → TabG H' Pt → DpT K H' v' (rowsQ rows) → Ch tops lows rows → rows.length + lows.length + 1 = tops.length → Q v' H')
theorem ok_rows_between (T : Gs K mg) {Pt : Addr} (D_check_fewer : Df P w K mg base "check_fewer" 5 ["roots", "others"] (spFewer K)) (D_are_laced : Df P w K mg base "are_laced" 3 ["roots", "others"] (spAreLaced K Pt)) (D_row_under : Df P w K mg base "row_under" 2 ["roots", "others"] (spUnder K)) (F : At K mg "rows_between" s_rows_between) :
    Df P w K mg base "rows_between" 6 ["roots", "others"] (spBetween K Pt) := by
  have sc := sc_rows_between
  refine Df.mk' F sc (fun vs H Q E h => ?_) (fun _ _ _ _ _ _ us hl => match us, hl with | [_, _], _ => rfl) (fun f cdv A outer s H vs Q E hr h => ?_)
  · obtain ⟨v, w, tops, lows, rfl, _⟩ := h
    rfl
  · obtain ⟨v, w', tops, lows, rfl, tw, tab, q1, q2⟩ := h
    refine ⟨_, (pss_cons (ps_expr (pe_fn D_check_fewer (by decide) hr (pa_cons (pv 0) (pa_cons (pv 1) pa_nil)))) (pss_cons (ps_if (pt_not (pt_val (pe_fn D_are_laced (by decide) hr (pa_cons (pv 0) (pa_cons (pv 1) pa_nil))))) (pss_one (ps_ret pe_non)) pss_nil) (pss_cons (ps_set (i := 2) sc.nd rfl (.inl rfl) (pe_lst pa_nil)) (pss_cons (ps_set (i := 3) sc.nd rfl (.inl rfl) (pv 0)) (pss_cons (ps_while PassesOwn.never (pt_cmpR op_gt (pe_callB call_len_seq (by rfl) T.len PySem.boot_len (pa_cons (pv 3) pa_nil)) (pe_op op_add (pe_callB call_len_seq (by rfl) T.len PySem.boot_len (pa_cons (pv 1) pa_nil)) pe_int) (nomark _)) (pss_cons (ps_set (i := 3) sc.nd rfl (.inl rfl) (pe_fn D_row_under (by decide) hr (pa_cons (pv 3) (pa_cons (pv 1) pa_nil)))) (pss_one (ps_expr (pe_bm PySem.F.plainAttrs_list PySem.F.slot_list_append PySem.F.type_list_append mt_append (pv 2) (pa_cons (pv 3) pa_nil)))))) (pss_one (ps_ret (pe_callTy call_tuple_of (by rfl) T.tuple_ (by decide +kernel) (pa_cons (pv 2) pa_nil))))))))), ?_⟩
    refine ⟨_, rfl, _, rfl, _, _, tops, lows, rfl, tw.dt, tw.dl, tw.rt, tw.rl, tw.l6, tw.l1, tw.lt, fun H1 s1 => ?_⟩
    refine ⟨_, rfl, _, rfl, _, _, tops, lows, rfl, tw.keep (Same.kt s1), TabG.sameG (P := Pt) tab s1, fun H2 t2 => ?_⟩
    have b2 : But Pt H H2 := (Same.but s1).trans (tab_but t2)
    have tw2 : TwoR K H2 v w' tops lows := (tw.keep (Same.kt s1)).keep (kt_tab t2 (TabG.sameG (P := Pt) tab s1))
    have tab2 : TabG H2 Pt := t2.1
    refine ⟨_, rfl, if2 (fun e => ?_) (fun e => ?_)⟩
    · have c : lacB tops lows = false := by simpa using e
      exact q1 c H2 b2 tab2
    · have c : lacB tops lows = true := by simpa using e
      refine ⟨by show 0 ≤ sizeLine; decide, fun pf hpf => ?_⟩
      have npf := TabG.ne (P := Pt) tab2 hpf
      have kt3 : KeepT H2 (upd H2 pf (.lst [])) := kt_new hpf
      have tw3 := tw2.keep kt3
      refine ⟨_, rfl, ?_⟩
      refine ⟨fun m σ H' => ∃ (rows : List (List Rat)) (zs : List V) (v' : V), m = tops.length - rows.length ∧ σ = [some v, some w', some (.ref pf), some v'] ∧ But Pt H H' ∧ TabG H' Pt ∧ TwoR K H' v w' tops lows ∧ H' pf = some (.lst zs) ∧ DpTAll K H' zs (rows.map rowQ) ∧ Ch tops lows rows ∧ DpT K H' v' (rowQ ((tops :: rows).getD rows.length [])),
        ⟨_, [], [], v, rfl, rfl, b2.updN (But.none b2 hpf npf), TabG.updN (P := Pt) tab2 npf, tw3, upd_same, .nil, Ch.start tw.rt (lac_iff.mp c) tw.lt, tw3.dt⟩, ?_⟩
      rintro m σ H3 ⟨rows, zs, v', rfl, rfl, b3, tab3, tw3', hz, hzs, ch, dv⟩
      have hpf0 : H pf = none := But.none b2 hpf npf
      obtain ⟨rk, lk, _⟩ := ch.each rows.length (Nat.le_refl _)
      have fw := ch.few
      have l6 := tw.l6
      obtain ⟨p, xs, rfl, hp, hA⟩ := dtTupQ dv
      obtain ⟨p', ys, rfl, hp', hB⟩ := dtTupQ tw3'.dl
      have lx : xs.length = tops.length - rows.length := by rw [dtAll_len hA, List.length_map, rk.len]
      have ly : ys.length = lows.length := by rw [dtAll_len hB, List.length_map]
      have lz : zs.length = rows.length := by rw [dtAll_len hzs, List.length_map]
      refine ⟨_, rfl, _, _, rfl, .inr hp, _, rfl, _, _, rfl, .inr hp', _, _, rfl, rfl, _, _, rfl, rfl, _, rfl, if2 (fun e2 => ?_) (fun e2 => ?_)⟩
      · have mo : lows.length + 1 < tops.length - rows.length := by
          have := of_decide_eq_true e2
          omega
        refine ⟨fun σ' H' => ∃ m', m' < tops.length - rows.length ∧ ∃ (rows : List (List Rat)) (zs : List V) (v' : V), m' = tops.length - rows.length ∧ σ' = [some v, some (.ref p'), some (.ref pf), some v'] ∧ But Pt H H' ∧ TabG H' Pt ∧ TwoR K H' v (.ref p') tops lows ∧ H' pf = some (.lst zs) ∧ DpTAll K H' zs (rows.map rowQ) ∧ Ch tops lows rows ∧ DpT K H' v' (rowQ ((tops :: rows).getD rows.length [])), fun σ' H' z => z, ?_⟩
        refine ⟨_, rfl, _, rfl, _, _, _, lows, rfl, dv, tw3'.dl, ⟨rfl, rk.srt, rk.bq⟩, tw.rl, by rw [rk.len]; omega, tw.l1, by rw [rk.len]; omega, fun H4 v4 s4 d4 => ?_⟩
        have hz4 := s4 _ _ hz
        have hzs4 := hzs.keep (Same.kt s4)
        refine ⟨_, rfl, .inl ⟨rfl, _, SqL.of hz4⟩, _, rfl, pf, zs, _, rfl, rfl, hz4, small1000 (by omega), ?_⟩
        have ch2 := ch.more tw.rl mo
        have kt5 : KeepT H4 (upd H4 pf (.lst (zs ++ [v4]))) := kt_lst hz4
        have eg : (tops :: (rows ++ [undR ((tops :: rows).getD rows.length []) lows])).getD (rows ++ [undR ((tops :: rows).getD rows.length []) lows]).length [] = undR ((tops :: rows).getD rows.length []) lows := by
          have : tops :: (rows ++ [undR ((tops :: rows).getD rows.length []) lows]) = (tops :: rows) ++ [undR ((tops :: rows).getD rows.length []) lows] := rfl
          rw [this, List.length_append, List.length_singleton]
          exact getD_last
        refine ⟨_, ?_, rows ++ [undR ((tops :: rows).getD rows.length []) lows], zs ++ [v4], v4, rfl, rfl, (b3.trans (Same.but s4)).updN hpf0, TabG.updN (P := Pt) (TabG.sameG (P := Pt) tab3 s4) npf, (tw3'.keep (Same.kt s4)).keep kt5, upd_same, ?_, ch2, ?_⟩
        · (rw [List.length_append, List.length_singleton])
          omega
        · rw [List.map_append]
          exact dtAll_app (hzs4.keep kt5) (.cons (DpT.keep kt5 d4) .nil)
        · rw [eg]
          exact DpT.keep kt5 d4
      · have mo : ¬ (lows.length + 1 < tops.length - rows.length) := by
          have := of_decide_eq_false e2
          omega
        refine ⟨_, rfl, pf, zs, rfl, .inl ⟨SqL.of hz, fun l hl' => ?_⟩⟩
        have nl := TabG.ne (P := Pt) tab3 hl'
        refine q2 c _ _ rows (b3.trans (Same.but (same_upd hl'))) (TabG.updN (P := Pt) tab3 nl) (.tup (SqT.of upd_same) (hzs.keep (kt_new hl'))) ch ?_
        omega
end
end V3
set_option maxHeartbeats 8000000
namespace V3
open PySem.Spec PySem L2 PyProof.Rows RZ GxR
section
variable {mg : Str → Option Value} {base : Heap} {K : PySem.W.Frag} {P : Program} {w : World}
abbrev s__law_draw : Stmt := topS 21
abbrev N__law_draw : List Str := ["well", "limit", "seed", "digit"]
theorem sc__law_draw : FnScope N__law_draw ["well", "limit"] (defScope s__law_draw) := ⟨rfl, rfl, rfl, by decide +kernel, rfl, by decide +kernel, by decide +kernel⟩
def spDraw : Sp := fun vs H Q _ => ∃ (a : Addr) (n : Int) (k : Nat), vs = [.ref a, .int n] ∧ Well H a k ∧ k ≤ 1000000 ∧ 0 < n ∧ n < 1073741824 ∧ ∀ H' d, But a H H' → Well H' a (k + 1) → 0 ≤ d → d < n → Q (.int d) H'
theorem ok_draw (T : Gs K mg) (F : At K mg "_law_draw" s__law_draw) : Df P w K mg base "_law_draw" 1 ["well", "limit"] spDraw := by
  have sc := sc__law_draw
  refine Df.mk' F sc (fun vs H Q E h => ?_) (fun _ _ _ _ _ _ us hl => match us, hl with | [_, _], _ => rfl) (fun f cdv A outer s H vs Q E hr h => ?_)
  · obtain ⟨a, q, u, rfl, _⟩ := h
    rfl
  · obtain ⟨a, n, k, rfl, ⟨x, y, z, hw, x0, y0, yl0, z0, zl⟩, kl, n0, nl, q⟩ := h
    refine ⟨_, (pss_cons (ps_if (pt_cmpR op_gt (pe_ix ix_list (pv 0) pe_int (fun _ _ => rfl)) pe_int (nomark _)) (pss_cons (ps_asg (pe_callB call_divmod (by rfl) T.divmod (by decide +kernel) (pa_cons (pe_ix ix_list (pv 0) pe_int (fun _ _ => rfl)) (pa_cons (pv 1) pa_nil))) (pg_tup rfl (pgs_cons (pg_sub (pv 0) pe_int set_list) (pgs_cons (pg_name (i := 3) sc.nd rfl (.inl rfl)) pgs_nil)))) (pss_one (ps_ret (pv 3)))) pss_nil) (pss_cons (ps_asg (pe_op op_add (pe_ix ix_list (pv 0) pe_int (fun _ _ => rfl)) pe_int) (pg_sub (pv 0) pe_int set_list)) (pss_cons (ps_set (i := 2) sc.nd rfl (.inl rfl) (pe_op op_mod (pe_callTy call_int1 (by rfl) T.int_ (by decide +kernel) (pa_cons (pe_op op_add (pe_op op_mul (pe_ix ix_list (pv 0) pe_int (fun _ _ => rfl)) pe_int) (pe_op op_mul (pe_ix ix_list (pv 0) pe_int (fun _ _ => rfl)) pe_int)) pa_nil)) pe_int)) (pss_cons (ps_asg (pe_op op_mod (pe_callTy call_int1 (by rfl) T.int_ (by decide +kernel) (pa_cons (pe_op op_add (pe_op op_mul (pv 2) (pe_op op_add (pe_op op_mod (pe_callTy call_int1 (by rfl) T.int_ (by decide +kernel) (pa_cons (pv 2) pa_nil)) pe_int) pe_int)) (pe_op op_mul (pe_ix ix_list (pv 0) pe_int (fun _ _ => rfl)) (pe_ix ix_list (pv 0) pe_int (fun _ _ => rfl)))) pa_nil)) pe_int) (pg_sub (pv 0) pe_int set_list)) (pss_one (ps_ret (pe_op op_mod (pe_callTy call_int1 (by rfl) T.int_ (by decide +kernel) (pa_cons (pe_op op_fdiv (pe_ix ix_list (pv 0) pe_int (fun _ _ => rfl)) pe_int) pa_nil)) (pv 1)))))))), ?_⟩
    refine ⟨_, rfl, a, _, _, _, rfl, rfl, SqL.of hw, at30, _, _, rfl, rfl, _, rfl, if2 (fun e => ?_) (fun e => ?_)⟩
    · refine ⟨_, rfl, a, _, _, _, rfl, rfl, SqL.of hw, at30, _, rfl, x, n, rfl, ⟨n0, nl⟩, fun p hp => ?_⟩
      have s1 : Same H (upd H p (.tup [.int (x / n), .int (x % n)])) := same_upd hp
      refine ⟨p, _, rfl, SqT.of upd_same, rfl, _, _, rfl, _, rfl, a, _, _, 0, rfl, rfl, s1 _ _ hw, rfl, ?_⟩
      refine ⟨_, _, rfl, rfl, ?_⟩
      refine ⟨_, rfl, ?_⟩
      exact q _ _ (But.upd (Same.but s1)) ⟨_, _, _, upd_same, Int.ediv_nonneg x0 (Int.le_of_lt n0), y0, yl0, z0, by omega⟩ (Int.emod_nonneg _ (by omega)) (Int.emod_lt_of_pos _ n0)
    · refine ⟨_, rfl, a, _, _, _, rfl, rfl, SqL.of hw, at32, _, _, rfl, rfl, _, rfl, a, _, _, 2, rfl, rfl, hw, rfl, ?_⟩
      have h1 : (upd H a (.lst (List.set [.int x, .int y, .int z] 2 (.int (z + 1))))) a = some (.lst [.int x, .int y, .int (z + 1)]) := upd_same
      have b1 : But a H (upd H a (.lst (List.set [.int x, .int y, .int z] 2 (.int (z + 1))))) := (But.refl a H).upd
      generalize upd H a (.lst (List.set [.int x, .int y, .int z] 2 (.int (z + 1)))) = H1 at b1 h1
      refine ⟨_, rfl, a, _, _, _, rfl, rfl, SqL.of h1, at31, _, _, rfl, rfl, Or.inr (by omega), ?_⟩
      refine ⟨_, rfl, a, _, _, _, rfl, rfl, SqL.of h1, at32, _, _, rfl, rfl, Or.inr (by omega), ?_⟩
      refine ⟨_, _, rfl, rfl, .inl ⟨_, rfl, ?_⟩⟩
      refine ⟨_, _, rfl, rfl, by show (0 : Int) < 2147483423; decide, ?_⟩
      have s0 : 0 ≤ (y * 48271 + (z + 1) * 30269) % 2147483423 := Int.emod_nonneg _ (by decide)
      have sl : (y * 48271 + (z + 1) * 30269) % 2147483423 < 2147483423 := Int.emod_lt_of_pos _ (by decide)



      refine ⟨_, rfl, _, rfl, .inl ⟨_, rfl, _, _, rfl, rfl, by show (0 : Int) < 4093; decide, _, _, rfl, rfl, ?_⟩⟩
      have t0 : 0 ≤ ((y * 48271 + (z + 1) * 30269) % 2147483423) % 4093 := Int.emod_nonneg _ (by decide)
      have tl : ((y * 48271 + (z + 1) * 30269) % 2147483423) % 4093 < 4093 := Int.emod_lt_of_pos _ (by decide)
      refine ⟨_, _, rfl, rfl, Or.inr (by omega), ?_⟩
      refine ⟨_, rfl, a, _, _, _, rfl, rfl, SqL.of h1, at32, _, rfl, a, _, _, _, rfl, rfl, SqL.of h1, at32, _, _, rfl, rfl, Or.inr (by omega), ?_⟩
      refine ⟨_, _, rfl, rfl, .inl ⟨_, rfl, ?_⟩⟩
      refine ⟨_, _, rfl, rfl, by show (0 : Int) < 2147483423; decide, ?_⟩
      have u0 : 0 ≤ (((y * 48271 + (z + 1) * 30269) % 2147483423) * (((y * 48271 + (z + 1) * 30269) % 2147483423) % 4093 + 32003) + (z + 1) * (z + 1)) % 2147483423 := Int.emod_nonneg _ (by decide)
      have ul : (((y * 48271 + (z + 1) * 30269) % 2147483423) * (((y * 48271 + (z + 1) * 30269) % 2147483423) % 4093 + 32003) + (z + 1) * (z + 1)) % 2147483423 < 2147483423 := Int.emod_lt_of_pos _ (by decide)
      refine ⟨_, rfl, a, _, _, 1, rfl, rfl, h1, rfl, ?_⟩
      have h2 : (upd H1 a (.lst (List.set [.int x, .int y, .int (z + 1)] 1 (.int ((((y * 48271 + (z + 1) * 30269) % 2147483423) * (((y * 48271 + (z + 1) * 30269) % 2147483423) % 4093 + 32003) + (z + 1) * (z + 1)) % 2147483423))))) a = some (.lst [.int x, .int ((((y * 48271 + (z + 1) * 30269) % 2147483423) * (((y * 48271 + (z + 1) * 30269) % 2147483423) % 4093 + 32003) + (z + 1) * (z + 1)) % 2147483423), .int (z + 1)]) := upd_same
      have b2 : But a H (upd H1 a (.lst (List.set [.int x, .int y, .int (z + 1)] 1 (.int ((((y * 48271 + (z + 1) * 30269) % 2147483423) * (((y * 48271 + (z + 1) * 30269) % 2147483423) % 4093 + 32003) + (z + 1) * (z + 1)) % 2147483423))))) := b1.upd
      refine ⟨_, rfl, a, _, _, _, rfl, rfl, SqL.of h2, at31, _, _, rfl, rfl, ⟨by decide, by decide⟩, .inl ⟨_, rfl, ?_⟩⟩
      refine ⟨_, rfl, _, _, rfl, rfl, n0, ?_⟩
      exact q _ _ b2 ⟨_, _, _, h2, x0, u0, by omega, by omega, by omega⟩ (Int.emod_nonneg _ (by omega)) (Int.emod_lt_of_pos _ n0)
abbrev s__law_pick : Stmt := topS 22
abbrev N__law_pick : List Str := ["well", "some"]
theorem sc__law_pick : FnScope N__law_pick ["well", "some"] (defScope s__law_pick) := ⟨rfl, rfl, rfl, by decide +kernel, rfl, by decide +kernel, by decide +kernel⟩
def spPick (K : PySem.W.Frag) : Sp := fun vs H Q _ => ∃ (a p : Addr) (xs : List V) (k : Nat), vs = [.ref a, .ref p] ∧ Well H a k ∧ k ≤ 1000000 ∧ SqT K H p xs ∧ 0 < xs.length ∧ xs.length ≤ 1000 ∧ ∀ H' (i : Nat) x, But a H H' → Well H' a (k + 1) → xs[i]? = some x → Q x H'
theorem ok_pick (T : Gs K mg) (D__law_draw : Df P w K mg base "_law_draw" 1 ["well", "limit"] spDraw) (F : At K mg "_law_pick" s__law_pick) : Df P w K mg base "_law_pick" 2 ["well", "some"] (spPick K) := by
  have sc := sc__law_pick
  refine Df.mk' F sc (fun vs H Q E h => ?_) (fun _ _ _ _ _ _ us hl => match us, hl with | [_, _], _ => rfl) (fun f cdv A outer s H vs Q E hr h => ?_)
  · obtain ⟨a, q, u, k, rfl, _⟩ := h
    rfl
  · obtain ⟨a, p, xs, k, rfl, hw, kl, hp, n0, nl, q⟩ := h
    refine ⟨_, (pss_one (ps_ret (pe_ix ix_tup (pv 1) (pe_fn D__law_draw (by decide) hr (pa_cons (pv 0) (pa_cons (pe_callB call_len_seq (by rfl) T.len PySem.boot_len (pa_cons (pv 1) pa_nil)) pa_nil))) (fun _ _ => rfl)))), ?_⟩
    refine ⟨_, rfl, _, rfl, _, rfl, p, _, rfl, .inr hp, a, _, k, rfl, hw, kl, by omega, by omega, fun H' d b1 w1 d0 dl => ?_⟩
    obtain ⟨i, rfl⟩ : ∃ i : Nat, d = i := ⟨d.toNat, by omega⟩
    have hi : i < xs.length := by omega
    refine ⟨p, xs, _, xs[i], rfl, rfl, (b1.ktW hw).sqT hp, at_of rfl (List.getElem?_eq_getElem hi), ?_⟩
    exact q H' i _ b1 w1 (List.getElem?_eq_getElem hi)
abbrev s__law_cut : Stmt := topS 23
abbrev N__law_cut : List Str := ["top", "under", "one", "two"]
theorem sc__law_cut : FnScope N__law_cut ["top", "under"] (defScope s__law_cut) := ⟨rfl, rfl, rfl, by decide +kernel, rfl, by decide +kernel, by decide +kernel⟩
theorem ok_cut (T : Gs K mg) (F : At K mg "_law_cut" s__law_cut) : Df P w K mg base "_law_cut" 1 ["top", "under"] spFrac := by
  have sc := sc__law_cut
  refine Df.mk' F sc (fun vs H Q E h => ?_) (fun _ _ _ _ _ _ us hl => match us, hl with | [_, _], _ => rfl) (fun f cdv A outer s H vs Q E hr h => ?_)
  · obtain ⟨n, u, rfl, _⟩ := h
    rfl
  · obtain ⟨n, u, rfl, hu, su, q⟩ := h
    refine ⟨_, (pss_cons (ps_par (i := 2) (j := 3) rfl sc.nd rfl rfl (by decide) rfl rfl (pa_cons (pe_callB call_abs (by rfl) T.abs (by decide +kernel) (pa_cons (pv 0) pa_nil)) (pa_cons (pe_callB call_abs (by rfl) T.abs (by decide +kernel) (pa_cons (pv 1) pa_nil)) pa_nil)) (by rfl)) (pss_cons (ps_while PassesOwn.never (pt_cmpR op_ne (pv 3) pe_int (nomark _)) (pss_one (ps_par (i := 2) (j := 3) rfl sc.nd rfl rfl (by decide) rfl rfl (pa_cons (pv 3) (pa_cons (pe_op op_mod (pe_callTy call_int1 (by rfl) T.int_ (by decide +kernel) (pa_cons (pv 2) pa_nil)) (pv 3)) pa_nil)) (by rfl)))) (pss_cons (ps_if (pt_cmpR op_lt (pv 1) pe_int (nomark _)) (pss_one (ps_set (i := 2) sc.nd rfl (.inl rfl) (pe_op op_sub pe_int (pv 2)))) pss_nil) (pss_one (ps_ret (pe_tup (pa_cons (pe_op op_fdivW (pv 0) (pv 2)) (pa_cons (pe_op op_fdivW (pv 1) (pv 2)) pa_nil)))))))), ?_⟩
    have en : (if n < 0 then -n else n) = ((n.natAbs : Nat) : Int) := by split <;> omega
    have eu : (if u < 0 then -u else u) = ((u.natAbs : Nat) : Int) := by split <;> omega
    refine ⟨_, rfl, n, rfl, _, rfl, u, rfl, _, _, rfl, ?_⟩
    rw [en, eu]
    refine ⟨fun m σ H' => H' = H ∧ ∃ a b : Nat, σ = [some (.int n), some (.int u), some (.int a), some (.int b)] ∧ Nat.gcd a b = Int.gcd n u ∧ m = b, ⟨_, rfl, n.natAbs, u.natAbs, rfl, rfl, rfl⟩, ?_⟩
    rintro m σ H1 ⟨rfl, a, b, rfl, hg, rfl⟩
    refine ⟨_, rfl, rfl, _, rfl, if2 (fun e => ?_) (fun e => ?_)⟩
    · have b0 : 0 < m := by
        simp at e
        omega
      refine ⟨fun σ' H' => ∃ m', m' < m ∧ (H' = H1 ∧ ∃ a b : Nat, σ' = [some (.int n), some (.int u), some (.int a), some (.int b)] ∧ Nat.gcd a b = Int.gcd n u ∧ m' = b), fun σ' H' z => z, ?_⟩
      refine ⟨_, rfl, _, rfl, .inl ⟨_, rfl, _, rfl, _, _, rfl, rfl, by show (0 : Int) < m; omega, _, _, rfl, ?_⟩⟩
      refine ⟨_, Nat.mod_lt a b0, rfl, m, a % m, ?_, ?_, rfl⟩
      · rfl
      · rw [← hg, Nat.gcd_comm a m, Nat.gcd_rec m a, Nat.gcd_comm]
    · have b0 : m = 0 := by
        simpa using e
      subst b0
      rw [Nat.gcd_zero_right] at hg
      subst hg
      have g0 := gcdP (n := n) hu
      have g1 := gcdL (n := n) hu
      have w : CDivW n (Int.gcd n u : Int) := wide_div g0 (b := 9000) (wide_le (by omega) g1 su) (by decide) (by decide)
      refine ⟨_, rfl, _, _, rfl, rfl, _, rfl, ite2 (fun e => ?_) (fun e => ?_)⟩
      · exact absurd (of_decide_eq_true e) (by omega)
      · refine ⟨_, rfl, _, rfl, _, _, rfl, rfl, w, _, rfl, _, rfl, _, _, rfl, rfl, w, by show 2 ≤ sizeLine; decide, fun p hp => ?_⟩
        exact q _ p (same_upd hp) (made hu upd_same)
abbrev s__law_add : Stmt := topS 24
abbrev N__law_add : List Str := ["one", "two"]
theorem sc__law_add : FnScope N__law_add ["one", "two"] (defScope s__law_add) := ⟨rfl, rfl, rfl, by decide +kernel, rfl, by decide +kernel, by decide +kernel⟩
theorem ok_law_add (D__law_cut : Df P w K mg base "_law_cut" 1 ["top", "under"] spFrac) (F : At K mg "_law_add" s__law_add) : Df P w K mg base "_law_add" 2 ["one", "two"] (spR2 K (· + ·) fun _ => True) := by
  have sc := sc__law_add
  refine Df.mk' F sc (fun vs H Q E h => ?_) (fun _ _ _ _ _ _ us hl => match us, hl with | [_, _], _ => rfl) (fun f cdv A outer s H vs Q E hr h => ?_)
  · obtain ⟨v, w, x, y, rfl, _⟩ := h
    rfl
  · obtain ⟨v, w, x, y, rfl, hx, hy, sx, sy, _, q⟩ := h
    obtain ⟨p, rfl, hp⟩ := fqT hx
    obtain ⟨p', rfl, hp'⟩ := fqT hy
    refine ⟨_, (pss_one (ps_ret (pe_fn D__law_cut (by decide) hr (pa_cons (pe_op op_add (pe_op op_mulW (pe_ix ix_tup (pv 0) pe_int (fun _ _ => rfl)) (pe_ix ix_tup (pv 1) pe_int (fun _ _ => rfl))) (pe_op op_mulW (pe_ix ix_tup (pv 1) pe_int (fun _ _ => rfl)) (pe_ix ix_tup (pv 0) pe_int (fun _ _ => rfl)))) (pa_cons (pe_op op_mulW (pe_ix ix_tup (pv 0) pe_int (fun _ _ => rfl)) (pe_ix ix_tup (pv 1) pe_int (fun _ _ => rfl))) pa_nil))))), ?_⟩
    refine ⟨_, rfl, _, _, _, _, rfl, rfl, hp, at20, _, rfl, _, _, _, _, rfl, rfl, hp', at21, _, _, rfl, rfl, mulW4 sx.n (natI sy.d), ?_⟩
    refine ⟨_, rfl, _, _, _, _, rfl, rfl, hp', at20, _, rfl, _, _, _, _, rfl, rfl, hp, at21, _, _, rfl, rfl, mulW4 sy.n (natI sx.d), ?_⟩
    refine ⟨_, _, rfl, rfl, ?_⟩
    refine ⟨_, rfl, _, _, _, _, rfl, rfl, hp, at21, _, rfl, _, _, _, _, rfl, rfl, hp', at21, _, _, rfl, rfl, mulW4 (natI sx.d) (natI sy.d), ?_⟩
    dsimp only at q
    rw [radd] at q
    exact ⟨_, _, rfl, Int.mul_pos (rden_pos x) (rden_pos y), sz4 (natI sx.d) (natI sy.d), q⟩
abbrev s__law_sub : Stmt := topS 25
abbrev N__law_sub : List Str := ["one", "two"]
theorem sc__law_sub : FnScope N__law_sub ["one", "two"] (defScope s__law_sub) := ⟨rfl, rfl, rfl, by decide +kernel, rfl, by decide +kernel, by decide +kernel⟩
theorem ok_law_sub (D__law_cut : Df P w K mg base "_law_cut" 1 ["top", "under"] spFrac) (F : At K mg "_law_sub" s__law_sub) : Df P w K mg base "_law_sub" 2 ["one", "two"] (spR2 K (· - ·) fun _ => True) := by
  have sc := sc__law_sub
  refine Df.mk' F sc (fun vs H Q E h => ?_) (fun _ _ _ _ _ _ us hl => match us, hl with | [_, _], _ => rfl) (fun f cdv A outer s H vs Q E hr h => ?_)
  · obtain ⟨v, w, x, y, rfl, _⟩ := h
    rfl
  · obtain ⟨v, w, x, y, rfl, hx, hy, sx, sy, _, q⟩ := h
    obtain ⟨p, rfl, hp⟩ := fqT hx
    obtain ⟨p', rfl, hp'⟩ := fqT hy
    refine ⟨_, (pss_one (ps_ret (pe_fn D__law_cut (by decide) hr (pa_cons (pe_op op_sub (pe_op op_mulW (pe_ix ix_tup (pv 0) pe_int (fun _ _ => rfl)) (pe_ix ix_tup (pv 1) pe_int (fun _ _ => rfl))) (pe_op op_mulW (pe_ix ix_tup (pv 1) pe_int (fun _ _ => rfl)) (pe_ix ix_tup (pv 0) pe_int (fun _ _ => rfl)))) (pa_cons (pe_op op_mulW (pe_ix ix_tup (pv 0) pe_int (fun _ _ => rfl)) (pe_ix ix_tup (pv 1) pe_int (fun _ _ => rfl))) pa_nil))))), ?_⟩
    refine ⟨_, rfl, _, _, _, _, rfl, rfl, hp, at20, _, rfl, _, _, _, _, rfl, rfl, hp', at21, _, _, rfl, rfl, mulW4 sx.n (natI sy.d), ?_⟩
    refine ⟨_, rfl, _, _, _, _, rfl, rfl, hp', at20, _, rfl, _, _, _, _, rfl, rfl, hp, at21, _, _, rfl, rfl, mulW4 sy.n (natI sx.d), ?_⟩
    refine ⟨_, _, rfl, rfl, ?_⟩
    refine ⟨_, rfl, _, _, _, _, rfl, rfl, hp, at21, _, rfl, _, _, _, _, rfl, rfl, hp', at21, _, _, rfl, rfl, mulW4 (natI sx.d) (natI sy.d), ?_⟩
    dsimp only at q
    rw [rsub] at q
    exact ⟨_, _, rfl, Int.mul_pos (rden_pos x) (rden_pos y), sz4 (natI sx.d) (natI sy.d), q⟩
abbrev s__law_mul : Stmt := topS 26
abbrev N__law_mul : List Str := ["one", "two"]
theorem sc__law_mul : FnScope N__law_mul ["one", "two"] (defScope s__law_mul) := ⟨rfl, rfl, rfl, by decide +kernel, rfl, by decide +kernel, by decide +kernel⟩
theorem ok_law_mul (D__law_cut : Df P w K mg base "_law_cut" 1 ["top", "under"] spFrac) (F : At K mg "_law_mul" s__law_mul) : Df P w K mg base "_law_mul" 2 ["one", "two"] (spR2 K (· * ·) fun _ => True) := by
  have sc := sc__law_mul
  refine Df.mk' F sc (fun vs H Q E h => ?_) (fun _ _ _ _ _ _ us hl => match us, hl with | [_, _], _ => rfl) (fun f cdv A outer s H vs Q E hr h => ?_)
  · obtain ⟨v, w, x, y, rfl, _⟩ := h
    rfl
  · obtain ⟨v, w, x, y, rfl, hx, hy, sx, sy, _, q⟩ := h
    obtain ⟨p, rfl, hp⟩ := fqT hx
    obtain ⟨p', rfl, hp'⟩ := fqT hy
    refine ⟨_, (pss_one (ps_ret (pe_fn D__law_cut (by decide) hr (pa_cons (pe_op op_mulW (pe_ix ix_tup (pv 0) pe_int (fun _ _ => rfl)) (pe_ix ix_tup (pv 1) pe_int (fun _ _ => rfl))) (pa_cons (pe_op op_mulW (pe_ix ix_tup (pv 0) pe_int (fun _ _ => rfl)) (pe_ix ix_tup (pv 1) pe_int (fun _ _ => rfl))) pa_nil))))), ?_⟩
    refine ⟨_, rfl, _, _, _, _, rfl, rfl, hp, at20, _, rfl, _, _, _, _, rfl, rfl, hp', at20, _, _, rfl, rfl, mulW4 sx.n sy.n, ?_⟩
    refine ⟨_, rfl, _, _, _, _, rfl, rfl, hp, at21, _, rfl, _, _, _, _, rfl, rfl, hp', at21, _, _, rfl, rfl, mulW4 (natI sx.d) (natI sy.d), ?_⟩
    dsimp only at q
    rw [rmul] at q
    exact ⟨_, _, rfl, Int.mul_pos (rden_pos x) (rden_pos y), sz4 (natI sx.d) (natI sy.d), q⟩
abbrev s__law_less : Stmt := topS 27
abbrev N__law_less : List Str := ["one", "two"]
theorem sc__law_less : FnScope N__law_less ["one", "two"] (defScope s__law_less) := ⟨rfl, rfl, rfl, by decide +kernel, rfl, by decide +kernel, by decide +kernel⟩
theorem ok_law_less (F : At K mg "_law_less" s__law_less) : Df P w K mg base "_law_less" 1 ["one", "two"] (spR2b K fun x y => decide (x < y)) := by
  have sc := sc__law_less
  refine Df.mk' F sc (fun vs H Q E h => ?_) (fun _ _ _ _ _ _ us hl => match us, hl with | [_, _], _ => rfl) (fun f cdv A outer s H vs Q E hr h => ?_)
  · obtain ⟨v, w, x, y, rfl, _⟩ := h
    rfl
  · obtain ⟨v, w, x, y, rfl, hx, hy, sx, sy, q⟩ := h
    obtain ⟨p, rfl, hp⟩ := fqT hx
    obtain ⟨p', rfl, hp'⟩ := fqT hy
    refine ⟨_, (pss_one (ps_ret (pe_cmpR op_lt (pe_op op_mulW (pe_ix ix_tup (pv 0) pe_int (fun _ _ => rfl)) (pe_ix ix_tup (pv 1) pe_int (fun _ _ => rfl))) (pe_op op_mulW (pe_ix ix_tup (pv 1) pe_int (fun _ _ => rfl)) (pe_ix ix_tup (pv 0) pe_int (fun _ _ => rfl))) (nomark _)))), ?_⟩
    refine ⟨_, rfl, _, _, _, _, rfl, rfl, hp, at20, _, rfl, _, _, _, _, rfl, rfl, hp', at21, _, _, rfl, rfl, mulW4 sx.n (natI sy.d), ?_⟩
    refine ⟨_, rfl, _, _, _, _, rfl, rfl, hp', at20, _, rfl, _, _, _, _, rfl, rfl, hp, at21, _, _, rfl, rfl, mulW4 sy.n (natI sx.d), ?_⟩
    dsimp only at q
    rw [← rlt] at q
    exact ⟨_, _, rfl, rfl, q⟩
abbrev s__law_well : Stmt := topS 20
abbrev N__law_well : List Str := ["script", "turn", "start", "mixed", "cell", "own"]
theorem sc__law_well : FnScope N__law_well ["script", "turn", "start"] (defScope s__law_well) := ⟨rfl, rfl, rfl, by decide +kernel, rfl, by decide +kernel, by decide +kernel⟩
def spWell (K : PySem.W.Frag) : Sp := fun vs H Q _ => ∃ (a : Addr) (ns : List Int) (t : Nat) (st : Int), vs = [.ref a, .int t, .int st] ∧ SqL K H a (ns.map V.int) ∧ ∀ H' p, Same H H' → H p = none → Well H' p 0 → Q (.ref p) H'
theorem ok_well (T : Gs K mg) (F : At K mg "_law_well" s__law_well) : Df P w K mg base "_law_well" 1 ["script", "turn", "start"] (spWell K) := by
  have sc := sc__law_well
  refine Df.mk' F sc (fun vs H Q E h => ?_) (fun _ _ _ _ _ _ us hl => match us, hl with | [_, _, _], _ => rfl) (fun f cdv A outer s H vs Q E hr h => ?_)
  · obtain ⟨a, ns, t, st, rfl, _⟩ := h
    rfl
  · obtain ⟨a, ns, t, st, rfl, ha, q⟩ := h
    refine ⟨_, (pss_cons (ps_set (i := 3) sc.nd rfl (.inl rfl) (pe_op op_add (pv 2) (pe_op op_mul pe_int (pv 1)))) (pss_cons (ps_for PassesOwn.never rfl (pi_list (pe_slice sl_list (pv 0) po_none (po_some pe_int))) (pg_name (i := 4) sc.nd rfl (.inl rfl)) (pss_one (ps_set (i := 3) sc.nd rfl (.inl rfl) (pe_op op_mod (pe_callTy call_int1 (by rfl) T.int_ (by decide +kernel) (pa_cons (pe_op op_add (pe_op op_add (pe_op op_mul (pv 3) pe_int) (pe_op op_mul (pe_op op_mod (pe_callTy call_int1 (by rfl) T.int_ (by decide +kernel) (pa_cons (pv 4) pa_nil)) pe_int) pe_int)) pe_int) pa_nil)) pe_int)))) (pss_cons (ps_set (i := 5) sc.nd rfl (.inl rfl) (pe_ifExp (pt_cmpR op_lt (pv 1) (pe_callB call_len_seq (by rfl) T.len PySem.boot_len (pa_cons (pv 0) pa_nil)) (nomark _)) (pe_callTy call_int1 (by rfl) T.int_ (by decide +kernel) (pa_cons (pe_ix ix_list (pv 0) (pv 1) (fun _ _ => rfl)) pa_nil)) pe_int)) (pss_cons (ps_set (i := 3) sc.nd rfl (.inl rfl) (pe_op op_mod (pe_callTy call_int1 (by rfl) T.int_ (by decide +kernel) (pa_cons (pe_op op_add (pe_op op_add (pv 3) (pe_op op_mul (pe_op op_mod (pe_callTy call_int1 (by rfl) T.int_ (by decide +kernel) (pa_cons (pv 5) pa_nil)) pe_int) pe_int)) (pe_op op_mul pe_int (pv 1))) pa_nil)) pe_int)) (pss_one (ps_ret (pe_lst (pa_cons (pe_ifExp (PW.pt (pw_or (pt_cmpR op_lt (pv 5) pe_int (nomark _)) (pw_or1 (pt_cmpR op_gt (pv 5) (pe_op op_pow pe_int pe_int) (nomark _))))) (pe_callB call_abs (by rfl) T.abs (by decide +kernel) (pa_cons (pv 5) pa_nil)) pe_int) (pa_cons (pv 3) (pa_cons pe_int pa_nil)))))))))), ?_⟩
    refine ⟨_, rfl, _, rfl, _, _, rfl, rfl, Or.inl (by decide), _, _, rfl, rfl, ?_⟩
    refine ⟨_, rfl, _, rfl, a, _, rfl, ha, fun pc hpc => ?_⟩
    have s1 : Same H (upd H pc (.lst (cutV (ns.map V.int) none (some 9)))) := same_upd hpc
    refine ⟨pc, rfl, ⟨_, SqL.of upd_same⟩, for_list (K := K) (a := pc) (xs := cutV (ns.map V.int) none (some 9)) (fun i σ H' => ∃ (m : Int) (y : Option V), σ = [some (.ref a), some (.int t), some (.int st), some (.int m), y, none] ∧ H' = upd H pc (.lst (cutV (ns.map V.int) none (some 9)))) ⟨_, _, rfl, rfl⟩
      (fun i σ H' _ ⟨_, _, _, e⟩ => by rw [e]; exact SqL.of upd_same) ?_ ?_⟩
    · rintro i x σ H' hi ⟨m, y, rfl, rfl⟩
      obtain ⟨n, _, rfl⟩ := List.mem_map.mp (cutV_mem (List.mem_of_getElem? hi))
      refine ⟨_, rfl, _, _, rfl, rfl, Or.inr (by decide), ?_⟩
      refine ⟨_, rfl, .inl ⟨_, rfl, _, _, rfl, rfl, by show (0 : Int) < 1999999973; decide, _, _, rfl, rfl, Or.inr (by decide), ?_⟩⟩
      refine ⟨_, _, rfl, rfl, _, _, rfl, rfl, .inl ⟨_, rfl, _, _, rfl, rfl, by show (0 : Int) < 2147483423; decide, ?_⟩⟩
      exact ⟨_, _, rfl, rfl⟩
    · rintro σ H' ⟨m, y, rfl, rfl⟩
      have ha' : SqL K (upd H pc (.lst (cutV (ns.map V.int) none (some 9)))) a (ns.map V.int) := s1.seq ha
      generalize upd H pc (.lst (cutV (ns.map V.int) none (some 9))) = H1 at s1 ha'
      have fin : ∀ (p : Addr), H1 p = none → ∀ x z : Int, 0 ≤ x → 0 ≤ z → z < 2147483647 → Q (.ref p) (upd H1 p (.lst [.int x, .int z, .int 0])) := fun p hp x z h1 h2 h3 =>
        q _ p (s1.trans (same_upd hp)) (by cases e : H p with | none => rfl | some o => rw [s1 _ _ e] at hp; cases hp) ⟨x, z, 0, upd_same, h1, h2, h3, by decide, by decide⟩
      refine ⟨_, rfl, _, rfl, _, _, rfl, .inl ha', _, _, rfl, rfl, _, rfl, if2 (fun e => ?_) (fun e => ?_)⟩
      · have lt : t < (ns.map V.int).length := by
          have := of_decide_eq_true e
          omega
        have ln : t < ns.length := by rw [List.length_map] at lt; exact lt
        refine ⟨_, rfl, _, rfl, _, _, _, _, rfl, rfl, ha', at_of rfl (show (ns.map V.int)[t]? = some (.int ns[t]) by rw [List.getElem?_map, List.getElem?_eq_getElem ln]; rfl), .inl ⟨_, rfl, ?_⟩⟩
        refine ⟨_, rfl, _, rfl, .inl ⟨_, rfl, _, _, rfl, rfl, by show (0 : Int) < 1999999973; decide, _, _, rfl, rfl, Or.inr (by decide), _, _, rfl, rfl, ?_⟩⟩
        refine ⟨_, rfl, _, _, rfl, rfl, Or.inl (by decide), _, _, rfl, rfl, .inl ⟨_, rfl, _, _, rfl, rfl, by show (0 : Int) < 2147483423; decide, ?_⟩⟩
        have m0 : ∀ z : Int, 0 ≤ z % 2147483423 := fun z => Int.emod_nonneg _ (by decide)
        have ml : ∀ z : Int, z % 2147483423 < 2147483423 := fun z => Int.emod_lt_of_pos _ (by decide)
        refine ⟨_, rfl, _, _, rfl, rfl, _, rfl, if2 (fun e2 => ?_) (fun e2 => ?_)⟩
        · refine ⟨_, rfl, _, rfl, _, rfl, by show 3 ≤ sizeLine; decide, fun p hp => ?_⟩
          exact fin p hp _ _ (by split <;> omega) (m0 _) (Int.lt_trans (ml _) (by decide))
        · refine ⟨_, rfl, _, _, rfl, rfl, ⟨by decide, by decide, by decide⟩, _, _, rfl, rfl, _, rfl, if2 (fun e3 => ?_) (fun e3 => ?_)⟩
          · refine ⟨_, rfl, _, rfl, _, rfl, by show 3 ≤ sizeLine; decide, fun p hp => ?_⟩
            exact fin p hp _ _ (by split <;> omega) (m0 _) (Int.lt_trans (ml _) (by decide))
          · refine ⟨_, rfl, by show 3 ≤ sizeLine; decide, fun p hp => ?_⟩
            exact fin p hp _ _ (by decide) (m0 _) (Int.lt_trans (ml _) (by decide))
      · refine ⟨_, rfl, _, rfl, .inl ⟨_, rfl, _, _, rfl, rfl, by show (0 : Int) < 1999999973; decide, _, _, rfl, rfl, Or.inr (by decide), _, _, rfl, rfl, ?_⟩⟩
        refine ⟨_, rfl, _, _, rfl, rfl, Or.inl (by decide), _, _, rfl, rfl, .inl ⟨_, rfl, _, _, rfl, rfl, by show (0 : Int) < 2147483423; decide, ?_⟩⟩
        have m0 : ∀ z : Int, 0 ≤ z % 2147483423 := fun z => Int.emod_nonneg _ (by decide)
        have ml : ∀ z : Int, z % 2147483423 < 2147483423 := fun z => Int.emod_lt_of_pos _ (by decide)
        refine ⟨_, rfl, _, _, rfl, rfl, _, rfl, if2 (fun e2 => ?_) (fun e2 => ?_)⟩
        · refine ⟨_, rfl, _, rfl, _, rfl, by show 3 ≤ sizeLine; decide, fun p hp => ?_⟩
          exact fin p hp _ _ (by split <;> omega) (m0 _) (Int.lt_trans (ml _) (by decide))
        · refine ⟨_, rfl, _, _, rfl, rfl, ⟨by decide, by decide, by decide⟩, _, _, rfl, rfl, _, rfl, if2 (fun e3 => ?_) (fun e3 => ?_)⟩
          · refine ⟨_, rfl, _, rfl, _, rfl, by show 3 ≤ sizeLine; decide, fun p hp => ?_⟩
            exact fin p hp _ _ (by split <;> omega) (m0 _) (Int.lt_trans (ml _) (by decide))
          · refine ⟨_, rfl, by show 3 ≤ sizeLine; decide, fun p hp => ?_⟩
            exact fin p hp _ _ (by decide) (m0 _) (Int.lt_trans (ml _) (by decide))
end
end V3
namespace V3
open PySem.Spec PySem L2 PyProof.Rows RZ GxR
section
variable {mg : Str → Option Value} {base : Heap} {K : PySem.W.Frag} {P : Program} {w : World}
abbrev s__law_down : Stmt := topS 28
abbrev N__law_down : List Str := ["some", "found", "each", "x"]
theorem sc__law_down : FnScope N__law_down ["some"] (defScope s__law_down) := ⟨rfl, rfl, rfl, by decide +kernel, rfl, by decide +kernel, by decide +kernel⟩
def spDown (K : PySem.W.Frag) : Sp := fun vs H Q _ => ∃ (a : Addr) (xs : List V) (qs : List Rat), vs = [.ref a] ∧ (SqL K H a xs ∨ SqT K H a xs) ∧ DpTAll K H xs (qs.map frd) ∧ (∀ q ∈ qs, Bq 100 q) ∧ qs.length ≤ 100 ∧
  ∀ H' p ys, Same H H' → H' p = some (.tup ys) → DpTAll K H' ys ((downQ qs).map frd) → Q (.ref p) H'
def DownInv (K : PySem.W.Frag) (H : Hp) (a pf : Addr) (qs : List Rat) (i : Nat) (σ : L2.St) (H' : Hp) : Prop :=
  ∃ (y z : Option V) (zs : List V), σ = [some (.ref a), some (.ref pf), y, z] ∧ Same H H' ∧ H' pf = some (.lst zs) ∧ DpTAll K H' zs ((downQ (qs.take i)).map frd)
theorem ok_down (T : Gs K mg) (D__law_less : Df P w K mg base "_law_less" 1 ["one", "two"] (spR2b K fun x y => decide (x < y))) (F : At K mg "_law_down" s__law_down) : Df P w K mg base "_law_down" 2 ["some"] (spDown K) := by
  have sc := sc__law_down
  refine Df.mk' F sc (fun vs H Q E h => ?_) (fun _ _ _ _ _ _ us hl => match us, hl with | [_], _ => rfl) (fun f cdv A outer s H vs Q E hr h => ?_)
  · obtain ⟨a, q, u, rfl, _⟩ := h
    rfl
  · obtain ⟨a, xs, qs, rfl, hsq, hA, sf, l100, q⟩ := h
    have hl : xs.length = qs.length := by rw [dtAll_len hA, List.length_map]
    rcases hsq with hsq | hsq
    · refine ⟨_, (pss_cons (ps_set (i := 1) sc.nd rfl (.inl rfl) (pe_lst pa_nil)) (pss_cons (ps_for PassesOwn.never rfl (pi_list (pv 0)) (pg_name (i := 2) sc.nd rfl (.inr rfl)) (pss_one (ps_expr (pe_bm PySem.F.plainAttrs_list PySem.F.slot_list_insert PySem.F.type_list_insert mt_insert (pv 1) (pa_cons (pe_callB call_len_seq (by rfl) T.len PySem.boot_len (pa_cons (pe_lc (own := [("x", 3)]) (g := gName 3) rfl sc.nd (pi_list (pv 1)) (blkOk_by (own := [("x", 3)]) (N := N__law_down) (sc := defScope s__law_down) (by decide +kernel)) (fun _ _ _ _ _ => (pg_name (i := 3) sc.nd rfl (.inl rfl))) (fun _ _ _ _ _ => (pts_one (pt_not (pt_val (pe_fn D__law_less (by decide) hr (pa_cons (pv 3) (pa_cons (pv 2) pa_nil))))))) (fun _ _ _ _ _ => (pv 3))) pa_nil)) (pa_cons (pv 2) pa_nil)))))) (pss_one (ps_ret (pe_callTy call_tuple_of (by rfl) T.tuple_ (by decide +kernel) (pa_cons (pv 1) pa_nil)))))), ?_⟩
      refine ⟨by show 0 ≤ sizeLine; decide, fun pf hpf => ?_⟩
      refine ⟨_, rfl, a, rfl, ⟨_, (same_upd hpf).seq hsq⟩, for_list (K := K) (a := a) (xs := xs) (DownInv K H a pf qs) ⟨_, _, [], rfl, same_upd hpf, upd_same, .nil⟩ (fun i σ H' _ ⟨_, _, _, _, sm, _⟩ => sm.seq hsq) ?_ ?_⟩
      · rintro i x σ H' hi ⟨y, z, zs, rfl, sm, hz, hzs⟩
        obtain ⟨d, hd', hdp⟩ := dtAll_getV hA hi
        rw [List.getElem?_map] at hd'
        obtain ⟨e, he, rfl⟩ := Option.map_eq_some_iff.mp hd'
        have hil : i < qs.length := (List.getElem?_eq_some_iff.mp he).1
        have dl := downQ_len (qs.take i)
        have dsf : ∀ x ∈ downQ (qs.take i), Bq 4000 x := fun x hx => (sf x (List.mem_of_mem_take (downQ_mem.mp hx))).mono (by decide)
        have lz : zs.length ≤ 100 := by
          rw [dtAll_len hzs, List.length_map, dl, List.length_take]
          omega
        refine ⟨_, rfl, .inl ⟨rfl, _, SqL.of hz⟩, ?_⟩
        refine ⟨_, rfl, pf, rfl, ⟨_, SqL.of hz⟩, fun D hD => lc_list (K := K) (a := pf) (xs := zs) (fun j H2 => Same H' H2 ∧ ∃ acc, H2 D = some (.lst acc) ∧ acc.length = (((downQ (qs.take i)).take j).filter (geQ e)).length) ⟨same_upd hD, [], upd_same, rfl⟩ (fun j H2 _ h => h.1.seq (SqL.of hz)) ?_ ?_⟩
        · rintro j x2 H2 hj ⟨s2, acc, hacc, lacc⟩
          obtain ⟨d2, hd2, hdp2⟩ := dtAll_getV hzs hj
          rw [List.getElem?_map] at hd2
          obtain ⟨x3, hx3, rfl⟩ := Option.map_eq_some_iff.mp hd2
          have hm : x3 ∈ downQ (qs.take i) := List.mem_of_getElem? hx3
          have hjl : j < (downQ (qs.take i)).length := (List.getElem?_eq_some_iff.mp hx3).1
          rw [take_more hx3, List.filter_append, List.length_append]
          refine ⟨rfl, ?_⟩
          refine ⟨_, rfl, _, rfl, _, _, x3, e, rfl, DpT.keep (Same.kt s2) hdp2, DpT.keep (Same.kt (sm.trans s2)) hdp, dsf _ hm, (sf _ (List.mem_of_getElem? he)).mono (by decide), _, rfl, ?_⟩
          have g : geQ e x3 = !decide (x3 < e) := rfl
          have one : ([x3].filter (geQ e)).length = if geQ e x3 = true then 1 else 0 := by
            cases c : geQ e x3 with
            | true => rw [List.filter_cons_of_pos c]; rfl
            | false => rw [List.filter_cons_of_neg (by rw [c]; simp)]; rfl
          have lf : (((downQ (qs.take i)).take j).filter (geQ e)).length ≤ 100 := by
            have h1 := List.length_filter_le (geQ e) ((downQ (qs.take i)).take j)
            rw [List.length_take] at h1
            rw [dl, List.length_take] at hjl
            omega
          rw [one, g]
          refine if2 (fun c => ?_) (fun c => ?_)
          · rw [c]
            refine ⟨_, rfl, acc, hacc, small1000 (by omega), same_updN s2 hD, ?_⟩
            · exact ⟨_, upd_same, by rw [List.length_append, lacc]; rfl⟩
          · rw [c]
            exact ⟨s2, acc, hacc, lacc⟩
        · rintro H2 ⟨s2, acc, hacc, lacc⟩
          have ez : (downQ (qs.take i)).length = zs.length := by rw [dtAll_len hzs, List.length_map]
          rw [← ez, List.take_length] at lacc
          have lf : ((downQ (qs.take i)).filter (geQ e)).length ≤ 100 := by
            have h1 := List.length_filter_le (geQ e) (downQ (qs.take i))
            omega
          refine ⟨D, _, rfl, .inl (SqL.of hacc), _, rfl, pf, zs, _, _, rfl, rfl, s2 _ _ hz, small1000 (by omega), by omega, by omega, ?_⟩
          rw [Int.toNat_natCast, lacc]
          have hz2 := s2 _ _ hz
          refine ⟨_, _, _, rfl, same_updN (sm.trans s2) hpf, upd_same, ?_⟩
          rw [downQ_more he]
          unfold insAtQ
          rw [List.map_append, List.map_append, List.map_take, List.map_drop]
          have hk := (hzs.keep (Same.kt s2)).keep (kt_lst (o := .lst (zs.take ((downQ (qs.take i)).filter (geQ e)).length ++ [x] ++ zs.drop ((downQ (qs.take i)).filter (geQ e)).length)) hz2)
          exact dtAll_app (dtAll_app (dtAll_takeN _ hk) (.cons (DpT.keep ((Same.kt (sm.trans s2)).trans (kt_lst hz2)) hdp) .nil)) (dtAll_dropN _ hk)
      · rintro σ H' ⟨y, z, zs, rfl, sm, hz, hzs⟩
        refine ⟨_, rfl, pf, zs, rfl, .inl ⟨SqL.of hz, fun l hl' => ?_⟩⟩
        rw [hl, List.take_length] at hzs
        exact q _ l zs (sm.trans (same_upd hl')) upd_same (hzs.keep (Same.kt (same_upd hl')))
    · refine ⟨_, (pss_cons (ps_set (i := 1) sc.nd rfl (.inl rfl) (pe_lst pa_nil)) (pss_cons (ps_for PassesOwn.never rfl (pi_tup (pv 0)) (pg_name (i := 2) sc.nd rfl (.inr rfl)) (pss_one (ps_expr (pe_bm PySem.F.plainAttrs_list PySem.F.slot_list_insert PySem.F.type_list_insert mt_insert (pv 1) (pa_cons (pe_callB call_len_seq (by rfl) T.len PySem.boot_len (pa_cons (pe_lc (own := [("x", 3)]) (g := gName 3) rfl sc.nd (pi_list (pv 1)) (blkOk_by (own := [("x", 3)]) (N := N__law_down) (sc := defScope s__law_down) (by decide +kernel)) (fun _ _ _ _ _ => (pg_name (i := 3) sc.nd rfl (.inl rfl))) (fun _ _ _ _ _ => (pts_one (pt_not (pt_val (pe_fn D__law_less (by decide) hr (pa_cons (pv 3) (pa_cons (pv 2) pa_nil))))))) (fun _ _ _ _ _ => (pv 3))) pa_nil)) (pa_cons (pv 2) pa_nil)))))) (pss_one (ps_ret (pe_callTy call_tuple_of (by rfl) T.tuple_ (by decide +kernel) (pa_cons (pv 1) pa_nil)))))), ?_⟩
      refine ⟨by show 0 ≤ sizeLine; decide, fun pf hpf => ?_⟩
      refine ⟨_, rfl, a, rfl, ⟨_, sameT (same_upd hpf) hsq⟩, for_tup (K := K) (a := a) (xs := xs) (DownInv K H a pf qs) ⟨_, _, [], rfl, same_upd hpf, upd_same, .nil⟩ (fun i σ H' _ ⟨_, _, _, _, sm, _⟩ => sameT sm hsq) ?_ ?_⟩
      · rintro i x σ H' hi ⟨y, z, zs, rfl, sm, hz, hzs⟩
        obtain ⟨d, hd', hdp⟩ := dtAll_getV hA hi
        rw [List.getElem?_map] at hd'
        obtain ⟨e, he, rfl⟩ := Option.map_eq_some_iff.mp hd'
        have hil : i < qs.length := (List.getElem?_eq_some_iff.mp he).1
        have dl := downQ_len (qs.take i)
        have dsf : ∀ x ∈ downQ (qs.take i), Bq 4000 x := fun x hx => (sf x (List.mem_of_mem_take (downQ_mem.mp hx))).mono (by decide)
        have lz : zs.length ≤ 100 := by
          rw [dtAll_len hzs, List.length_map, dl, List.length_take]
          omega
        refine ⟨_, rfl, .inl ⟨rfl, _, SqL.of hz⟩, ?_⟩
        refine ⟨_, rfl, pf, rfl, ⟨_, SqL.of hz⟩, fun D hD => lc_list (K := K) (a := pf) (xs := zs) (fun j H2 => Same H' H2 ∧ ∃ acc, H2 D = some (.lst acc) ∧ acc.length = (((downQ (qs.take i)).take j).filter (geQ e)).length) ⟨same_upd hD, [], upd_same, rfl⟩ (fun j H2 _ h => h.1.seq (SqL.of hz)) ?_ ?_⟩
        · rintro j x2 H2 hj ⟨s2, acc, hacc, lacc⟩
          obtain ⟨d2, hd2, hdp2⟩ := dtAll_getV hzs hj
          rw [List.getElem?_map] at hd2
          obtain ⟨x3, hx3, rfl⟩ := Option.map_eq_some_iff.mp hd2
          have hm : x3 ∈ downQ (qs.take i) := List.mem_of_getElem? hx3
          have hjl : j < (downQ (qs.take i)).length := (List.getElem?_eq_some_iff.mp hx3).1
          rw [take_more hx3, List.filter_append, List.length_append]
          refine ⟨rfl, ?_⟩
          refine ⟨_, rfl, _, rfl, _, _, x3, e, rfl, DpT.keep (Same.kt s2) hdp2, DpT.keep (Same.kt (sm.trans s2)) hdp, dsf _ hm, (sf _ (List.mem_of_getElem? he)).mono (by decide), _, rfl, ?_⟩
          have g : geQ e x3 = !decide (x3 < e) := rfl
          have one : ([x3].filter (geQ e)).length = if geQ e x3 = true then 1 else 0 := by
            cases c : geQ e x3 with
            | true => rw [List.filter_cons_of_pos c]; rfl
            | false => rw [List.filter_cons_of_neg (by rw [c]; simp)]; rfl
          have lf : (((downQ (qs.take i)).take j).filter (geQ e)).length ≤ 100 := by
            have h1 := List.length_filter_le (geQ e) ((downQ (qs.take i)).take j)
            rw [List.length_take] at h1
            rw [dl, List.length_take] at hjl
            omega
          rw [one, g]
          refine if2 (fun c => ?_) (fun c => ?_)
          · rw [c]
            refine ⟨_, rfl, acc, hacc, small1000 (by omega), same_updN s2 hD, ?_⟩
            · exact ⟨_, upd_same, by rw [List.length_append, lacc]; rfl⟩
          · rw [c]
            exact ⟨s2, acc, hacc, lacc⟩
        · rintro H2 ⟨s2, acc, hacc, lacc⟩
          have ez : (downQ (qs.take i)).length = zs.length := by rw [dtAll_len hzs, List.length_map]
          rw [← ez, List.take_length] at lacc
          have lf : ((downQ (qs.take i)).filter (geQ e)).length ≤ 100 := by
            have h1 := List.length_filter_le (geQ e) (downQ (qs.take i))
            omega
          refine ⟨D, _, rfl, .inl (SqL.of hacc), _, rfl, pf, zs, _, _, rfl, rfl, s2 _ _ hz, small1000 (by omega), by omega, by omega, ?_⟩
          rw [Int.toNat_natCast, lacc]
          have hz2 := s2 _ _ hz
          refine ⟨_, _, _, rfl, same_updN (sm.trans s2) hpf, upd_same, ?_⟩
          rw [downQ_more he]
          unfold insAtQ
          rw [List.map_append, List.map_append, List.map_take, List.map_drop]
          have hk := (hzs.keep (Same.kt s2)).keep (kt_lst (o := .lst (zs.take ((downQ (qs.take i)).filter (geQ e)).length ++ [x] ++ zs.drop ((downQ (qs.take i)).filter (geQ e)).length)) hz2)
          exact dtAll_app (dtAll_app (dtAll_takeN _ hk) (.cons (DpT.keep ((Same.kt (sm.trans s2)).trans (kt_lst hz2)) hdp) .nil)) (dtAll_dropN _ hk)
      · rintro σ H' ⟨y, z, zs, rfl, sm, hz, hzs⟩
        refine ⟨_, rfl, pf, zs, rfl, .inl ⟨SqL.of hz, fun l hl' => ?_⟩⟩
        rw [hl, List.take_length] at hzs
        exact q _ l zs (sm.trans (same_upd hl')) upd_same (hzs.keep (Same.kt (same_upd hl')))
abbrev s__law_number : Stmt := topS 29
abbrev N__law_number : List Str := ["well", "way"]
theorem sc__law_number : FnScope N__law_number ["well"] (defScope s__law_number) := ⟨rfl, rfl, rfl, by decide +kernel, rfl, by decide +kernel, by decide +kernel⟩
def spNumber (K : PySem.W.Frag) : Sp := fun vs H Q _ => ∃ (a : Addr) (k : Nat), vs = [.ref a] ∧ Well H a k ∧ k ≤ 900000 ∧ ∀ H' v q, But a H H' → Well H' a (k + 3) → DpT K H' v (frd q) → Bq 22 q → Q v H'
theorem sz_small {u : Int} (h1 : 1 ≤ u) (h2 : u ≤ 2000) : u.natAbs < 2 ^ 9000 := Nat.lt_of_lt_of_le (show u.natAbs < 2 ^ 22 by omega) (pw (by decide))
theorem num_of {n u : Int} (h1 : 1 ≤ u) (h2 : u ≤ 90) (h3 : n ≤ 2 ^ 20) (h4 : -(2 ^ 20) ≤ n) : Bq 22 (Rat.divInt n u) := bq_div (by omega) (by omega) (by omega)
theorem whole_div (n : Int) : (Rat.divInt n 1).num = n ∧ ((Rat.divInt n 1).den : Int) = 1 := by
  rw [dnum (by decide), dden (by decide)]
  simp
theorem ok_number (T : Gs K mg) (D__law_draw : Df P w K mg base "_law_draw" 1 ["well", "limit"] spDraw) (D__law_cut : Df P w K mg base "_law_cut" 1 ["top", "under"] spFrac) (F : At K mg "_law_number" s__law_number) : Df P w K mg base "_law_number" 2 ["well"] (spNumber K) := by
  have sc := sc__law_number
  refine Df.mk' F sc (fun vs H Q E h => ?_) (fun _ _ _ _ _ _ us hl => match us, hl with | [_], _ => rfl) (fun f cdv A outer s H vs Q E hr h => ?_)
  · obtain ⟨a, k, rfl, _⟩ := h
    rfl
  · obtain ⟨a, k, rfl, hw, kl, q⟩ := h
    refine ⟨_, (pss_cons (ps_set (i := 1) sc.nd rfl (.inl rfl) (pe_fn D__law_draw (by decide) hr (pa_cons (pv 0) (pa_cons pe_int pa_nil)))) (pss_cons (ps_if (pt_cmpR op_eq (pv 1) pe_int (nomark _)) (pss_one (ps_ret (pe_fn D__law_cut (by decide) hr (pa_cons (pe_op op_sub (pe_fn D__law_draw (by decide) hr (pa_cons (pv 0) (pa_cons pe_int pa_nil))) pe_int) (pa_cons (pe_op op_add pe_int (pe_fn D__law_draw (by decide) hr (pa_cons (pv 0) (pa_cons pe_int pa_nil)))) pa_nil))))) pss_nil) (pss_cons (ps_if (pt_cmpR op_lt (pv 1) pe_int (nomark _)) (pss_one (ps_ret (pe_tup (pa_cons (pe_op op_sub (pe_fn D__law_draw (by decide) hr (pa_cons (pv 0) (pa_cons pe_int pa_nil))) pe_int) (pa_cons pe_int pa_nil))))) pss_nil) (pss_one (ps_ret (pe_fn D__law_cut (by decide) hr (pa_cons (pe_op op_sub (pe_fn D__law_draw (by decide) hr (pa_cons (pv 0) (pa_cons pe_int pa_nil))) pe_int) (pa_cons (pe_op op_add pe_int (pe_fn D__law_draw (by decide) hr (pa_cons (pv 0) (pa_cons pe_int pa_nil)))) pa_nil)))))))), ?_⟩
    refine ⟨_, rfl, a, _, k, rfl, hw, by omega, by decide, by decide, fun H1 d1 b1 w1 d10 d1l => ?_⟩
    refine ⟨_, rfl, rfl, _, rfl, if2 (fun e => ?_) (fun e => ?_)⟩
    · refine ⟨_, rfl, a, _, k + 1, rfl, w1, by omega, by decide, by decide, fun H2 d2 b2 w2 d20 d2l => ?_⟩
      refine ⟨_, _, rfl, rfl, ?_⟩
      refine ⟨_, rfl, a, _, k + 2, rfl, w2, by omega, by decide, by decide, fun H3 d3 b3 w3 d30 d3l => ?_⟩
      refine ⟨_, _, rfl, rfl, _, _, rfl, by omega, sz_small (by omega) (by omega), fun H4 p s4 hp => ?_⟩
      exact q H4 _ _ (((b1.trans b2).trans b3).trans (Same.but s4)) (w3.same s4) (fqO hp) (num_of (by omega) (by omega) (by omega) (by omega))
    · refine ⟨_, rfl, _, _, rfl, rfl, _, rfl, if2 (fun e2 => ?_) (fun e2 => ?_)⟩
      · refine ⟨_, rfl, a, _, k + 1, rfl, w1, by omega, by decide, by decide, fun H2 d2 b2 w2 d20 d2l => ?_⟩
        refine ⟨_, _, rfl, rfl, by show 2 ≤ sizeLine; decide, fun p hp => ?_⟩
        exact q _ (.ref p) (Rat.divInt (d2 - 3) 1) ((b1.trans b2).trans (Same.but (same_upd hp))) ((w2.same (same_upd hp)).mono (by omega)) (fqI upd_same (whole_div _).1 (whole_div _).2) (num_of (by decide) (by decide) (by omega) (by omega))
      · refine ⟨_, rfl, a, _, k + 1, rfl, w1, by omega, by decide, by decide, fun H2 d2 b2 w2 d20 d2l => ?_⟩
        refine ⟨_, _, rfl, rfl, ?_⟩
        refine ⟨_, rfl, a, _, k + 2, rfl, w2, by omega, by decide, by decide, fun H3 d3 b3 w3 d30 d3l => ?_⟩
        refine ⟨_, _, rfl, rfl, _, _, rfl, by omega, sz_small (by omega) (by omega), fun H4 p s4 hp => ?_⟩
        exact q H4 _ _ (((b1.trans b2).trans b3).trans (Same.but s4)) (w3.same s4) (fqO hp) (num_of (by omega) (by omega) (by omega) (by omega))
end
end V3
namespace V3
open PySem.Spec PySem L2 PyProof.Rows RZ GxR
theorem dtAll_lastQ {K : PySem.W.Frag} {H : Hp} {zs : List V} {ds : List PyData} (h : DpTAll K H zs ds) (ne : ds ≠ []) : ∃ v d, atI zs (-1) = some v ∧ DpT K H v d ∧ d ∈ ds := by
  have hl := dtAll_len h
  have n0 : 0 < ds.length := List.length_pos_iff.mpr ne
  have hz : zs ≠ [] := fun e => by
    rw [e] at hl
    simp at hl
    omega
  obtain ⟨v, hv⟩ : ∃ v, v = zs.getLast hz := ⟨_, rfl⟩
  have e : zs.dropLast ++ [v] = zs := by rw [hv]; exact List.dropLast_concat_getLast hz
  have g : zs[zs.length - 1]? = some v := by
    rw [hv, List.getLast_eq_getElem, List.getElem?_eq_getElem]
  obtain ⟨d, hd, hdp⟩ := dtAll_getV h g
  refine ⟨v, d, ?_, hdp, List.mem_of_getElem? hd⟩
  rw [← e]
  exact atI_last _ _
section
variable {mg : Str → Option Value} {base : Heap} {K : PySem.W.Frag} {P : Program} {w : World}
abbrev s__law_tops : Stmt := topS 30
abbrev N__law_tops : List Str := ["well", "wide", "found", "turn", "each"]
theorem sc__law_tops : FnScope N__law_tops ["well", "wide"] (defScope s__law_tops) := ⟨rfl, rfl, rfl, by decide +kernel, rfl, by decide +kernel, by decide +kernel⟩
def spTops (K : PySem.W.Frag) : Sp := fun vs H Q _ => ∃ (a : Addr) (n k : Nat), vs = [.ref a, .int n] ∧ Well H a k ∧ k ≤ 800000 ∧ n ≤ 6 ∧
  ∀ H' v qs, But a H H' → Well H' a (k + 24) → DpT K H' v (rowQ qs) → Rw n qs → (∀ x ∈ qs, Bq 22 x) → Q v H'
theorem ok_tops (T : Gs K mg) (D__law_draw : Df P w K mg base "_law_draw" 1 ["well", "limit"] spDraw) (D__law_number : Df P w K mg base "_law_number" 2 ["well"] (spNumber K)) (D__law_down : Df P w K mg base "_law_down" 2 ["some"] (spDown K)) (F : At K mg "_law_tops" s__law_tops) :
    Df P w K mg base "_law_tops" 3 ["well", "wide"] (spTops K) := by
  have sc := sc__law_tops
  refine Df.mk' F sc (fun vs H Q E h => ?_) (fun _ _ _ _ _ _ us hl => match us, hl with | [_, _], _ => rfl) (fun f cdv A outer s H vs Q E hr h => ?_)
  · obtain ⟨a, n, k, rfl, _⟩ := h
    rfl
  · obtain ⟨a, n, k, rfl, hw, kl, n6, q⟩ := h
    refine ⟨_, (pss_cons (ps_set (i := 2) sc.nd rfl (.inl rfl) (pe_lst pa_nil)) (pss_cons (ps_for PassesOwn.never rfl (pi_range1 rfl T.range (pa_cons (pv 1) pa_nil)) (pg_name (i := 3) sc.nd rfl (.inl rfl)) (pss_cons (ps_set (i := 4) sc.nd rfl (.inl rfl) (pe_fn D__law_number (by decide) hr (pa_cons (pv 0) pa_nil))) (pss_cons (ps_if (PW.pt (pw_and (pt_cmpR (op_neD hr.units) (pv 2) (pe_lst pa_nil) (nomark _)) (pw_and1 (pt_cmpR op_eq (pe_fn D__law_draw (by decide) hr (pa_cons (pv 0) (pa_cons pe_int pa_nil))) pe_int (nomark _))))) (pss_one (ps_set (i := 4) sc.nd rfl (.inl rfl) (pe_ix ix_list (pv 2) (pe_un un_neg pe_int) (fun _ _ => rfl)))) pss_nil) (pss_one (ps_expr (pe_bm PySem.F.plainAttrs_list PySem.F.slot_list_append PySem.F.type_list_append mt_append (pv 2) (pa_cons (pv 4) pa_nil))))))) (pss_one (ps_ret (pe_fn D__law_down (by decide) hr (pa_cons (pv 2) pa_nil)))))), ?_⟩
    refine ⟨by show 0 ≤ sizeLine; decide, fun pf hpf0 => ?_⟩
    have hne : a ≠ pf := fun e => by
      obtain ⟨xs, hx⟩ := hw.lst
      rw [e, hpf0] at hx
      cases hx
    have s0 : Same H (upd H pf (.lst [])) := same_upd hpf0
    refine ⟨_, rfl, _, rfl, by omega, by omega, for_range (lo := 0) (n := (n : Int).toNat) (fun i σ H' => ∃ (y3 y4 : Option V) (zs : List V) (qs : List Rat), σ = [some (.ref a), some (.int n), some (.ref pf), y3, y4] ∧ But a H H' ∧ Well H' a (k + 4 * i) ∧ H' pf = some (.lst zs) ∧
      DpTAll K H' zs (qs.map frd) ∧ qs.length = i ∧ ∀ x ∈ qs, Bq 22 x) ⟨_, _, [], [], rfl, Same.but s0, hw.same s0, upd_same, .nil, rfl, fun x hx => by cases hx⟩ ?_ ?_⟩
    · rintro i σ H1 hi ⟨y3, y4, zs, qs, rfl, b1, w1, hz, hzs, hql, hqs⟩
      have hi6 : i < 6 := by omega
      have lz : zs.length = i := by rw [dtAll_len hzs, List.length_map, hql]
      refine ⟨_, rfl, a, k + 4 * i, rfl, w1, by omega, fun H2 v e b2 w2 dv ne => ?_⟩
      have hz2 : H2 pf = some (.lst zs) := b2 _ _ (Ne.symm hne) hz
      have hzs2 := hzs.keep (b2.ktW w1)
      refine ⟨_, rfl, by show 0 ≤ sizeLine; decide, fun pe hpe => ?_⟩
      have s3 : Same H2 (upd H2 pe (.lst [])) := same_upd hpe
      refine ⟨.list (qs.map frd), .list [], .lst (SqL.of (s3 _ _ hz2)) (hzs2.keep (Same.kt s3)).dp, .lst (SqL.of upd_same) .nil, shaped_frds _, rfl, _, rfl, ?_⟩
      generalize hH3 : upd H2 pe (.lst []) = H3 at s3
      have hz3 := s3 _ _ hz2
      have w3 := w2.same s3
      have hzs3 := hzs2.keep (Same.kt s3)
      have dv3 := DpT.keep (Same.kt s3) dv
      have b3 := (b1.trans b2).trans (Same.but s3)
      rw [eqv_nil]
      refine if2 (fun c => ?_) (fun c => ?_)
      · have qne : qs.map frd ≠ [] := by
          simp at c
          simpa using c
        refine ⟨_, rfl, a, _, k + 4 * i + 3, rfl, w3, by omega, by decide, by decide, fun H4 d b4 w4 d0 dl => ?_⟩
        have hz4 : H4 pf = some (.lst zs) := b4 _ _ (Ne.symm hne) hz3
        have hzs4 := hzs3.keep (b4.ktW w3)
        have dv4 := DpT.keep (b4.ktW w3) dv3
        have b5 := b3.trans b4
        refine ⟨rfl, _, rfl, if2 (fun c2 => ?_) (fun c2 => ?_)⟩
        · obtain ⟨vl, dd, hvl, dvl, hdd⟩ := dtAll_lastQ hzs4 qne
          obtain ⟨ql, hql2, rfl⟩ := List.mem_map.mp hdd
          refine ⟨_, rfl, _, rfl, pf, zs, _, vl, rfl, rfl, SqL.of hz4, hvl, ?_⟩
          refine ⟨_, rfl, .inl ⟨rfl, _, SqL.of hz4⟩, _, rfl, pf, zs, _, rfl, rfl, hz4, small1000 (by omega), ?_⟩
          refine ⟨_, _, zs ++ [_], qs ++ [ql], rfl, But.updN (b5) hpf0, ?_, upd_same, ?_, by rw [List.length_append, hql]; rfl, fun z hz' => ?_⟩
          · obtain ⟨x1, x2, x3, x4, x5⟩ := (w4).mono (show k + 4 * i + 3 + 1 ≤ k + 4 * (i + 1) by omega)
            exact ⟨x1, x2, x3, by rw [upd_ne hne]; exact x4, x5⟩
          · rw [List.map_append]
            exact dtAll_app ((hzs4).keep (kt_lst hz4)) (.cons (DpT.keep (kt_lst hz4) (dvl)) .nil)
          · rcases List.mem_append.mp hz' with h | h
            · exact hqs z h
            · rw [List.mem_singleton.mp h]
              exact hqs _ hql2
        · refine ⟨_, rfl, .inl ⟨rfl, _, SqL.of hz4⟩, _, rfl, pf, zs, _, rfl, rfl, hz4, small1000 (by omega), ?_⟩
          refine ⟨_, _, zs ++ [_], qs ++ [e], rfl, But.updN (b5) hpf0, ?_, upd_same, ?_, by rw [List.length_append, hql]; rfl, fun z hz' => ?_⟩
          · obtain ⟨x1, x2, x3, x4, x5⟩ := (w4).mono (show k + 4 * i + 3 + 1 ≤ k + 4 * (i + 1) by omega)
            exact ⟨x1, x2, x3, by rw [upd_ne hne]; exact x4, x5⟩
          · rw [List.map_append]
            exact dtAll_app ((hzs4).keep (kt_lst hz4)) (.cons (DpT.keep (kt_lst hz4) (dv4)) .nil)
          · rcases List.mem_append.mp hz' with h | h
            · exact hqs z h
            · rw [List.mem_singleton.mp h]
              exact ne
      · refine ⟨_, rfl, .inl ⟨rfl, _, SqL.of hz3⟩, _, rfl, pf, zs, _, rfl, rfl, hz3, small1000 (by omega), ?_⟩
        refine ⟨_, _, zs ++ [_], qs ++ [e], rfl, But.updN (b3) hpf0, ?_, upd_same, ?_, by rw [List.length_append, hql]; rfl, fun z hz' => ?_⟩
        · obtain ⟨x1, x2, x3, x4, x5⟩ := (w3).mono (show k + 4 * i + 3 ≤ k + 4 * (i + 1) by omega)
          exact ⟨x1, x2, x3, by rw [upd_ne hne]; exact x4, x5⟩
        · rw [List.map_append]
          exact dtAll_app ((hzs3).keep (kt_lst hz3)) (.cons (DpT.keep (kt_lst hz3) (dv3)) .nil)
        · rcases List.mem_append.mp hz' with h | h
          · exact hqs z h
          · rw [List.mem_singleton.mp h]
            exact ne
    · rintro σ H1 ⟨y3, y4, zs, qs, rfl, b1, w1, hz, hzs, hql, hqs⟩
      refine ⟨_, rfl, pf, zs, qs, rfl, .inl (SqL.of hz), hzs, fun x hx => (hqs x hx).mono (by decide), by omega, fun H2 p ys s2 hp hys => ?_⟩
      refine q H2 _ (downQ qs) (b1.trans (Same.but s2)) ((w1.same s2).mono (by omega)) (.tup (SqT.of hp) hys) ⟨by rw [downQ_len]; omega, downQ_srt qs, fun x hx => (hqs x (downQ_mem.mp hx)).mono (by decide)⟩ fun x hx => hqs x (downQ_mem.mp hx)
end
end V3
namespace V3
open PySem.Spec PySem L2 PyProof.Rows RZ GxR
theorem lc_zipL {K : PySem.W.Frag} {a b : Addr} {xs₀ ys₀ : List V} {g : TG} {tt₀ : TT} {te₀ : TE} {vs₀ : List Nat} {σ : L2.St} {H1 : Hp} {D : Addr} {Qd₀ : Hp → Prop} (hl₀ : xs₀.length = ys₀.length) (Pv₀ : Nat → Hp → Prop) (h0₀ : Pv₀ 0 (upd H1 D (.lst []))) (hq₀ : ∀ i H, Pv₀ i H → SqL K H a xs₀ ∧ SqL K H b ys₀)
    (hs₀ : ∀ (i : Nat) (x y : V) (T : Addr) (H : Hp), xs₀[i]? = some x → ys₀[i]? = some y → Pv₀ i H → H T = none → g (.ref T) (wipe σ vs₀) (upd H T (.tup [x, y])) fun σ2₀ H2 => wipe σ2₀ vs₀ = wipe σ vs₀ ∧ tt₀ σ2₀ H2 fun b H3₀ =>
      if b = true then te₀ σ2₀ H3₀ fun y H4₀ => ∃ acc₀, H4₀ D = some (.lst acc₀) ∧ acc₀.length < sizeLine ∧ Pv₀ (i + 1) (upd H4₀ D (.lst (acc₀ ++ [y]))) else Pv₀ (i + 1) H3₀) (hd₀ : ∀ H, Pv₀ xs₀.length H → Qd₀ H) :
    ∃ Way : Nat → Nat → Hp → Prop, (∃ m, Way 0 m (upd H1 D (.lst []))) ∧ ∀ i m H, Way i m H →
      ((Itz K a b).stop i H ∧ Qd₀ H) ∨ ((Itz K a b).go i H ∧ ∃ Nx₀ : Hp → Prop, (∀ H', Nx₀ H' → ∃ m', m' < m ∧ Way (i + 1) m' H') ∧ ∀ x H', (Itz K a b).yld i H x H' → g x (wipe σ vs₀) H' fun σ2₀ H2 => wipe σ2₀ vs₀ = wipe σ vs₀ ∧ tt₀ σ2₀ H2 fun b H3₀ =>
        if b = true then te₀ σ2₀ H3₀ fun y H4₀ => ∃ acc₀, H4₀ D = some (.lst acc₀) ∧ acc₀.length < sizeLine ∧ Nx₀ (upd H4₀ D (.lst (acc₀ ++ [y]))) else Nx₀ H3₀) := by
  refine ⟨fun i m H => m = xs₀.length - i ∧ i ≤ xs₀.length ∧ Pv₀ i H, ⟨xs₀.length, by simp, Nat.zero_le _, h0₀⟩, ?_⟩
  rintro i m H ⟨rfl, hi, p⟩
  obtain ⟨qx₀, qy₀⟩ := hq₀ i H p
  by_cases hlt₀ : i < xs₀.length
  · have hx₀ : xs₀[i]? = some xs₀[i] := List.getElem?_eq_getElem hlt₀
    have hlt2₀ : i < ys₀.length := by omega
    have hy₀ : ys₀[i]? = some ys₀[i] := List.getElem?_eq_getElem hlt2₀
    refine .inr ⟨⟨xs₀, ys₀, _, _, qx₀, qy₀, hx₀, hy₀⟩, Pv₀ (i + 1), fun H' p' => ⟨xs₀.length - (i + 1), by omega, rfl, hlt₀, p'⟩, fun v H' y => ?_⟩
    obtain ⟨T, x₀', y₀', rfl, hT₀, rfl, f1₀, f2₀⟩ := y
    exact hs₀ i x₀' y₀' T H (f1₀ xs₀ qx₀) (f2₀ ys₀ qy₀) p hT₀
  · have e : i = xs₀.length := by omega
    subst e
    exact .inl ⟨⟨xs₀, ys₀, qx₀, qy₀, Or.inl (Nat.le_refl _)⟩, hd₀ H p⟩
theorem lc_zipT {K : PySem.W.Frag} {a b : Addr} {xs₀ ys₀ : List V} {g : TG} {tt₀ : TT} {te₀ : TE} {vs₀ : List Nat} {σ : L2.St} {H1 : Hp} {D : Addr} {Qd₀ : Hp → Prop} (hl₀ : xs₀.length = ys₀.length) (Pv₀ : Nat → Hp → Prop) (h0₀ : Pv₀ 0 (upd H1 D (.lst []))) (hq₀ : ∀ i H, Pv₀ i H → SqT K H a xs₀ ∧ SqT K H b ys₀)
    (hs₀ : ∀ (i : Nat) (x y : V) (T : Addr) (H : Hp), xs₀[i]? = some x → ys₀[i]? = some y → Pv₀ i H → H T = none → g (.ref T) (wipe σ vs₀) (upd H T (.tup [x, y])) fun σ2₀ H2 => wipe σ2₀ vs₀ = wipe σ vs₀ ∧ tt₀ σ2₀ H2 fun b H3₀ =>
      if b = true then te₀ σ2₀ H3₀ fun y H4₀ => ∃ acc₀, H4₀ D = some (.lst acc₀) ∧ acc₀.length < sizeLine ∧ Pv₀ (i + 1) (upd H4₀ D (.lst (acc₀ ++ [y]))) else Pv₀ (i + 1) H3₀) (hd₀ : ∀ H, Pv₀ xs₀.length H → Qd₀ H) :
    ∃ Way : Nat → Nat → Hp → Prop, (∃ m, Way 0 m (upd H1 D (.lst []))) ∧ ∀ i m H, Way i m H →
      ((ItzT K a b).stop i H ∧ Qd₀ H) ∨ ((ItzT K a b).go i H ∧ ∃ Nx₀ : Hp → Prop, (∀ H', Nx₀ H' → ∃ m', m' < m ∧ Way (i + 1) m' H') ∧ ∀ x H', (ItzT K a b).yld i H x H' → g x (wipe σ vs₀) H' fun σ2₀ H2 => wipe σ2₀ vs₀ = wipe σ vs₀ ∧ tt₀ σ2₀ H2 fun b H3₀ =>
        if b = true then te₀ σ2₀ H3₀ fun y H4₀ => ∃ acc₀, H4₀ D = some (.lst acc₀) ∧ acc₀.length < sizeLine ∧ Nx₀ (upd H4₀ D (.lst (acc₀ ++ [y]))) else Nx₀ H3₀) := by
  refine ⟨fun i m H => m = xs₀.length - i ∧ i ≤ xs₀.length ∧ Pv₀ i H, ⟨xs₀.length, by simp, Nat.zero_le _, h0₀⟩, ?_⟩
  rintro i m H ⟨rfl, hi, p⟩
  obtain ⟨qx₀, qy₀⟩ := hq₀ i H p
  by_cases hlt₀ : i < xs₀.length
  · have hx₀ : xs₀[i]? = some xs₀[i] := List.getElem?_eq_getElem hlt₀
    have hlt2₀ : i < ys₀.length := by omega
    have hy₀ : ys₀[i]? = some ys₀[i] := List.getElem?_eq_getElem hlt2₀
    refine .inr ⟨⟨xs₀, ys₀, _, _, qx₀, qy₀, hx₀, hy₀⟩, Pv₀ (i + 1), fun H' p' => ⟨xs₀.length - (i + 1), by omega, rfl, hlt₀, p'⟩, fun v H' y => ?_⟩
    obtain ⟨T, x₀', y₀', rfl, hT₀, rfl, f1₀, f2₀⟩ := y
    exact hs₀ i x₀' y₀' T H (f1₀ xs₀ qx₀) (f2₀ ys₀ qy₀) p hT₀
  · have e : i = xs₀.length := by omega
    subst e
    exact .inl ⟨⟨xs₀, ys₀, qx₀, qy₀, Or.inl (Nat.le_refl _)⟩, hd₀ H p⟩

theorem dpBl {K : PySem.W.Frag} {H : Hp} {v : V} {b : Bool} (h : Dp K H v (.bool b)) : v = .bl b := by
  cases h
  rfl
/-- data of tuples, lists, whole numbers and truths, so deep -/
inductive Lay : Nat → PyData → Prop
  | int (n : Nat) (i : Int) : Lay n (.int i)
  | bl (n : Nat) (b : Bool) : Lay n (.bool b)
  | lst {n : Nat} {ds : List PyData} (hl : ds.length ≤ 1000) (h : ∀ d ∈ ds, Lay n d) : Lay (n + 1) (.list ds)
  | tup {n : Nat} {ds : List PyData} (hl : ds.length ≤ 1000) (h : ∀ d ∈ ds, Lay n d) : Lay (n + 1) (.tuple ds)
theorem lay_fr (q : Rat) (n : Nat) : Lay (n + 1) (frd q) := .tup (by show 2 ≤ 1000; decide) fun d hd => by
  simp only [List.mem_cons, List.not_mem_nil, or_false] at hd
  rcases hd with rfl | rfl <;> exact .int _ _
theorem lay_row {qs : List Rat} (h : qs.length ≤ 1000) (n : Nat) : Lay (n + 2) (rowQ qs) := .tup (by rw [List.length_map]; exact h) fun d hd => by
  obtain ⟨q, _, rfl⟩ := List.mem_map.mp hd
  exact lay_fr q n
section
variable {mg : Str → Option Value} {base : Heap} {K : PySem.W.Frag} {P : Program} {w : World}
abbrev s__law_same : Stmt := topS 32
abbrev N__law_same : List Str := ["told", "due", "x", "y"]
theorem sc__law_same : FnScope N__law_same ["told", "due"] (defScope s__law_same) := ⟨rfl, rfl, rfl, by decide +kernel, rfl, by decide +kernel, by decide +kernel⟩
def spSame (K : PySem.W.Frag) : Nat → Sp
  | 0 => fun _ _ _ _ => False
  | n + 1 => fun vs H Q _ => ∃ (v w : V) (d : PyData), vs = [v, w] ∧ Dp K H v d ∧ Dp K H w d ∧ Lay n d ∧ ∀ H', Same H H' → Q (.bl true) H'
theorem ok_same (T : Gs K mg) (F : At K mg "_law_same" s__law_same) : ∀ n : Nat, Df P w K mg base "_law_same" (n + 1) ["told", "due"] (spSame K n)
  | 0 => by
    have sc := sc__law_same
    exact Df.mk' F sc (fun vs H Q E h => False.elim h) (fun _ _ _ _ _ _ us hl => match us, hl with | [_, _], _ => rfl) (fun f cdv A outer s H vs Q E hr h => False.elim h)
  | n + 1 => by
    have D__law_same := ok_same T F n
    have sc := sc__law_same
    refine Df.mk' F sc (fun vs H Q E h => ?_) (fun _ _ _ _ _ _ us hl => match us, hl with | [_, _], _ => rfl) (fun f cdv A outer s H vs Q E hr h => ?_)
    · obtain ⟨v, w, d, rfl, _⟩ := h
      rfl
    · obtain ⟨v, w', d, rfl, hv, hw, lay, q⟩ := h
      refine ⟨_, (pss_cons (ps_if (pt_val (pe_callB call_isiT (by rfl) T.isinstance (by decide +kernel) (pa_cons (pv 1) (pa_cons (pe_tup (pa_cons (pe_bltn (v := .ty "list") (by rfl) T.list_ (by decide +kernel) rfl) (pa_cons (pe_bltn (v := .ty "tuple") (by rfl) T.tuple_ (by decide +kernel) rfl) pa_nil))) pa_nil)))) (pss_cons (ps_if (PW.pt (pw_or (pt_cmpR op_ne (pe_callB call_isi (by rfl) T.isinstance (by decide +kernel) (pa_cons (pv 0) (pa_cons (pe_bltn (v := .ty "list") (by rfl) T.list_ (by decide +kernel) rfl) pa_nil))) (pe_callB call_isi (by rfl) T.isinstance (by decide +kernel) (pa_cons (pv 1) (pa_cons (pe_bltn (v := .ty "list") (by rfl) T.list_ (by decide +kernel) rfl) pa_nil))) (nomark _)) (pw_or1 (pt_cmpR op_ne (pe_callB call_isi (by rfl) T.isinstance (by decide +kernel) (pa_cons (pv 0) (pa_cons (pe_bltn (v := .ty "tuple") (by rfl) T.tuple_ (by decide +kernel) rfl) pa_nil))) (pe_callB call_isi (by rfl) T.isinstance (by decide +kernel) (pa_cons (pv 1) (pa_cons (pe_bltn (v := .ty "tuple") (by rfl) T.tuple_ (by decide +kernel) rfl) pa_nil))) (nomark _))))) (pss_one (ps_ret pe_bl)) pss_nil) (pss_one (ps_ret (pe_and (pe_cmpR op_eq (pe_callB call_len_seq (by rfl) T.len PySem.boot_len (pa_cons (pv 0) pa_nil)) (pe_callB call_len_seq (by rfl) T.len PySem.boot_len (pa_cons (pv 1) pa_nil)) (nomark _)) (pe_one (pe_callB (cr_all rfl) (by rfl) T.all (by decide +kernel) (pa_cons (pe_lc (own := [("x", 2), ("y", 3)]) (g := gTup K 2 (gCons (gName 2) (gCons (gName 3) gNil))) rfl sc.nd (pi_zipA (by rfl) T.zip (pa_cons (pv 0) (pa_cons (pv 1) pa_nil))) (blkOk_by (own := [("x", 2), ("y", 3)]) (N := N__law_same) (sc := defScope s__law_same) (by decide +kernel)) (fun _ _ _ _ _ => (pg_tup rfl (pgs_cons (pg_name (i := 2) sc.nd rfl (.inl rfl)) (pgs_cons (pg_name (i := 3) sc.nd rfl (.inl rfl)) pgs_nil)))) (fun _ _ _ _ _ => pts_nil) (fun _ _ _ _ _ => (pe_fn D__law_same (by omega) hr (pa_cons (pv 2) (pa_cons (pv 3) pa_nil))))) pa_nil))))))) pss_nil) (pss_cons (ps_if (pt_cmpR op_isN (pv 1) pe_non (nomark _)) (pss_one (ps_ret (pe_cmpR op_isN (pv 0) pe_non (nomark _)))) pss_nil) (pss_cons (ps_if (pt_val (pe_callB call_isi (by rfl) T.isinstance (by decide +kernel) (pa_cons (pv 1) (pa_cons (pe_bltn (v := .ty "str") (by rfl) T.str_ (by decide +kernel) rfl) pa_nil)))) (pss_one (ps_ret (pe_and (pe_callB call_isi (by rfl) T.isinstance (by decide +kernel) (pa_cons (pv 0) (pa_cons (pe_bltn (v := .ty "str") (by rfl) T.str_ (by decide +kernel) rfl) pa_nil))) (pe_one (pe_cmpR op_eq (pv 0) (pv 1) (nomark _)))))) pss_nil) (pss_one (ps_ret (pe_and (pe_callB call_isi (by rfl) T.isinstance (by decide +kernel) (pa_cons (pv 0) (pa_cons (pe_bltn (v := .ty "int") (by rfl) T.int_ (by decide +kernel) rfl) pa_nil))) (pe_and (pe_cmpR op_eq (pe_callB call_isi (by rfl) T.isinstance (by decide +kernel) (pa_cons (pv 0) (pa_cons (pe_bltn (v := .ty "bool") (by rfl) T.bool_ (by decide +kernel) rfl) pa_nil))) (pe_callB call_isi (by rfl) T.isinstance (by decide +kernel) (pa_cons (pv 1) (pa_cons (pe_bltn (v := .ty "bool") (by rfl) T.bool_ (by decide +kernel) rfl) pa_nil))) (nomark _)) (pe_one (pe_cmpR op_eq (pv 0) (pv 1) (nomark _)))))))))), ?_⟩
      refine ⟨_, rfl, by show 2 ≤ sizeLine; decide, fun T0 hT0 => ?_⟩
      have s0 : Same H (upd H T0 (.tup [.ty "list", .ty "tuple"])) := same_upd hT0
      have e0 : (upd H T0 (.tup [.ty "list", .ty "tuple"])) T0 = some (.tup [.ty "list", .ty "tuple"]) := upd_same
      generalize upd H T0 (.tup [.ty "list", .ty "tuple"]) = H0 at s0 e0
      have pr : Paired ClsV [.ty "list", .ty "tuple"] [.type "list", .type "tuple"] := .cons (.ty _) (.cons (.ty _) .nil)
      have hv0 := Dp.same s0 hv
      have hw0 := Dp.same s0 hw
      cases lay with
      | int _ i =>
        rw [dpInt hv, dpInt hw]
        refine ⟨_, T0, _, _, _, _, rfl, e0, pr, .base (.int i), rfl, _, rfl, ifF rfl ?_⟩
        refine ⟨_, rfl, rfl, _, rfl, ifF (by simp) ?_⟩
        refine ⟨_, rfl, _, _, _, _, _, rfl, .ty _, .base (.int i), rfl, _, rfl, ifF rfl ?_⟩
        refine ⟨_, rfl, _, _, _, _, _, rfl, .ty _, .base (.int i), rfl, _, rfl, ifT rfl ?_⟩
        refine ⟨_, rfl, _, _, _, _, _, rfl, .ty _, .base (.int i), rfl, _, rfl, _, _, _, _, _, rfl, .ty _, .base (.int i), rfl, rfl, _, rfl, ifT (by decide) ?_⟩
        refine ⟨_, rfl, _, rfl, rfl, ?_⟩
        have e : decide (V.int i = V.int i) = true := by simp
        rw [e]
        exact q _ s0
      | bl _ b =>
        rw [dpBl hv, dpBl hw]
        refine ⟨_, T0, _, _, _, _, rfl, e0, pr, .base (.bl b), rfl, _, rfl, ifF rfl ?_⟩
        refine ⟨_, rfl, rfl, _, rfl, ifF (by simp) ?_⟩
        refine ⟨_, rfl, _, _, _, _, _, rfl, .ty _, .base (.bl b), rfl, _, rfl, ifF rfl ?_⟩
        refine ⟨_, rfl, _, _, _, _, _, rfl, .ty _, .base (.bl b), rfl, _, rfl, ifT rfl ?_⟩
        refine ⟨_, rfl, _, _, _, _, _, rfl, .ty _, .base (.bl b), rfl, _, rfl, _, _, _, _, _, rfl, .ty _, .base (.bl b), rfl, rfl, _, rfl, ifT (by decide) ?_⟩
        refine ⟨_, rfl, _, rfl, rfl, ?_⟩
        have e : decide (V.bl b = V.bl b) = true := by simp
        rw [e]
        exact q _ s0
      | @lst m ds hl h =>
        obtain ⟨p, xs, rfl, hp, hA⟩ := dpLst hv0
        obtain ⟨p', ys, rfl, hp', hB⟩ := dpLst hw0
        have lx : xs.length = ds.length := dpAll_len hA
        have ly : ys.length = ds.length := dpAll_len hB
        refine ⟨_, T0, _, _, _, _, rfl, e0, pr, tyL hp', rfl, _, rfl, ifT rfl ?_⟩
        refine ⟨_, rfl, _, _, _, _, _, rfl, .ty _, tyL hp, rfl, _, rfl, _, _, _, _, _, rfl, .ty _, tyL hp', rfl, rfl, _, rfl, ifF (by decide) ?_⟩
        refine ⟨_, rfl, _, _, _, _, _, rfl, .ty _, tyL hp, rfl, _, rfl, _, _, _, _, _, rfl, .ty _, tyL hp', rfl, rfl, _, rfl, ifF (by decide) ?_⟩
        refine ⟨_, rfl, _, _, rfl, .inl hp, _, rfl, _, _, rfl, .inl hp', rfl, _, rfl, ifT (by rw [lx, ly]; simp) ?_⟩
        refine ⟨_, rfl, _, rfl, p, p', xs, ys, rfl, .inl ⟨hp, hp', fun D hD => lc_zipL (K := K) (a := p) (b := p') (xs₀ := xs) (ys₀ := ys) (by rw [lx, ly]) (fun i H' => Same H0 H' ∧ ∃ bs : List Bool, H' D = some (.lst (bs.map V.bl)) ∧ bs.length = i ∧ bs.all id = true) ⟨same_upd hD, [], upd_same, rfl, rfl⟩ (fun i H' h => ⟨h.1.seq hp, h.1.seq hp'⟩) ?_ ?_⟩⟩
        · rintro i x y T1 H1 hx hy ⟨sm, bs, hbs, hbl, hba⟩ hT1
          obtain ⟨d1, hd1, hdp1⟩ := dpAll_getV hA hx
          obtain ⟨d2, hd2, hdp2⟩ := dpAll_getV hB hy
          rw [hd1] at hd2
          cases hd2
          have hil : i < ds.length := (List.getElem?_eq_some_iff.mp hd1).1
          have sm2 : Same H0 (upd H1 T1 (.tup [x, y])) := sm.trans (same_upd hT1)
          have hbs2 := (same_upd (o := .tup [x, y]) hT1) _ _ hbs
          refine ⟨T1, _, rfl, SqT.of upd_same, rfl, _, _, rfl, _, _, rfl, rfl, rfl, yesIf ?_⟩
          refine ⟨_, rfl, _, rfl, _, _, d1, rfl, Dp.same sm2 hdp1, Dp.same sm2 hdp2, h d1 (List.mem_of_getElem? hd1), fun H3 s3 => ?_⟩
          refine ⟨_, s3 _ _ hbs2, small1000 (by rw [List.length_map]; omega), same_updN (sm2.trans s3) hD, bs ++ [true], ?_, by rw [List.length_append, hbl]; rfl, by rw [List.all_append, hba]; rfl⟩
          rw [upd_same, List.map_append]
          rfl
        · rintro H1 ⟨sm, bs, hbs, hbl, hba⟩
          refine ⟨D, bs, rfl, SqL.of hbs, ?_⟩
          rw [hba]
          exact q _ (s0.trans sm)
      | @tup m ds hl h =>
        obtain ⟨p, xs, rfl, hp, hA⟩ := dpTup hv0
        obtain ⟨p', ys, rfl, hp', hB⟩ := dpTup hw0
        have lx : xs.length = ds.length := dpAll_len hA
        have ly : ys.length = ds.length := dpAll_len hB
        refine ⟨_, T0, _, _, _, _, rfl, e0, pr, tyT hp', rfl, _, rfl, ifT rfl ?_⟩
        refine ⟨_, rfl, _, _, _, _, _, rfl, .ty _, tyT hp, rfl, _, rfl, _, _, _, _, _, rfl, .ty _, tyT hp', rfl, rfl, _, rfl, ifF (by decide) ?_⟩
        refine ⟨_, rfl, _, _, _, _, _, rfl, .ty _, tyT hp, rfl, _, rfl, _, _, _, _, _, rfl, .ty _, tyT hp', rfl, rfl, _, rfl, ifF (by decide) ?_⟩
        refine ⟨_, rfl, _, _, rfl, .inr hp, _, rfl, _, _, rfl, .inr hp', rfl, _, rfl, ifT (by rw [lx, ly]; simp) ?_⟩
        refine ⟨_, rfl, _, rfl, p, p', xs, ys, rfl, .inr ⟨hp, hp', fun D hD => lc_zipT (K := K) (a := p) (b := p') (xs₀ := xs) (ys₀ := ys) (by rw [lx, ly]) (fun i H' => Same H0 H' ∧ ∃ bs : List Bool, H' D = some (.lst (bs.map V.bl)) ∧ bs.length = i ∧ bs.all id = true) ⟨same_upd hD, [], upd_same, rfl, rfl⟩ (fun i H' h => ⟨sameT h.1 hp, sameT h.1 hp'⟩) ?_ ?_⟩⟩
        · rintro i x y T1 H1 hx hy ⟨sm, bs, hbs, hbl, hba⟩ hT1
          obtain ⟨d1, hd1, hdp1⟩ := dpAll_getV hA hx
          obtain ⟨d2, hd2, hdp2⟩ := dpAll_getV hB hy
          rw [hd1] at hd2
          cases hd2
          have hil : i < ds.length := (List.getElem?_eq_some_iff.mp hd1).1
          have sm2 : Same H0 (upd H1 T1 (.tup [x, y])) := sm.trans (same_upd hT1)
          have hbs2 := (same_upd (o := .tup [x, y]) hT1) _ _ hbs
          refine ⟨T1, _, rfl, SqT.of upd_same, rfl, _, _, rfl, _, _, rfl, rfl, rfl, yesIf ?_⟩
          refine ⟨_, rfl, _, rfl, _, _, d1, rfl, Dp.same sm2 hdp1, Dp.same sm2 hdp2, h d1 (List.mem_of_getElem? hd1), fun H3 s3 => ?_⟩
          refine ⟨_, s3 _ _ hbs2, small1000 (by rw [List.length_map]; omega), same_updN (sm2.trans s3) hD, bs ++ [true], ?_, by rw [List.length_append, hbl]; rfl, by rw [List.all_append, hba]; rfl⟩
          rw [upd_same, List.map_append]
          rfl
        · rintro H1 ⟨sm, bs, hbs, hbl, hba⟩
          refine ⟨D, bs, rfl, SqL.of hbs, ?_⟩
          rw [hba]
          exact q _ (s0.trans sm)
abbrev s__law_is_whole : Stmt := topS 33
abbrev N__law_is_whole : List Str := ["thing"]
theorem sc__law_is_whole : FnScope N__law_is_whole ["thing"] (defScope s__law_is_whole) := ⟨rfl, rfl, rfl, by decide +kernel, rfl, by decide +kernel, by decide +kernel⟩
def spLWhole : Sp := fun vs H Q _ => ∃ i : Int, vs = [.int i] ∧ Q (.bl true) H
theorem ok_lwhole (T : Gs K mg) (F : At K mg "_law_is_whole" s__law_is_whole) : Df P w K mg base "_law_is_whole" 1 ["thing"] spLWhole := by
  have sc := sc__law_is_whole
  refine Df.mk' F sc (fun vs H Q E h => ?_) (fun _ _ _ _ _ _ us hl => match us, hl with | [_], _ => rfl) (fun f cdv A outer s H vs Q E hr h => ?_)
  · obtain ⟨i, rfl, _⟩ := h
    rfl
  · obtain ⟨i, rfl, q⟩ := h
    refine ⟨_, (pss_one (ps_ret (pe_and (pe_callB call_isi (by rfl) T.isinstance (by decide +kernel) (pa_cons (pv 0) (pa_cons (pe_bltn (v := .ty "int") (by rfl) T.int_ (by decide +kernel) rfl) pa_nil))) (pe_one (pe_not (pe_callB call_isi (by rfl) T.isinstance (by decide +kernel) (pa_cons (pv 0) (pa_cons (pe_bltn (v := .ty "bool") (by rfl) T.bool_ (by decide +kernel) rfl) pa_nil)))))))), ?_⟩
    refine ⟨_, rfl, _, _, _, _, _, rfl, .ty _, .base (.int i), rfl, _, rfl, ifT rfl ?_⟩
    exact ⟨_, rfl, _, _, _, _, _, rfl, .ty _, .base (.int i), rfl, _, rfl, q⟩
abbrev s__law_is_frac : Stmt := topS 34
abbrev N__law_is_frac : List Str := ["thing"]
theorem sc__law_is_frac : FnScope N__law_is_frac ["thing"] (defScope s__law_is_frac) := ⟨rfl, rfl, rfl, by decide +kernel, rfl, by decide +kernel, by decide +kernel⟩
def spLFrac (K : PySem.W.Frag) : Sp := fun vs H Q _ => ∃ (v : V) (q : Rat), vs = [v] ∧ DpT K H v (frd q) ∧ Bq 4000 q ∧ ∀ H', Same H H' → Q (.bl true) H'
theorem ok_lfrac (T : Gs K mg) (D__law_is_whole : Df P w K mg base "_law_is_whole" 1 ["thing"] spLWhole) (D__law_cut : Df P w K mg base "_law_cut" 1 ["top", "under"] spFrac) (D__law_same : Df P w K mg base "_law_same" 3 ["told", "due"] (spSame K 2)) (F : At K mg "_law_is_frac" s__law_is_frac) :
    Df P w K mg base "_law_is_frac" 4 ["thing"] (spLFrac K) := by
  have sc := sc__law_is_frac
  refine Df.mk' F sc (fun vs H Q E h => ?_) (fun _ _ _ _ _ _ us hl => match us, hl with | [_], _ => rfl) (fun f cdv A outer s H vs Q E hr h => ?_)
  · obtain ⟨v, q, rfl, _⟩ := h
    rfl
  · obtain ⟨v, x, rfl, hv, sf, q⟩ := h
    obtain ⟨p, rfl, hp⟩ := fqT hv
    refine ⟨_, (pss_cons (ps_if (PW.pt (pw_or (pt_not (pt_val (pe_callB call_isi (by rfl) T.isinstance (by decide +kernel) (pa_cons (pv 0) (pa_cons (pe_bltn (v := .ty "tuple") (by rfl) T.tuple_ (by decide +kernel) rfl) pa_nil))))) (pw_or (pt_cmpR op_ne (pe_callB call_len_seq (by rfl) T.len PySem.boot_len (pa_cons (pv 0) pa_nil)) pe_int (nomark _)) (pw_or (pt_not (pt_val (pe_fn D__law_is_whole (by decide) hr (pa_cons (pe_ix ix_tup (pv 0) pe_int (fun _ _ => rfl)) pa_nil)))) (pw_or1 (pt_not (pt_val (pe_fn D__law_is_whole (by decide) hr (pa_cons (pe_ix ix_tup (pv 0) pe_int (fun _ _ => rfl)) pa_nil))))))))) (pss_one (ps_ret pe_bl)) pss_nil) (pss_one (ps_ret (pe_and (pe_cmpR op_gt (pe_ix ix_tup (pv 0) pe_int (fun _ _ => rfl)) pe_int (nomark _)) (pe_one (pe_fn D__law_same (by decide) hr (pa_cons (pe_fn D__law_cut (by decide) hr (pa_cons (pe_ix ix_tup (pv 0) pe_int (fun _ _ => rfl)) (pa_cons (pe_ix ix_tup (pv 0) pe_int (fun _ _ => rfl)) pa_nil))) (pa_cons (pe_tup (pa_cons (pe_ix ix_tup (pv 0) pe_int (fun _ _ => rfl)) (pa_cons (pe_ix ix_tup (pv 0) pe_int (fun _ _ => rfl)) pa_nil))) pa_nil)))))))), ?_⟩
    refine ⟨_, rfl, _, _, _, _, _, rfl, .ty _, tyT hp, rfl, _, rfl, ifF rfl ?_⟩
    refine ⟨_, rfl, _, _, rfl, .inr hp, rfl, _, rfl, ifF (by simp) ?_⟩
    refine ⟨_, rfl, _, _, _, _, rfl, rfl, hp, at20, _, rfl, _, rfl, ifF rfl ?_⟩
    refine ⟨_, rfl, _, _, _, _, rfl, rfl, hp, at21, _, rfl, _, rfl, ifF rfl ?_⟩
    refine ⟨_, rfl, _, _, _, _, rfl, rfl, hp, at21, _, _, rfl, rfl, _, rfl, ifT (decide_eq_true (rden_pos x)) ?_⟩
    refine ⟨_, rfl, _, _, _, _, rfl, rfl, hp, at20, _, rfl, _, _, _, _, rfl, rfl, hp, at21, _, _, rfl, rden_pos x, Nat.lt_of_lt_of_le (natI sf.d) (pw (by decide)), fun H1 p1 s1 h1 => ?_⟩
    rw [Rat.num_divInt_den] at h1
    refine ⟨_, rfl, _, _, _, _, rfl, rfl, sameT s1 hp, at20, _, rfl, _, _, _, _, rfl, rfl, sameT s1 hp, at21, by show 2 ≤ sizeLine; decide, fun p2 hp2 => ?_⟩
    refine ⟨_, _, frd x, rfl, (fqSame (fqO h1) (same_upd hp2)).dp, (fqO upd_same).dp, lay_fr x 0, fun H3 s3 => ?_⟩
    exact q _ (s1.trans ((same_upd hp2).trans s3))
end
end V3
namespace V3
open PySem.Spec PySem L2 PyProof.Rows RZ GxR
def badB (tops lows : List Rat) (i : Nat) : Bool := decide (gq tops i < gq lows i) || decide (gq lows i < gq tops (i + (tops.length - lows.length)))
theorem bad_nil (tops lows : List Rat) : decide ((((List.range lows.length).filter (badB tops lows)).map fun (k : Nat) => PyData.int (k : Int)) = []) = lacB tops lows := by
  rw [Bool.eq_iff_iff, decide_eq_true_eq, List.map_eq_nil_iff, List.filter_eq_nil_iff]
  unfold lacB
  rw [List.all_eq_true]
  constructor
  · intro h i hi
    have := h i hi
    unfold badB at this
    simpa using this
  · intro h i hi
    have := h i hi
    unfold badB
    simpa using this
theorem neg_frd (x : Rat) : (-x).num = 0 - x.num ∧ ((-x).den : Int) = (x.den : Int) := by
  rw [Rat.neg_num, Rat.neg_den]
  exact ⟨by omega, rfl⟩
theorem shaped_nats (ds : List Nat) : SeqAt.shaped (.list (ds.map fun (k : Nat) => PyData.int (k : Int))) = true := by
  have h1 : ∀ qs : List Nat, PyData.canLayAll0 (qs.map fun (k : Nat) => PyData.int (k : Int)) = true := fun qs => by
    induction qs with
    | nil => rfl
    | cons a r ih => simp only [List.map_cons, PyData.canLayAll0, PyData.canLay0, ih, Bool.and_self]
  have h2 : ∀ qs : List Nat, PyData.depthAll (qs.map fun (k : Nat) => PyData.int (k : Int)) = 0 := fun qs => by
    induction qs with
    | nil => rfl
    | cons a r ih =>
      rw [List.map_cons, PyData.depthAll, ih]
      rfl
  unfold SeqAt.shaped
  rw [Bool.and_eq_true, decide_eq_true_eq, PyData.depth, h2]
  exact ⟨by rw [PyData.canLay0]; exact h1 ds, by omega⟩
section
variable {mg : Str → Option Value} {base : Heap} {K : PySem.W.Frag} {P : Program} {w : World}
abbrev s__law_between : Stmt := topS 31
abbrev N__law_between : List Str := ["well", "high", "low_end", "way", "part"]
theorem sc__law_between : FnScope N__law_between ["well", "high", "low_end"] (defScope s__law_between) := ⟨rfl, rfl, rfl, by decide +kernel, rfl, by decide +kernel, by decide +kernel⟩
def spLBetween (K : PySem.W.Frag) : Sp := fun vs H Q _ => ∃ (a : Addr) (v w : V) (x y : Rat) (k : Nat), vs = [.ref a, v, w] ∧ Well H a k ∧ k ≤ 900000 ∧ DpT K H v (frd x) ∧ DpT K H w (frd y) ∧ Bq 22 x ∧ Bq 22 y ∧
  ∀ H' v' q, But a H H' → Well H' a (k + 2) → DpT K H' v' (frd q) → Bq 71 q → Q v' H'
theorem ok_lbetween (T : Gs K mg) (D__law_draw : Df P w K mg base "_law_draw" 1 ["well", "limit"] spDraw) (D__law_cut : Df P w K mg base "_law_cut" 1 ["top", "under"] spFrac) (D__law_add : Df P w K mg base "_law_add" 2 ["one", "two"] (spR2 K (· + ·) fun _ => True))
    (D__law_sub : Df P w K mg base "_law_sub" 2 ["one", "two"] (spR2 K (· - ·) fun _ => True)) (D__law_mul : Df P w K mg base "_law_mul" 2 ["one", "two"] (spR2 K (· * ·) fun _ => True)) (F : At K mg "_law_between" s__law_between) :
    Df P w K mg base "_law_between" 3 ["well", "high", "low_end"] (spLBetween K) := by
  have sc := sc__law_between
  refine Df.mk' F sc (fun vs H Q E h => ?_) (fun _ _ _ _ _ _ us hl => match us, hl with | [_, _, _], _ => rfl) (fun f cdv A outer s H vs Q E hr h => ?_)
  · obtain ⟨a, v, w, x, y, k, rfl, _⟩ := h
    rfl
  · obtain ⟨a, v, w', x, y, k, rfl, hw, kl, dx, dy, bx, by_, q⟩ := h
    refine ⟨_, (pss_cons (ps_set (i := 3) sc.nd rfl (.inl rfl) (pe_fn D__law_draw (by decide) hr (pa_cons (pv 0) (pa_cons pe_int pa_nil)))) (pss_cons (ps_if (pt_cmpR op_lt (pv 3) pe_int (nomark _)) (pss_one (ps_ret (pe_ifExp (pt_cmpR op_eq (pv 3) pe_int (nomark _)) (pv 1) (pv 2)))) pss_nil) (pss_cons (ps_set (i := 4) sc.nd rfl (.inl rfl) (pe_fn D__law_cut (by decide) hr (pa_cons (pe_op op_add pe_int (pe_fn D__law_draw (by decide) hr (pa_cons (pv 0) (pa_cons pe_int pa_nil)))) (pa_cons pe_int pa_nil)))) (pss_one (ps_ret (pe_fn D__law_add (by decide) hr (pa_cons (pv 2) (pa_cons (pe_fn D__law_mul (by decide) hr (pa_cons (pv 4) (pa_cons (pe_fn D__law_sub (by decide) hr (pa_cons (pv 1) (pa_cons (pv 2) pa_nil))) pa_nil))) pa_nil)))))))), ?_⟩
    refine ⟨_, rfl, a, _, k, rfl, hw, by omega, by decide, by decide, fun H1 d1 b1 w1 d10 d1l => ?_⟩
    have dx1 := DpT.keep (b1.ktW hw) dx
    have dy1 := DpT.keep (b1.ktW hw) dy
    refine ⟨_, rfl, _, _, rfl, rfl, _, rfl, if2 (fun e => ?_) (fun e => ?_)⟩
    · refine ⟨_, rfl, rfl, _, rfl, if2 (fun e2 => ?_) (fun e2 => ?_)⟩
      · exact ⟨_, rfl, q _ _ x b1 (w1.mono (by omega)) dx1 (bx.mono (by decide))⟩
      · exact ⟨_, rfl, q _ _ y b1 (w1.mono (by omega)) dy1 (by_.mono (by decide))⟩
    · refine ⟨_, rfl, a, _, k + 1, rfl, w1, by omega, by decide, by decide, fun H2 d2 b2 w2 d20 d2l => ?_⟩
      refine ⟨_, _, rfl, rfl, _, _, rfl, by decide, by decide +kernel, fun H3 p3 s3 h3 => ?_⟩
      have bp : Bq 3 (Rat.divInt (1 + d2) 4) := bq_div (by decide) (by omega) (by decide)
      have k13 := (b2.ktW w1).trans (Same.kt s3)
      have dx3 := DpT.keep k13 dx1
      have dy3 := DpT.keep k13 dy1
      refine ⟨_, rfl, _, rfl, _, rfl, _, rfl, _, _, x, y, rfl, dx3, dy3, bx.mono (by decide), by_.mono (by decide), .intro, fun H4 p4 s4 h4 => ?_⟩
      have bs : Bq 45 (x - y) := bx.sub by_ (by decide)
      refine ⟨_, _, _, x - y, rfl, fqSame (fqO h3) s4, fqO h4, bp.mono (by decide), bs.mono (by decide), .intro, fun H5 p5 s5 h5 => ?_⟩
      have bm : Bq 48 (Rat.divInt (1 + d2) 4 * (x - y)) := bp.mul bs (by decide)
      refine ⟨_, _, y, _, rfl, fqSame dy3 (s4.trans s5), fqO h5, by_.mono (by decide), bm.mono (by decide), .intro, fun H6 p6 s6 h6 => ?_⟩
      have s36 := s3.trans (s4.trans (s5.trans s6))
      exact q _ _ _ ((b1.trans b2).trans (Same.but s36)) ((w2.same s36).mono (by omega)) (fqO h6) (by_.add bm (by decide))
abbrev s__law_are_fracs : Stmt := topS 35
abbrev N__law_are_fracs : List Str := ["thing", "wide", "x"]
theorem sc__law_are_fracs : FnScope N__law_are_fracs ["thing", "wide"] (defScope s__law_are_fracs) := ⟨rfl, rfl, rfl, by decide +kernel, rfl, by decide +kernel, by decide +kernel⟩
def spAreFr (K : PySem.W.Frag) : Sp := fun vs H Q _ => ∃ (v : V) (n : Nat) (qs : List Rat), vs = [v, .int n] ∧ DpT K H v (rowQ qs) ∧ qs.length = n ∧ (∀ x ∈ qs, Bq 4000 x) ∧ ∀ H', Same H H' → Q (.bl true) H'
theorem ok_are_fracs (T : Gs K mg) (D__law_is_frac : Df P w K mg base "_law_is_frac" 4 ["thing"] (spLFrac K)) (F : At K mg "_law_are_fracs" s__law_are_fracs) : Df P w K mg base "_law_are_fracs" 5 ["thing", "wide"] (spAreFr K) := by
  have sc := sc__law_are_fracs
  refine Df.mk' F sc (fun vs H Q E h => ?_) (fun _ _ _ _ _ _ us hl => match us, hl with | [_, _], _ => rfl) (fun f cdv A outer s H vs Q E hr h => ?_)
  · obtain ⟨v, n, qs, rfl, _⟩ := h
    rfl
  · obtain ⟨v, n, qs, rfl, hv, ln, bq, q⟩ := h
    obtain ⟨p, xs, rfl, hp, ha⟩ := dtTupQ hv
    have hl : xs.length = qs.length := by rw [dtAll_len ha, List.length_map]
    refine ⟨_, (pss_one (ps_ret (pe_and (pe_callB call_isi (by rfl) T.isinstance (by decide +kernel) (pa_cons (pv 0) (pa_cons (pe_bltn (v := .ty "tuple") (by rfl) T.tuple_ (by decide +kernel) rfl) pa_nil))) (pe_and (pe_cmpR op_eq (pe_callB call_len_seq (by rfl) T.len PySem.boot_len (pa_cons (pv 0) pa_nil)) (pv 1) (nomark _)) (pe_one (pe_cmpR (op_eqD hr.units) (pe_lc (own := [("x", 2)]) (g := gName 2) rfl sc.nd (pi_tup (pv 0)) (blkOk_by (own := [("x", 2)]) (N := N__law_are_fracs) (sc := defScope s__law_are_fracs) (by decide +kernel)) (fun _ _ _ _ _ => (pg_name (i := 2) sc.nd rfl (.inl rfl))) (fun _ _ _ _ _ => (pts_one (pt_not (pt_val (pe_fn D__law_is_frac (by decide) hr (pa_cons (pv 2) pa_nil)))))) (fun _ _ _ _ _ => (pv 2))) (pe_lst pa_nil) (nomark _))))))), ?_⟩
    refine ⟨_, rfl, _, _, _, _, _, rfl, .ty _, tyT hp, rfl, _, rfl, ifT rfl ?_⟩
    refine ⟨_, rfl, _, _, rfl, .inr hp, _, rfl, rfl, _, rfl, ifT (by rw [hl, ln]; simp) ?_⟩
    refine ⟨_, rfl, p, rfl, ⟨_, hp⟩, fun D hD => lc_tup (K := K) (a := p) (xs := xs) (fun i H' => Same H H' ∧ H' D = some (.lst [])) ⟨same_upd hD, upd_same⟩ (fun i H' _ h => sameT h.1 hp) ?_ ?_⟩
    · rintro i x H' hi ⟨sm, hd⟩
      obtain ⟨t, ht, hdp⟩ := fqGetV ha hi
      refine ⟨rfl, ?_⟩
      refine ⟨_, rfl, _, t, rfl, fqSame hdp sm, bq t (List.mem_of_getElem? ht), fun H3 s3 => ?_⟩
      exact ⟨_, rfl, ifF rfl ⟨sm.trans s3, s3 _ _ hd⟩⟩
    · rintro H' ⟨sm, hd⟩
      refine ⟨by show 0 ≤ sizeLine; decide, fun e he => ?_⟩
      have s2 := same_upd (o := .lst []) he
      exact ⟨.list [], .list [], .lst (SqL.of (s2 _ _ hd)) .nil, .lst (SqL.of upd_same) .nil, rfl, rfl, q _ (sm.trans s2)⟩
abbrev s__law_is_laced : Stmt := topS 36
abbrev N__law_is_laced : List Str := ["tops", "lows", "far", "some", "at"]
theorem sc__law_is_laced : FnScope N__law_is_laced ["tops", "lows"] (defScope s__law_is_laced) := ⟨rfl, rfl, rfl, by decide +kernel, rfl, by decide +kernel, by decide +kernel⟩
/-- two rows, the second one not longer -/
structure TwoL (K : PySem.W.Frag) (H : Hp) (v w : V) (tops lows : List Rat) : Prop where
  dt : DpT K H v (rowQ tops)
  dl : DpT K H w (rowQ lows)
  bt : ∀ x ∈ tops, Bq 4000 x
  bl : ∀ x ∈ lows, Bq 4000 x
  l6 : tops.length ≤ 6
  le : lows.length ≤ tops.length
theorem TwoR.two {H : Hp} {v w : V} {tops lows : List Rat} (h : TwoR K H v w tops lows) : TwoL K H v w tops lows := ⟨h.dt, h.dl, fun x hx => (h.rt.bq x hx).mono (by decide), fun x hx => (h.rl.bq x hx).mono (by decide), h.l6, Nat.le_of_lt h.lt⟩
def spLLaced (K : PySem.W.Frag) : Sp := fun vs H Q _ => ∃ (v w : V) (tops lows : List Rat), vs = [v, w] ∧ TwoL K H v w tops lows ∧ ∀ H', Same H H' → Q (.bl (lacB tops lows)) H'
theorem ok_llaced (T : Gs K mg) (D__law_less : Df P w K mg base "_law_less" 1 ["one", "two"] (spR2b K fun x y => decide (x < y))) (F : At K mg "_law_is_laced" s__law_is_laced) : Df P w K mg base "_law_is_laced" 2 ["tops", "lows"] (spLLaced K) := by
  have sc := sc__law_is_laced
  refine Df.mk' F sc (fun vs H Q E h => ?_) (fun _ _ _ _ _ _ us hl => match us, hl with | [_, _], _ => rfl) (fun f cdv A outer s H vs Q E hr h => ?_)
  · obtain ⟨v, w, tops, lows, rfl, _⟩ := h
    rfl
  · obtain ⟨v, w', tops, lows, rfl, tw, q⟩ := h
    obtain ⟨p, xs, rfl, hp, hA⟩ := dtTupQ tw.dt
    obtain ⟨p', ys, rfl, hp', hB⟩ := dtTupQ tw.dl
    have lx : xs.length = tops.length := by rw [dtAll_len hA, List.length_map]
    have ly : ys.length = lows.length := by rw [dtAll_len hB, List.length_map]
    have le := tw.le
    have l6 := tw.l6
    refine ⟨_, (pss_cons (ps_set (i := 2) sc.nd rfl (.inr rfl) (pe_op op_sub (pe_callB call_len_seq (by rfl) T.len PySem.boot_len (pa_cons (pv 0) pa_nil)) (pe_callB call_len_seq (by rfl) T.len PySem.boot_len (pa_cons (pv 1) pa_nil)))) (pss_cons (ps_setLc (i := 3) (own := [("at", 4)]) (g := gName 4) rfl sc.nd rfl rfl (sw_true rfl rfl rfl (by decide +kernel)) (pi_range1 rfl T.range (pa_cons (pe_callB call_len_seq (by rfl) T.len PySem.boot_len (pa_cons (pv 1) pa_nil)) pa_nil)) (blkOk_by (own := [("at", 4)]) (N := N__law_is_laced) (sc := defScope s__law_is_laced) (by decide +kernel)) (fun _ _ _ _ _ => (pg_name (i := 4) sc.nd rfl (.inl rfl))) (fun _ _ _ _ _ => (pts_one (PW.pt (pw_or (pt_val (pe_fn D__law_less (by decide) hr (pa_cons (pe_ix (ixTK (K := K) rfl) (pv 0) (pv 4) (fun _ _ => rfl)) (pa_cons (pe_ix (ixTK (K := K) rfl) (pv 1) (pv 4) (fun _ _ => rfl)) pa_nil)))) (pw_or1 (pt_val (pe_fn D__law_less (by decide) hr (pa_cons (pe_ix (ixTK (K := K) rfl) (pv 1) (pv 4) (fun _ _ => rfl)) (pa_cons (pe_ix (ixTK (K := K) rfl) (pv 0) (pe_op op_add (pv 4) (pv 2)) (fun _ _ => rfl)) pa_nil))))))))) (fun _ _ _ _ _ => (pv 4))) (pss_one (ps_ret (pe_cmpR (op_eqD hr.units) (pv 3) (pe_lst pa_nil) (nomark _)))))), ?_⟩
    refine ⟨_, rfl, _, _, rfl, .inr hp, _, rfl, _, _, rfl, .inr hp', _, _, rfl, rfl, ?_⟩
    refine ⟨_, rfl, _, _, rfl, .inr hp', ?_⟩
    refine ⟨_, rfl, by omega, by omega, fun D hD => lc_range (lo := 0) (n := _) (fun i H' => Same H H' ∧ H' D = some (.lst (((List.range i).filter (badB tops lows)).map fun (k : Nat) => V.int (k : Int)))) ⟨same_upd hD, upd_same⟩ ?_ ?_⟩
    · rintro i H' hi ⟨sm, hd⟩
      have hi2 : i < lows.length := by omega
      obtain ⟨v1, hv1, d1⟩ := gqDt (i := i) hA (by omega)
      obtain ⟨v2, hv2, d2⟩ := gqDt (i := i) hB hi2
      obtain ⟨v3, hv3, d3⟩ := gqDt (i := i + (tops.length - lows.length)) hA (by omega)
      have b1 := tw.bt _ (gq_mem (show i < tops.length by omega))
      have b2 := tw.bl _ (gq_mem hi2)
      have b3 := tw.bt _ (gq_mem (show i + (tops.length - lows.length) < tops.length by omega))
      have fin : ∀ b : Bool, b = badB tops lows i → (if b = true then (∃ acc, H' D = some (.lst acc) ∧ acc.length < sizeLine ∧ Same H (upd H' D (.lst (acc ++ [V.int (0 + (i : Int))]))) ∧ (upd H' D (.lst (acc ++ [V.int (0 + (i : Int))]))) D = some (.lst (((List.range (i + 1)).filter (badB tops lows)).map fun (k : Nat) => V.int (k : Int)))) else (Same H H' ∧ H' D = some (.lst (((List.range (i + 1)).filter (badB tops lows)).map fun (k : Nat) => V.int (k : Int))))) := fun b eb => by
        subst eb
        rw [List.range_succ, List.filter_append]
        refine if2 (fun c => ?_) (fun c => ?_)
        · refine ⟨_, hd, small1000 ?_, same_updN sm hD, ?_⟩
          · have := List.length_filter_le (badB tops lows) (List.range i)
            rw [List.length_range] at this
            rw [List.length_map]
            omega
          · rw [upd_same, List.filter_cons_of_pos c, List.map_append]
            congr 2
            show _ = _ ++ [V.int (i : Int)]
            rw [Int.zero_add]
        · rw [List.filter_cons_of_neg (by rw [c]; simp)]
          refine ⟨sm, ?_⟩
          rw [List.filter_nil, List.append_nil]
          exact hd
      refine ⟨rfl, ?_⟩
      refine ⟨_, rfl, _, rfl, _, _, _, _, rfl, rfl, sameT sm hp, at_of (j := i) (by omega) hv1, _, rfl, _, rfl, _, _, _, _, rfl, rfl, sameT sm hp', at_of (j := i) (by omega) hv2, ?_⟩
      refine ⟨_, _, _, _, rfl, fqSame d1 sm, fqSame d2 sm, b1, b2, _, rfl, if2 (fun e => ?_) (fun e => ?_)⟩
      · dsimp only at e
        have := fin true (by unfold badB; rw [e, Bool.true_or])
        rw [if_pos rfl] at this
        exact ⟨_, rfl, this⟩
      · dsimp only at e
        refine ⟨_, rfl, _, rfl, _, _, _, _, rfl, rfl, sameT sm hp', at_of (j := i) (by omega) hv2, _, rfl, _, rfl, _, rfl, _, _, rfl, rfl, _, _, _, _, rfl, rfl, sameT sm hp, at_of (j := i + (tops.length - lows.length)) (by omega) hv3, ?_⟩
        refine ⟨_, _, _, _, rfl, fqSame d2 sm, fqSame d3 sm, b2, b3, _, rfl, ?_⟩
        have := fin _ (show decide (gq lows i < gq tops (i + (tops.length - lows.length))) = badB tops lows i by unfold badB; rw [e, Bool.false_or])
        refine if2 (fun c => ?_) (fun c => ?_)
        · rw [if_pos c] at this
          exact ⟨_, rfl, this⟩
        · dsimp only at c
          rw [if_neg (by rw [c]; simp)] at this
          exact this
    · rintro H' ⟨sm, hd⟩
      refine ⟨_, rfl, by show 0 ≤ sizeLine; decide, fun e he => ?_⟩
      have s2 := same_upd (o := .lst []) he
      have en : ((ys.length : Int)).toNat = lows.length := by omega
      rw [en] at hd
      refine ⟨.list (((List.range lows.length).filter (badB tops lows)).map fun (k : Nat) => PyData.int (k : Int)), .list [], .lst (SqL.of (s2 _ _ hd)) ?_, .lst (SqL.of upd_same) .nil, shaped_nats _, rfl, ?_⟩
      · have : ∀ js : List Nat, DpAll K (upd H' e (.lst [])) (js.map fun (k : Nat) => V.int (k : Int)) (js.map fun (k : Nat) => PyData.int (k : Int)) := fun js => by
          induction js with
          | nil => exact .nil
          | cons j r ih => exact .cons (.int _) ih
        exact this _
      · rw [eqv_nil, bad_nil]
        exact q _ (sm.trans s2)
end
end V3
namespace V3
open PySem.Spec PySem L2 PyProof.Rows RZ GxR
theorem shaped_empty : SeqAt.shaped (.list []) = true := rfl
section
variable {mg : Str → Option Value} {base : Heap} {K : PySem.W.Frag} {P : Program} {w : World}
abbrev s__law_are_tops : Stmt := topS 37
abbrev N__law_are_tops : List Str := ["thing", "wide", "at"]
theorem sc__law_are_tops : FnScope N__law_are_tops ["thing", "wide"] (defScope s__law_are_tops) := ⟨rfl, rfl, rfl, by decide +kernel, rfl, by decide +kernel, by decide +kernel⟩
def spAreTops (K : PySem.W.Frag) : Sp := fun vs H Q _ => ∃ (v : V) (n : Nat) (qs : List Rat), vs = [v, .int n] ∧ DpT K H v (rowQ qs) ∧ Rw n qs ∧ 1 ≤ n ∧ n ≤ 6 ∧ ∀ H', Same H H' → Q (.bl true) H'
theorem ok_are_tops (T : Gs K mg) (D__law_are_fracs : Df P w K mg base "_law_are_fracs" 5 ["thing", "wide"] (spAreFr K)) (D__law_less : Df P w K mg base "_law_less" 1 ["one", "two"] (spR2b K fun x y => decide (x < y))) (F : At K mg "_law_are_tops" s__law_are_tops) :
    Df P w K mg base "_law_are_tops" 6 ["thing", "wide"] (spAreTops K) := by
  have sc := sc__law_are_tops
  refine Df.mk' F sc (fun vs H Q E h => ?_) (fun _ _ _ _ _ _ us hl => match us, hl with | [_, _], _ => rfl) (fun f cdv A outer s H vs Q E hr h => ?_)
  · obtain ⟨v, n, qs, rfl, _⟩ := h
    rfl
  · obtain ⟨v, n, qs, rfl, hv, rw_, n1, n6, q⟩ := h
    have ln := rw_.len
    refine ⟨_, (pss_one (ps_ret (pe_and (pe_fn D__law_are_fracs (by decide) hr (pa_cons (pv 0) (pa_cons (pv 1) pa_nil))) (pe_one (pe_cmpR (op_eqD hr.units) (pe_lc (own := [("at", 2)]) (g := gName 2) rfl sc.nd (pi_range2 rfl T.range (pa_cons pe_int (pa_cons (pv 1) pa_nil))) (blkOk_by (own := [("at", 2)]) (N := N__law_are_tops) (sc := defScope s__law_are_tops) (by decide +kernel)) (fun _ _ _ _ _ => (pg_name (i := 2) sc.nd rfl (.inl rfl))) (fun _ _ _ _ _ => (pts_one (pt_val (pe_fn D__law_less (by decide) hr (pa_cons (pe_ix (ixTK (K := K) rfl) (pv 0) (pe_op op_sub (pv 2) pe_int) (fun _ _ => rfl)) (pa_cons (pe_ix (ixTK (K := K) rfl) (pv 0) (pv 2) (fun _ _ => rfl)) pa_nil)))))) (fun _ _ _ _ _ => (pv 2))) (pe_lst pa_nil) (nomark _)))))), ?_⟩
    refine ⟨_, rfl, _, rfl, _, n, qs, rfl, hv, rw_.len, fun x hx => (rw_.bq x hx).mono (by decide), fun H1 s1 => ⟨_, rfl, ifT rfl ?_⟩⟩
    obtain ⟨p, xs, rfl, hp, ha⟩ := dtTupQ (DpT.keep (Same.kt s1) hv)
    refine ⟨_, rfl, _, _, rfl, ⟨by decide, by decide, by omega, by omega⟩, fun D hD => lc_range (lo := 1) (n := _) (fun i H' => Same H1 H' ∧ H' D = some (.lst [])) ⟨same_upd hD, upd_same⟩ ?_ ?_⟩
    · rintro i H' hi ⟨sm, hd⟩
      have hi2 : i + 1 < qs.length := by omega
      obtain ⟨v1, hv1, d1⟩ := gqDt (i := i) ha (by omega)
      obtain ⟨v2, hv2, d2⟩ := gqDt (i := i + 1) ha hi2
      refine ⟨rfl, ?_⟩
      refine ⟨_, rfl, _, rfl, _, _, rfl, rfl, _, _, _, _, rfl, rfl, sameT sm hp, at_of (j := i) (by omega) hv1, _, rfl, _, rfl, _, _, _, _, rfl, rfl, sameT sm hp, at_of (j := i + 1) (by omega) hv2, ?_⟩
      refine ⟨_, _, _, _, rfl, fqSame d1 sm, fqSame d2 sm, (rw_.bq _ (gq_mem (by omega))).mono (by decide), (rw_.bq _ (gq_mem hi2)).mono (by decide), _, rfl, ifF ?_ ⟨sm, hd⟩⟩
      have := rw_.srt.le (i := i) (j := i + 1) (by omega) hi2
      exact decide_eq_false (Rat.not_lt.mpr this)
    · rintro H' ⟨sm, hd⟩
      refine ⟨by show 0 ≤ sizeLine; decide, fun e he => ?_⟩
      have s2 := same_upd (o := .lst []) he
      exact ⟨.list [], .list [], .lst (SqL.of (s2 _ _ hd)) .nil, .lst (SqL.of upd_same) .nil, rfl, rfl, q _ (s1.trans (sm.trans s2))⟩
abbrev s__law_lows : Stmt := topS 38
abbrev N__law_lows : List Str := ["well", "tops", "many_lows", "far", "found", "at"]
theorem sc__law_lows : FnScope N__law_lows ["well", "tops", "many_lows"] (defScope s__law_lows) := ⟨rfl, rfl, rfl, by decide +kernel, rfl, by decide +kernel, by decide +kernel⟩
def spLows (K : PySem.W.Frag) : Sp := fun vs H Q _ => ∃ (a : Addr) (v : V) (qs : List Rat) (m k : Nat), vs = [.ref a, v, .int m] ∧ Well H a k ∧ k ≤ 700000 ∧ DpT K H v (rowQ qs) ∧ (∀ x ∈ qs, Bq 22 x) ∧ qs.length ≤ 6 ∧ m ≤ qs.length ∧
  ∀ H' v' ls, But a H H' → Well H' a (k + 12) → DpT K H' v' (rowQ ls) → Rw m ls → (∀ x ∈ ls, Bq 71 x) → Q v' H'
theorem ok_lows (T : Gs K mg) (D__law_between : Df P w K mg base "_law_between" 3 ["well", "high", "low_end"] (spLBetween K)) (D__law_down : Df P w K mg base "_law_down" 2 ["some"] (spDown K)) (F : At K mg "_law_lows" s__law_lows) :
    Df P w K mg base "_law_lows" 4 ["well", "tops", "many_lows"] (spLows K) := by
  have sc := sc__law_lows
  refine Df.mk' F sc (fun vs H Q E h => ?_) (fun _ _ _ _ _ _ us hl => match us, hl with | [_, _, _], _ => rfl) (fun f cdv A outer s H vs Q E hr h => ?_)
  · obtain ⟨a, v, qs, m, k, rfl, _⟩ := h
    rfl
  · obtain ⟨a, v, qs, m, k, rfl, hw, kl, hv, bq, l6, lm, q⟩ := h
    obtain ⟨p, xs, rfl, hp, hA⟩ := dtTupQ hv
    have lx : xs.length = qs.length := by rw [dtAll_len hA, List.length_map]
    refine ⟨_, (pss_cons (ps_par (i := 3) (j := 4) rfl sc.nd rfl rfl (by decide) rfl rfl (pa_cons (pe_op op_sub (pe_callB call_len_seq (by rfl) T.len PySem.boot_len (pa_cons (pv 1) pa_nil)) (pv 2)) (pa_cons (pe_lst pa_nil) pa_nil)) (by rfl)) (pss_cons (ps_for PassesOwn.never rfl (pi_range1 rfl T.range (pa_cons (pv 2) pa_nil)) (pg_name (i := 5) sc.nd rfl (.inl rfl)) (pss_one (ps_expr (pe_bm PySem.F.plainAttrs_list PySem.F.slot_list_append PySem.F.type_list_append mt_append (pv 4) (pa_cons (pe_fn D__law_between (by decide) hr (pa_cons (pv 0) (pa_cons (pe_ix ix_tup (pv 1) (pv 5) (fun _ _ => rfl)) (pa_cons (pe_ix ix_tup (pv 1) (pe_op op_add (pv 5) (pv 3)) (fun _ _ => rfl)) pa_nil)))) pa_nil))))) (pss_one (ps_ret (pe_fn D__law_down (by decide) hr (pa_cons (pv 4) pa_nil)))))), ?_⟩
    refine ⟨_, rfl, _, _, rfl, .inr hp, _, rfl, _, _, rfl, rfl, by show 0 ≤ sizeLine; decide, fun pf hpf => ?_⟩
    have hne := hw.ne hpf
    have s0 : Same H (upd H pf (.lst [])) := same_upd hpf
    refine ⟨_, _, rfl, ?_⟩
    refine ⟨_, rfl, _, rfl, by omega, by omega, for_range (lo := 0) (n := _) (fun i σ H' => ∃ (y : Option V) (zs : List V) (ls : List Rat), σ = [some (.ref a), some (.ref p), some (.int m), some (.int ((xs.length : Int) - (m : Int))), some (.ref pf), y] ∧ But a H H' ∧ Well H' a (k + 2 * i) ∧ H' pf = some (.lst zs) ∧
      DpTAll K H' zs (ls.map frd) ∧ ls.length = i ∧ ∀ x ∈ ls, Bq 71 x) ⟨_, [], [], rfl, Same.but s0, hw.same s0, upd_same, .nil, rfl, fun x hx => by cases hx⟩ ?_ ?_⟩
    · rintro i σ H1 hi ⟨y, zs, ls, rfl, b1, w1, hz, hzs, hll, hls⟩
      have hi2 : i < m := by omega
      have k1 := b1.ktW hw
      have hp1 := k1.sqT hp
      have hA1 := hA.keep k1
      obtain ⟨v1, hv1, d1⟩ := gqDt (i := i) hA1 (by omega)
      obtain ⟨v2, hv2, d2⟩ := gqDt (i := i + (qs.length - m)) hA1 (by omega)
      have lz : zs.length = i := by rw [dtAll_len hzs, List.length_map, hll]
      refine ⟨_, rfl, .inl ⟨rfl, _, SqL.of hz⟩, ?_⟩
      refine ⟨_, rfl, _, rfl, _, rfl, _, _, _, _, rfl, rfl, hp1, at_of (j := i) (by omega) hv1, _, rfl, _, rfl, _, rfl, _, _, rfl, rfl, _, _, _, _, rfl, rfl, hp1, at_of (j := i + (qs.length - m)) (by omega) hv2, ?_⟩
      refine ⟨a, _, _, _, _, k + 2 * i, rfl, w1, by omega, d1, d2, bq _ (gq_mem (by omega)), bq _ (gq_mem (by omega)), fun H2 v' z b2 w2 dz bz => ?_⟩
      have hz2 : H2 pf = some (.lst zs) := b2 _ _ (Ne.symm hne) hz
      refine ⟨pf, zs, _, rfl, rfl, hz2, small1000 (by omega), ?_⟩
      refine ⟨_, zs ++ [v'], ls ++ [z], rfl, (b1.trans b2).updN hpf, (w2.upd hne).mono (by omega), upd_same, ?_, by rw [List.length_append, hll]; rfl, fun x hx => ?_⟩
      · rw [List.map_append]
        exact dtAll_app ((hzs.keep (b2.ktW w1)).keep (kt_lst hz2)) (.cons (DpT.keep (kt_lst hz2) dz) .nil)
      · rcases List.mem_append.mp hx with h | h
        · exact hls x h
        · rw [List.mem_singleton.mp h]
          exact bz
    · rintro σ H1 ⟨y, zs, ls, rfl, b1, w1, hz, hzs, hll, hls⟩
      refine ⟨_, rfl, pf, zs, ls, rfl, .inl (SqL.of hz), hzs, fun x hx => (hls x hx).mono (by decide), by omega, fun H2 p2 ys s2 hp2 hys => ?_⟩
      refine q H2 _ (downQ ls) (b1.trans (Same.but s2)) ((w1.same s2).mono (by omega)) (.tup (SqT.of hp2) hys) ⟨by rw [downQ_len]; omega, downQ_srt ls, fun x hx => (hls x (downQ_mem.mp hx)).mono (by decide)⟩ fun x hx => hls x (downQ_mem.mp hx)
abbrev s__law_opposite : Stmt := topS 40
abbrev N__law_opposite : List Str := ["some", "x"]
theorem sc__law_opposite : FnScope N__law_opposite ["some"] (defScope s__law_opposite) := ⟨rfl, rfl, rfl, by decide +kernel, rfl, by decide +kernel, by decide +kernel⟩
def spOpp (K : PySem.W.Frag) : Sp := fun vs H Q _ => ∃ (v : V) (qs : List Rat), vs = [v] ∧ DpT K H v (rowQ qs) ∧ qs.length ≤ 6 ∧ ∀ H' v', Same H H' → DpT K H' v' (rowQ (oppQ qs)) → Q v' H'
theorem ok_opp (T : Gs K mg) (F : At K mg "_law_opposite" s__law_opposite) : Df P w K mg base "_law_opposite" 1 ["some"] (spOpp K) := by
  have sc := sc__law_opposite
  refine Df.mk' F sc (fun vs H Q E h => ?_) (fun _ _ _ _ _ _ us hl => match us, hl with | [_], _ => rfl) (fun f cdv A outer s H vs Q E hr h => ?_)
  · obtain ⟨v, qs, rfl, _⟩ := h
    rfl
  · obtain ⟨v, qs, rfl, hv, l6, q⟩ := h
    obtain ⟨p, xs, rfl, hp, hA⟩ := dtTupQ hv
    have lx : xs.length = qs.length := by rw [dtAll_len hA, List.length_map]
    refine ⟨_, (pss_one (ps_ret (pe_callTy call_tuple_of (by rfl) T.tuple_ (by decide +kernel) (pa_cons (pe_lc (own := [("x", 1)]) (g := gName 1) rfl sc.nd (pi_tup (pe_revT (pv 0))) (blkOk_by (own := [("x", 1)]) (N := N__law_opposite) (sc := defScope s__law_opposite) (by decide +kernel)) (fun _ _ _ _ _ => (pg_name (i := 1) sc.nd rfl (.inl rfl))) (fun _ _ _ _ _ => pts_nil) (fun _ _ _ _ _ => (pe_tup (pa_cons (pe_op op_sub pe_int (pe_ix (ixTK (K := K) rfl) (pv 1) pe_int (fun _ _ => rfl))) (pa_cons (pe_ix (ixTK (K := K) rfl) (pv 1) pe_int (fun _ _ => rfl)) pa_nil))))) pa_nil)))), ?_⟩
    refine ⟨_, rfl, p, xs, rfl, hp, fun pr hpr => ?_⟩
    have s1 : Same H (upd H pr (.tup xs.reverse)) := same_upd hpr
    have hA1 : DpTAll K (upd H pr (.tup xs.reverse)) xs.reverse ((qs.reverse).map frd) := by
      rw [List.map_reverse]
      exact dtAll_rev (hA.keep (Same.kt s1))
    have hr1 : SqT K (upd H pr (.tup xs.reverse)) pr xs.reverse := SqT.of upd_same
    generalize upd H pr (.tup xs.reverse) = H1 at s1 hA1 hr1
    refine ⟨pr, rfl, ⟨_, hr1⟩, fun D hD => lc_tup (K := K) (a := pr) (xs := xs.reverse) (fun i H' => Same H1 H' ∧ ∃ zs, H' D = some (.lst zs) ∧ DpTAll K H' zs (((qs.reverse.map fun x => -x).take i).map frd)) ⟨same_upd hD, [], upd_same, .nil⟩ (fun i H' _ h => sameT h.1 hr1) ?_ ?_⟩
    · rintro i x H' hi ⟨sm, zs, hz, hzs⟩
      obtain ⟨t, ht, hdp⟩ := fqGetV hA1 hi
      have hil := (List.getElem?_eq_some_iff.mp ht).1
      rw [List.length_reverse] at hil
      obtain ⟨p2, rfl, hp2⟩ := fqT (fqSame hdp sm)
      have lz : zs.length = i := by
        rw [dtAll_len hzs, List.length_map, List.length_take, List.length_map, List.length_reverse]
        omega
      refine ⟨rfl, yesIf ?_⟩
      refine ⟨_, rfl, _, _, _, _, rfl, rfl, hp2, at20, _, _, rfl, rfl, _, rfl, _, _, _, _, rfl, rfl, hp2, at21, by show 2 ≤ sizeLine; decide, fun pn hpn => ?_⟩
      have s3 : Same H' (upd H' pn (.tup [.int (0 - t.num), .int (t.den : Int)])) := same_upd hpn
      have hf : DpT K (upd H' pn (.tup [.int (0 - t.num), .int (t.den : Int)])) (.ref pn) (frd (-t)) := fqI upd_same (neg_frd t).1 (neg_frd t).2
      refine ⟨zs, s3 _ _ hz, small1000 (by omega), same_updN (sm.trans s3) hD, _, upd_same, ?_⟩
      have hz3 := s3 _ _ hz
      have ht2 : (qs.reverse.map fun x => -x)[i]? = some (-t) := by rw [List.getElem?_map, ht]; rfl
      rw [take_more ht2, List.map_append]
      exact dtAll_app ((hzs.keep (Same.kt s3)).keep (kt_lst hz3)) (.cons (DpT.keep (kt_lst hz3) hf) .nil)
    · rintro H' ⟨sm, zs, hz, hzs⟩
      refine ⟨D, zs, rfl, .inl ⟨SqL.of hz, fun l hl' => ?_⟩⟩
      have e : ((qs.reverse.map fun x => -x).take xs.reverse.length) = oppQ qs := by
        rw [List.take_of_length_le (by rw [List.length_map, List.length_reverse, List.length_reverse]; omega), List.map_reverse]
        rfl
      rw [e] at hzs
      exact q _ _ (s1.trans (sm.trans (same_upd hl'))) (.tup (SqT.of upd_same) (hzs.keep (Same.kt (same_upd hl'))))
end
end V3
namespace V3
open PySem.Spec PySem L2 PyProof.Rows RZ GxR
section
variable {mg : Str → Option Value} {base : Heap} {K : PySem.W.Frag} {P : Program} {w : World}
theorem mkP {H : Hp} {p : Addr} {o : HO} (h : H p = none) : ∃ G, upd H p o = G ∧ Same H G ∧ G p = some o := ⟨_, rfl, same_upd h, upd_same⟩
abbrev s__law_shaken : Stmt := topS 39
abbrev N__law_shaken : List Str := ["well", "some", "at", "new"]
theorem sc__law_shaken : FnScope N__law_shaken ["well", "some"] (defScope s__law_shaken) := ⟨rfl, rfl, rfl, by decide +kernel, rfl, by decide +kernel, by decide +kernel⟩
def spShaken (K : PySem.W.Frag) : Sp := fun vs H Q _ => ∃ (a : Addr) (v : V) (qs : List Rat) (k : Nat), vs = [.ref a, v] ∧ Well H a k ∧ k ≤ 600000 ∧ DpT K H v (rowQ qs) ∧ (∀ x ∈ qs, Bq 71 x) ∧ 1 ≤ qs.length ∧ qs.length ≤ 6 ∧
  ∀ H' v' ls, But a H H' → Well H' a (k + 6) → DpT K H' v' (rowQ ls) → Rw qs.length ls → Q v' H'
theorem ok_shaken (T : Gs K mg) (D__law_draw : Df P w K mg base "_law_draw" 1 ["well", "limit"] spDraw) (D__law_pick : Df P w K mg base "_law_pick" 2 ["well", "some"] (spPick K)) (D__law_number : Df P w K mg base "_law_number" 2 ["well"] (spNumber K)) (D__law_add : Df P w K mg base "_law_add" 2 ["one", "two"] (spR2 K (· + ·) fun _ => True))
    (D__law_down : Df P w K mg base "_law_down" 2 ["some"] (spDown K)) (F : At K mg "_law_shaken" s__law_shaken) : Df P w K mg base "_law_shaken" 3 ["well", "some"] (spShaken K) := by
  have sc := sc__law_shaken
  refine Df.mk' F sc (fun vs H Q E h => ?_) (fun _ _ _ _ _ _ us hl => match us, hl with | [_, _], _ => rfl) (fun f cdv A outer s H vs Q E hr h => ?_)
  · obtain ⟨a, v, qs, k, rfl, _⟩ := h
    rfl
  · obtain ⟨a, v, qs, k, rfl, hw, kl, hv, bq, l1, l6, q⟩ := h
    obtain ⟨p, xs, rfl, hp, hA⟩ := dtTupQ hv
    have lx : xs.length = qs.length := by rw [dtAll_len hA, List.length_map]
    refine ⟨_, (pss_cons (ps_set (i := 2) sc.nd rfl (.inl rfl) (pe_fn D__law_draw (by decide) hr (pa_cons (pv 0) (pa_cons (pe_callB call_len_seq (by rfl) T.len PySem.boot_len (pa_cons (pv 1) pa_nil)) pa_nil)))) (pss_cons (ps_set (i := 3) sc.nd rfl (.inl rfl) (pe_fn D__law_number (by decide) hr (pa_cons (pv 0) pa_nil))) (pss_cons (ps_if (pt_cmpR op_eq (pe_fn D__law_draw (by decide) hr (pa_cons (pv 0) (pa_cons pe_int pa_nil))) pe_int (nomark _)) (pss_one (ps_set (i := 3) sc.nd rfl (.inl rfl) (pe_fn D__law_add (by decide) hr (pa_cons (pe_ix ix_tup (pv 1) (pv 2) (fun _ _ => rfl)) (pa_cons (pe_fn D__law_pick (by decide) hr (pa_cons (pv 0) (pa_cons (pe_tup (pa_cons (pe_tup (pa_cons pe_int (pa_cons pe_int pa_nil))) (pa_cons (pe_tup (pa_cons (pe_un un_neg pe_int) (pa_cons pe_int pa_nil))) (pa_cons (pe_tup (pa_cons pe_int (pa_cons pe_int pa_nil))) (pa_cons (pe_tup (pa_cons (pe_un un_neg pe_int) (pa_cons pe_int pa_nil))) (pa_cons (pe_tup (pa_cons pe_int (pa_cons pe_int pa_nil))) (pa_cons (pe_tup (pa_cons (pe_un un_neg pe_int) (pa_cons pe_int pa_nil))) pa_nil))))))) pa_nil))) pa_nil))))) pss_nil) (pss_one (ps_ret (pe_fn D__law_down (by decide) hr (pa_cons (pe_op op_catQ (pe_op op_catQ (pe_slice sl_Q (pv 1) po_none (po_some (pv 2))) (pe_tup (pa_cons (pv 3) pa_nil))) (pe_slice sl_Q (pv 1) (po_some (pe_op op_add (pv 2) pe_int)) po_none)) pa_nil))))))), ?_⟩
    refine ⟨_, rfl, _, rfl, _, _, rfl, .inr hp, a, _, k, rfl, hw, by omega, by omega, by omega, fun H1 d b1 w1 d0 dl => ?_⟩
    obtain ⟨i, rfl⟩ : ∃ i : Nat, d = (i : Int) := ⟨d.toNat, by omega⟩
    have hi : i < qs.length := by omega
    refine ⟨_, rfl, a, k + 1, rfl, w1, by omega, fun H2 nv nq b2 w2 dn bn => ?_⟩
    have k12 := (b1.ktW hw).trans (b2.ktW w1)
    refine ⟨_, rfl, a, _, k + 1 + 3, rfl, w2, by omega, by decide, by decide, fun H3 d3 b3 w3 d30 d3l => ?_⟩
    have k13 := k12.trans (b3.ktW w2)
    have dn3 := DpT.keep (b3.ktW w2) dn
    have hA3 := hA.keep k13
    have hp3 := k13.sqT hp
    have b13 := (b1.trans b2).trans b3
    obtain ⟨v1, hv1, d1⟩ := gqDt (i := i) hA3 hi
    have fin : ∀ (H4 : Hp) (v4 : V) (q4 : Rat), But a H H4 → Well H4 a (k + 6) → DpT K H4 (.ref p) (rowQ qs) → DpT K H4 v4 (frd q4) → Bq 100 q4 → tRet (tFn (spDown K) (tCons (tOp (rCatQ K) (tOp (rCatQ K) (tSl (rSlQ K) (tVar 1) tNoPart (tPart (tVar 2))) (tTup (tCons (tVar 3) tNil))) (tSl (rSlQ K) (tVar 1) (tPart (tOp (rI0 fun i j => V.int (i + j)) (tVar 2) (tC (.int 1)))) tNoPart)) tNil)) { nx := fun x H' => Q V.non H', rt := Q } [some (.ref a), some (.ref p), some (.int (i : Int)), some v4] H4 := fun H4 v4 q4 b4 w4 hv4 dv4 bq4 => by
      refine ⟨_, rfl, _, rfl, (i : Int), rfl, qs.map frd, hv4, fun H5 v5 s5 d5 => ?_⟩
      rw [cutP_to, ← List.map_take] at d5
      refine ⟨_, rfl, by show 1 ≤ sizeLine; decide, fun p6 hp6 => ?_⟩
      obtain ⟨H6, e6, s6, a6⟩ := mkP (o := .tup [v4]) hp6
      rw [e6]
      have d6 : DpT K H6 (.ref p6) (rowQ [q4]) := .tup (SqT.of a6) (.cons (DpT.keep (Same.kt (s5.trans s6)) dv4) .nil)
      refine ⟨(qs.take i).map frd, [q4].map frd, DpT.keep (Same.kt s6) d5, d6, by rw [List.length_map, List.length_map, List.length_take, List.length_singleton]; omega, fun H7 v7 s7 d7 => ?_⟩
      have s57 := s5.trans (s6.trans s7)
      refine ⟨_, rfl, _, rfl, _, _, rfl, rfl, (i : Int) + 1, rfl, qs.map frd, DpT.keep (Same.kt s57) hv4, fun H8 v8 s8 d8 => ?_⟩
      rw [cutP_from, ← List.map_drop] at d8
      refine ⟨_, _, DpT.keep (Same.kt s8) d7, d8, by rw [List.length_append, List.length_map, List.length_map, List.length_map, List.length_take, List.length_drop, List.length_singleton]; omega, fun H9 v9 s9 d9 => ?_⟩
      rw [← List.map_append, ← List.map_append] at d9
      obtain ⟨p9, zs, rfl, hp9, hC⟩ := dtTupQ d9
      have s49 := s57.trans (s8.trans s9)
      have hb : ∀ x ∈ qs.take i ++ [q4] ++ qs.drop (i + 1), Bq 100 x := fun x hx => by
        rcases List.mem_append.mp hx with h | h
        · (rcases List.mem_append.mp h with h | h)
          · exact (bq x (List.mem_of_mem_take h)).mono (by decide)
          · rw [List.mem_singleton.mp h]
            exact bq4
        · exact (bq x (List.mem_of_mem_drop h)).mono (by decide)
      have hlen : (qs.take i ++ [q4] ++ qs.drop (i + 1)).length = qs.length := by
        rw [List.length_append, List.length_append, List.length_take, List.length_drop, List.length_singleton]
        omega
      refine ⟨p9, zs, _, rfl, .inr hp9, hC, hb, by omega, fun H10 p10 ys s10 hp10 hys => ?_⟩
      exact q H10 _ _ (b4.trans (Same.but (s49.trans s10))) (w4.same (s49.trans s10)) (.tup (SqT.of hp10) hys) ⟨by rw [downQ_len, hlen], downQ_srt _, fun x hx => hb x (downQ_mem.mp hx)⟩
    refine ⟨rfl, _, rfl, if2 (fun e => ?_) (fun e => ?_)⟩
    · refine ⟨_, rfl, _, rfl, _, _, _, _, rfl, rfl, hp3, at_of (j := i) rfl hv1, ?_⟩
      refine ⟨_, rfl, by show 2 ≤ sizeLine; decide, fun p1 h1 => ?_⟩
      obtain ⟨G1, e1, s1, a1⟩ := mkP (o := .tup [.int 1, .int 1]) h1
      rw [e1]
      refine ⟨1, rfl, by show 2 ≤ sizeLine; decide, fun p2 h2 => ?_⟩
      obtain ⟨G2, e2, s2, a2⟩ := mkP (o := .tup [.int (-1), .int 1]) h2
      rw [e2]
      refine ⟨by show 2 ≤ sizeLine; decide, fun p3 h3 => ?_⟩
      obtain ⟨G3, e3, s3, a3⟩ := mkP (o := .tup [.int 1, .int 2]) h3
      rw [e3]
      refine ⟨1, rfl, by show 2 ≤ sizeLine; decide, fun p4 h4 => ?_⟩
      obtain ⟨G4, e4, s4, a4⟩ := mkP (o := .tup [.int (-1), .int 3]) h4
      rw [e4]
      refine ⟨by show 2 ≤ sizeLine; decide, fun p5 h5 => ?_⟩
      obtain ⟨G5, e5, s5, a5⟩ := mkP (o := .tup [.int 1, .int 1000]) h5
      rw [e5]
      refine ⟨1, rfl, by show 2 ≤ sizeLine; decide, fun p6 h6 => ?_⟩
      obtain ⟨G6, e6, s6, a6⟩ := mkP (o := .tup [.int (-1), .int 1000]) h6
      rw [e6]
      refine ⟨by show 6 ≤ sizeLine; decide, fun p7 h7 => ?_⟩
      obtain ⟨G7, e7, s7, a7⟩ := mkP (o := .tup [.ref p1, .ref p2, .ref p3, .ref p4, .ref p5, .ref p6]) h7
      rw [e7]
      have s67 := s6.trans s7
      have s57 := s5.trans s67
      have s47 := s4.trans s57
      have s37 := s3.trans s47
      have s27 := s2.trans s37
      have s17 := s1.trans s27
      have all : ∀ x ∈ [V.ref p1, .ref p2, .ref p3, .ref p4, .ref p5, .ref p6], ∃ z, DpT K G7 x (frd z) ∧ Bq 11 z := fun x hx => by
        (simp only [List.mem_cons, List.not_mem_nil, or_false] at hx)
        rcases hx with rfl | rfl | rfl | rfl | rfl | rfl
        · exact ⟨Rat.divInt 1 1, fqI (s27 _ _ a1) (by decide +kernel) (by decide +kernel), ⟨by decide +kernel, by decide +kernel⟩⟩
        · exact ⟨Rat.divInt (-1) 1, fqI (s37 _ _ a2) (by decide +kernel) (by decide +kernel), ⟨by decide +kernel, by decide +kernel⟩⟩
        · exact ⟨Rat.divInt 1 2, fqI (s47 _ _ a3) (by decide +kernel) (by decide +kernel), ⟨by decide +kernel, by decide +kernel⟩⟩
        · exact ⟨Rat.divInt (-1) 3, fqI (s57 _ _ a4) (by decide +kernel) (by decide +kernel), ⟨by decide +kernel, by decide +kernel⟩⟩
        · exact ⟨Rat.divInt 1 1000, fqI (s67 _ _ a5) (by decide +kernel) (by decide +kernel), ⟨by decide +kernel, by decide +kernel⟩⟩
        · exact ⟨Rat.divInt (-1) 1000, fqI (s7 _ _ a6) (by decide +kernel) (by decide +kernel), ⟨by decide +kernel, by decide +kernel⟩⟩
      refine ⟨a, p7, _, k + 1 + 3 + 1, rfl, w3.same s17, by omega, SqT.of a7, by show 0 < 6; decide, by show 6 ≤ 1000; decide, fun H8 j x b8 w8 hx => ?_⟩
      obtain ⟨z, dz, bz⟩ := all x (List.mem_of_getElem? hx)
      have k8 := (Same.kt s17).trans (b8.ktW (w3.same s17))
      have bi := bq _ (gq_mem hi)
      refine ⟨_, _, gq qs i, z, rfl, DpT.keep k8 d1, DpT.keep (b8.ktW (w3.same s17)) dz, bi.mono (by decide), bz.mono (by decide), .intro, fun H9 p9 s9 h9 => ?_⟩
      exact fin H9 _ _ ((b13.trans (Same.but s17)).trans (b8.trans (Same.but s9))) ((w8.same s9).mono (by omega)) (.tup ((k8.trans (Same.kt s9)).sqT hp3) (hA3.keep (k8.trans (Same.kt s9)))) (fqO h9) (bi.add bz (by decide))
    · exact fin H3 nv nq b13 (w3.mono (by omega)) (.tup hp3 hA3) dn3 (bn.mono (by decide))
end
end V3
namespace V3
open PySem.Spec PySem L2 PyProof.Rows RZ GxR
def linksL (tops lows : List Rat) (rows : List (List Rat)) : List (List Rat) := (tops :: rows) ++ [lows]
theorem links_at {tops lows : List Rat} {rows : List (List Rat)} {m i : Nat} (ch : Ch tops lows rows) (rl : Rw m lows) (ln : rows.length + lows.length + 1 = tops.length) (hi : i < rows.length + 1) :
    Rw (tops.length - (i + 1)) ((linksL tops lows rows).getD (i + 1) []) ∧ lacB ((linksL tops lows rows).getD i []) ((linksL tops lows rows).getD (i + 1) []) = true ∧ ((linksL tops lows rows).getD i []).length = tops.length - i ∧ (∀ x ∈ (linksL tops lows rows).getD i [], Bq 100 x) := by
  have e0 : (linksL tops lows rows).getD i [] = (tops :: rows).getD i [] := getD_app (by rw [List.length_cons]; exact hi)
  obtain ⟨ri, li, _⟩ := ch.each i (by omega)
  rw [e0]
  by_cases c : i + 1 ≤ rows.length
  · have e1 : (linksL tops lows rows).getD (i + 1) [] = (tops :: rows).getD (i + 1) [] := getD_app (by rw [List.length_cons]; omega)
    rw [e1]
    obtain ⟨r1, _, l1⟩ := ch.each (i + 1) c
    exact ⟨r1, lac_iff.mpr (l1 i (Nat.lt_succ_self i)), ri.len, ri.bq⟩
  · have ei : i + 1 = (tops :: rows).length := by rw [List.length_cons]; omega
    have e1 : (linksL tops lows rows).getD (i + 1) [] = lows := by
      rw [ei]
      exact getD_last
    rw [e1]
    have := rl.len
    exact ⟨⟨by omega, rl.srt, rl.bq⟩, lac_iff.mpr li, ri.len, ri.bq⟩
theorem rowsGet {K : PySem.W.Frag} {H : Hp} {zs : List V} {rows : List (List Rat)} {i : Nat} (h : DpTAll K H zs (rows.map rowQ)) (l : i < rows.length) : ∃ v, zs[i]? = some v ∧ DpT K H v (rowQ (rows.getD i [])) :=
  dtAll_get h (by rw [List.getElem?_map, List.getD_eq_getElem?_getD, List.getElem?_eq_getElem l]; rfl)
section
variable {mg : Str → Option Value} {base : Heap} {K : PySem.W.Frag} {P : Program} {w : World}
abbrev s__law_are_between : Stmt := topS 41
abbrev N__law_are_between : List Str := ["told", "tops", "lows", "chain", "at"]
theorem sc__law_are_between : FnScope N__law_are_between ["told", "tops", "lows"] (defScope s__law_are_between) := ⟨rfl, rfl, rfl, by decide +kernel, rfl, by decide +kernel, by decide +kernel⟩
def spAreBetween (K : PySem.W.Frag) : Sp := fun vs H Q _ => ∃ (u v w : V) (tops lows : List Rat) (rows : List (List Rat)), vs = [u, v, w] ∧ DpT K H u (rowsQ rows) ∧ TwoR K H v w tops lows ∧ Ch tops lows rows ∧ rows.length + lows.length + 1 = tops.length ∧ ∀ H', Same H H' → Q (.bl true) H'
theorem ok_are_between (T : Gs K mg) (D__law_are_tops : Df P w K mg base "_law_are_tops" 6 ["thing", "wide"] (spAreTops K)) (D__law_is_laced : Df P w K mg base "_law_is_laced" 2 ["tops", "lows"] (spLLaced K)) (F : At K mg "_law_are_between" s__law_are_between) :
    Df P w K mg base "_law_are_between" 7 ["told", "tops", "lows"] (spAreBetween K) := by
  have sc := sc__law_are_between
  refine Df.mk' F sc (fun vs H Q E h => ?_) (fun _ _ _ _ _ _ us hl => match us, hl with | [_, _, _], _ => rfl) (fun f cdv A outer s H vs Q E hr h => ?_)
  · obtain ⟨u, v, w, tops, lows, rows, rfl, _⟩ := h
    rfl
  · obtain ⟨u, v, w', tops, lows, rows, rfl, hu, tw, ch, ln, q⟩ := h
    obtain ⟨pt, ts, rfl, hpt, hC⟩ := dtTupQ hu
    obtain ⟨p, xs, rfl, hp, hA⟩ := dtTupQ tw.dt
    obtain ⟨p', ys, rfl, hp', hB⟩ := dtTupQ tw.dl
    have lx : xs.length = tops.length := by rw [dtAll_len hA, List.length_map]
    have ly : ys.length = lows.length := by rw [dtAll_len hB, List.length_map]
    have lt : ts.length = rows.length := by rw [dtAll_len hC, List.length_map]
    have l6 := tw.l6
    have l1 := tw.l1
    refine ⟨_, (pss_cons (ps_if (PW.pt (pw_or (pt_not (pt_val (pe_callB call_isi (by rfl) T.isinstance (by decide +kernel) (pa_cons (pv 0) (pa_cons (pe_bltn (v := .ty "tuple") (by rfl) T.tuple_ (by decide +kernel) rfl) pa_nil))))) (pw_or1 (pt_cmpR op_ne (pe_callB call_len_seq (by rfl) T.len PySem.boot_len (pa_cons (pv 0) pa_nil)) (pe_op op_sub (pe_op op_sub (pe_callB call_len_seq (by rfl) T.len PySem.boot_len (pa_cons (pv 1) pa_nil)) (pe_callB call_len_seq (by rfl) T.len PySem.boot_len (pa_cons (pv 2) pa_nil))) pe_int) (nomark _))))) (pss_one (ps_ret pe_bl)) pss_nil) (pss_cons (ps_set (i := 3) sc.nd rfl (.inl rfl) (pe_op op_catQ (pe_op op_catQ (pe_tup (pa_cons (pv 1) pa_nil)) (pv 0)) (pe_tup (pa_cons (pv 2) pa_nil)))) (pss_cons (ps_for PassesOwn.never rfl (pi_range2 rfl T.range (pa_cons pe_int (pa_cons (pe_callB call_len_seq (by rfl) T.len PySem.boot_len (pa_cons (pv 3) pa_nil)) pa_nil))) (pg_name (i := 4) sc.nd rfl (.inl rfl)) (pss_one (ps_if (PW.pt (pw_or (pt_not (pt_val (pe_fn D__law_are_tops (by decide) hr (pa_cons (pe_ix ix_tup (pv 3) (pv 4) (fun _ _ => rfl)) (pa_cons (pe_op op_sub (pe_callB call_len_seq (by rfl) T.len PySem.boot_len (pa_cons (pv 1) pa_nil)) (pv 4)) pa_nil))))) (pw_or1 (pt_not (pt_val (pe_fn D__law_is_laced (by decide) hr (pa_cons (pe_ix ix_tup (pv 3) (pe_op op_sub (pv 4) pe_int) (fun _ _ => rfl)) (pa_cons (pe_ix ix_tup (pv 3) (pv 4) (fun _ _ => rfl)) pa_nil)))))))) (pss_one (ps_ret pe_bl)) pss_nil))) (pss_one (ps_ret pe_bl))))), ?_⟩
    refine ⟨_, rfl, _, _, _, _, _, rfl, .ty _, tyT hpt, rfl, _, rfl, ifF rfl ?_⟩
    refine ⟨_, rfl, _, _, rfl, .inr hpt, _, rfl, _, _, rfl, .inr hp, _, rfl, _, _, rfl, .inr hp', _, _, rfl, rfl, _, _, rfl, rfl, rfl, _, rfl, ifF ?_ ?_⟩
    · rw [lt, lx, ly]
      simp
      omega
    refine ⟨_, rfl, by show 1 ≤ sizeLine; decide, fun p1 h1 => ?_⟩
    obtain ⟨H1, e1, s1, a1⟩ := mkP (o := .tup [.ref p]) h1
    rw [e1]
    refine ⟨_, rfl, [rowQ tops], rows.map rowQ, .tup (SqT.of a1) (.cons (DpT.keep (Same.kt s1) tw.dt) .nil), DpT.keep (Same.kt s1) hu, by rw [List.length_map, List.length_singleton]; omega, fun H2 v2 s2 d2 => ?_⟩
    refine ⟨_, rfl, by show 1 ≤ sizeLine; decide, fun p3 h3 => ?_⟩
    obtain ⟨H3, e3, s3, a3⟩ := mkP (o := .tup [.ref p']) h3
    rw [e3]
    have s13 := s1.trans (s2.trans s3)
    refine ⟨_, [rowQ lows], DpT.keep (Same.kt s3) d2, .tup (SqT.of a3) (.cons (DpT.keep (Same.kt s13) tw.dl) .nil), by rw [List.length_append, List.length_map, List.length_singleton, List.length_singleton]; omega, fun H4 v4 s4 d4 => ?_⟩
    have ed : [rowQ tops] ++ rows.map rowQ ++ [rowQ lows] = (linksL tops lows rows).map rowQ := by
      unfold linksL
      rw [List.map_append, List.map_cons]
      rfl
    rw [ed] at d4
    have s14 := s13.trans s4
    obtain ⟨pc, zs, rfl, hpc, hD⟩ := dtTupQ d4
    have ll : (linksL tops lows rows).length = rows.length + 2 := by
      unfold linksL
      rw [List.length_append, List.length_cons, List.length_singleton]
    have lz : zs.length = rows.length + 2 := by rw [dtAll_len hD, List.length_map, ll]
    have tw4 := tw.keep (Same.kt s14)
    have hp4 := sameT s14 hp
    refine ⟨_, rfl, _, _, rfl, .inr hpc, _, _, rfl, ⟨by decide, by decide, by omega, by omega⟩, for_range (lo := 1) (n := _) (fun i σ H' => ∃ (y : Option V), σ = [some (.ref pt), some (.ref p), some (.ref p'), some (.ref pc), y] ∧ Same H4 H') ⟨_, rfl, Same.refl _⟩ ?_ ?_⟩
    · rintro i σ H5 hi ⟨y, rfl, s5⟩
      have hi2 : i < rows.length + 1 := by omega
      obtain ⟨r1, lc, l0, b0⟩ := links_at ch tw.rl ln hi2
      obtain ⟨v0, hv0, d0⟩ := rowsGet (i := i) hD (by omega)
      obtain ⟨v1, hv1, d1⟩ := rowsGet (i := i + 1) hD (by omega)
      refine ⟨_, rfl, _, rfl, _, _, _, _, rfl, rfl, sameT s5 hpc, at_of (j := i + 1) (by omega) hv1, _, rfl, _, _, rfl, .inr (sameT s5 hp4), _, rfl, _, _, rfl, rfl, ?_⟩
      have en : ((xs.length : Int) - (1 + (i : Int))) = ((tops.length - (i + 1) : Nat) : Int) := by omega
      refine ⟨v1, tops.length - (i + 1), _, ?_, DpT.keep (Same.kt s5) d1, r1, by omega, by omega, fun H6 s6 => ?_⟩
      · show [v1, V.int ((xs.length : Int) - (1 + (i : Int)))] = _
        rw [en]
      · refine ⟨_, rfl, ifF rfl ?_⟩
        have s56 := s5.trans s6
        refine ⟨_, rfl, _, rfl, _, _, rfl, rfl, _, _, _, _, rfl, rfl, sameT s56 hpc, at_of (j := i) (by omega) hv0, _, rfl, _, rfl, _, _, _, _, rfl, rfl, sameT s56 hpc, at_of (j := i + 1) (by omega) hv1, ?_⟩
        refine ⟨_, _, _, _, rfl, ⟨DpT.keep (Same.kt s56) d0, DpT.keep (Same.kt s56) d1, fun x hx => (b0 x hx).mono (by decide), fun x hx => (r1.bq x hx).mono (by decide), by omega, by rw [l0, r1.len]; omega⟩, fun H7 s7 => ?_⟩
        rw [lc]
        exact ⟨_, rfl, ifF rfl ⟨_, rfl, s56.trans s7⟩⟩
    · rintro σ H5 ⟨y, rfl, s5⟩
      exact q _ (s14.trans s5)
end
end V3
set_option maxHeartbeats 16000000
namespace V3
open PySem.Spec PySem L2 PyProof.Rows RZ GxR
/-- all but the well and the table stands -/
def But2 (a P : Addr) (H H' : Hp) : Prop := ∀ b o, b ≠ a → b ≠ P → H b = some o → H' b = some o
theorem But2.trans {a P : Addr} {H H1 H2 : Hp} (x : But2 a P H H1) (y : But2 a P H1 H2) : But2 a P H H2 := fun b o h1 h2 e => y b o h1 h2 (x b o h1 h2 e)
theorem But.w2 {a P : Addr} {H H' : Hp} (x : But a H H') : But2 a P H H' := fun b o h1 _ e => x b o h1 e
theorem But.t2 {a P : Addr} {H H' : Hp} (x : But P H H') : But2 a P H H' := fun b o _ h2 e => x b o h2 e
theorem Same.b2 {a P : Addr} {H H' : Hp} (x : Same H H') : But2 a P H H' := fun b o _ _ e => x b o e
theorem tabW {P a : Addr} {k : Nat} {H H' : Hp} (t : TabG H P) (h : But a H H') (hW : Well H a k) : TabG H' P := by
  obtain ⟨ps, hp, tr⟩ := t
  obtain ⟨xs, e⟩ := hW.lst
  exact ⟨ps, h _ _ (fun z => by rw [z, e] at hp; cases hp) hp, tr⟩
theorem wellT {P a : Addr} {k : Nat} {H H' : Hp} (hW : Well H a k) (h : But P H H') (t : TabG H P) : Well H' a k := by
  obtain ⟨x, y, z, e, r⟩ := hW
  obtain ⟨ps, hp, tr⟩ := t
  exact ⟨x, y, z, h _ _ (fun z => by rw [z, hp] at e; cases e) e, r⟩
section
variable {mg : Str → Option Value} {base : Heap} {K : PySem.W.Frag} {P : Program} {w : World}
abbrev spIsL (K : PySem.W.Frag) (Pt : Addr) : Sp := fun vs H Q _ => ∃ (v w : V) (tops lows : List Rat), vs = [v, w] ∧ TwoR K H v w tops lows ∧ TabG H Pt ∧ ∀ H', But Pt H H' → TabG H' Pt → Q (.bl (lacB tops lows)) H'
abbrev s__law_right : Stmt := topS 42
abbrev N__law_right : List Str := ["well", "wide", "tops", "lows", "due", "high", "deep", "chain", "again", "each"]
theorem sc__law_right : FnScope N__law_right ["well"] (defScope s__law_right) := ⟨rfl, rfl, rfl, by decide +kernel, rfl, by decide +kernel, by decide +kernel⟩
def spRight (Pt : Addr) : Sp := fun vs H Q _ => ∃ a : Addr, vs = [.ref a] ∧ Well H a 0 ∧ TabG H Pt ∧ ∀ H', But2 a Pt H H' → TabG H' Pt → Q (.bl true) H'
theorem ok_right (T : Gs K mg) {Pt : Addr} (D__law_draw : Df P w K mg base "_law_draw" 1 ["well", "limit"] spDraw) (D__law_tops : Df P w K mg base "_law_tops" 3 ["well", "wide"] (spTops K)) (D__law_lows : Df P w K mg base "_law_lows" 4 ["well", "tops", "many_lows"] (spLows K))
    (D__law_shaken : Df P w K mg base "_law_shaken" 3 ["well", "some"] (spShaken K)) (D__law_is_laced : Df P w K mg base "_law_is_laced" 2 ["tops", "lows"] (spLLaced K)) (D__law_opposite : Df P w K mg base "_law_opposite" 1 ["some"] (spOpp K))
    (D__law_same : Df P w K mg base "_law_same" 3 ["told", "due"] (spSame K 2)) (D_is_laced : Df P w K mg base "is_laced" 6 ["roots", "others"] (spIsL K Pt)) (DK_is_laced : DfK P w K mg base "is_laced" 6 "roots" "others" (spIsL K Pt))
    (D_rows_between : Df P w K mg base "rows_between" 6 ["roots", "others"] (spBetween K Pt)) (DK_rows_between : DfK P w K mg base "rows_between" 6 "roots" "others" (spBetween K Pt)) (D__law_are_between : Df P w K mg base "_law_are_between" 7 ["told", "tops", "lows"] (spAreBetween K))
    (F : At K mg "_law_right" s__law_right) : Df P w K mg base "_law_right" 8 ["well"] (spRight Pt) := by
  have sc := sc__law_right
  refine Df.mk' F sc (fun vs H Q E h => ?_) (fun _ _ _ _ _ _ us hl => match us, hl with | [_], _ => rfl) (fun f cdv A outer s H vs Q E hr h => ?_)
  · obtain ⟨a, rfl, _⟩ := h
    rfl
  · obtain ⟨a, rfl, hw, tab, q⟩ := h
    refine ⟨_, (pss_cons (ps_set (i := 1) sc.nd rfl (.inl rfl) (pe_op op_add pe_int (pe_fn D__law_draw (by decide) hr (pa_cons (pv 0) (pa_cons pe_int pa_nil))))) (pss_cons (ps_set (i := 2) sc.nd rfl (.inr rfl) (pe_fn D__law_tops (by decide) hr (pa_cons (pv 0) (pa_cons (pv 1) pa_nil)))) (pss_cons (ps_set (i := 3) sc.nd rfl (.inr rfl) (pe_fn D__law_lows (by decide) hr (pa_cons (pv 0) (pa_cons (pv 2) (pa_cons (pe_op op_add pe_int (pe_fn D__law_draw (by decide) hr (pa_cons (pv 0) (pa_cons (pe_op op_sub (pv 1) pe_int) pa_nil)))) pa_nil))))) (pss_cons (ps_if (pt_cmpR op_eq (pe_fn D__law_draw (by decide) hr (pa_cons (pv 0) (pa_cons pe_int pa_nil))) pe_int (nomark _)) (pss_one (ps_set (i := 3) sc.nd rfl (.inr rfl) (pe_fn D__law_shaken (by decide) hr (pa_cons (pv 0) (pa_cons (pv 3) pa_nil))))) pss_nil) (pss_cons (ps_par3 (i := 4) (j := 5) (l := 6) rfl sc.nd rfl rfl rfl (by decide) (by decide) (by decide) rfl rfl rfl (pa_cons (pe_fn D__law_is_laced (by decide) hr (pa_cons (pv 2) (pa_cons (pv 3) pa_nil))) (pa_cons (pe_fn D__law_opposite (by decide) hr (pa_cons (pv 2) pa_nil)) (pa_cons (pe_fn D__law_opposite (by decide) hr (pa_cons (pv 3) pa_nil)) pa_nil))) (by rfl)) (pss_cons (ps_if (pt_not (pt_val (pe_fn D__law_same (by decide) hr (pa_cons (pe_lst (pa_cons (pe_fn D_is_laced (by decide) hr (pa_cons (pv 2) (pa_cons (pv 3) pa_nil))) (pa_cons (pe_fnK DK_is_laced (by decide) hr (pk_cons (pv 3) (pk_cons (pv 2) pk_nil))) (pa_cons (pe_fn D_is_laced (by decide) hr (pa_cons (pv 5) (pa_cons (pv 6) pa_nil))) pa_nil)))) (pa_cons (pe_op op_rep (pe_lst (pa_cons (pv 4) pa_nil)) pe_int) pa_nil))))) (pss_one (ps_ret pe_bl)) pss_nil) (pss_cons (ps_par (i := 7) (j := 8) rfl sc.nd rfl rfl (by decide) rfl rfl (pa_cons (pe_fn D_rows_between (by decide) hr (pa_cons (pv 2) (pa_cons (pv 3) pa_nil))) (pa_cons (pe_fnK DK_rows_between (by decide) hr (pk_cons (pv 6) (pk_cons (pv 5) pk_nil))) pa_nil)) (by rfl)) (pss_cons (ps_if (pt_not (pt_val (pv 4))) (pss_one (ps_ret (pe_and (pe_cmpR op_isN (pv 7) pe_non (nomark _)) (pe_one (pe_cmpR op_isN (pv 8) pe_non (nomark _)))))) pss_nil) (pss_cons (ps_if (PW.pt (pw_or (pt_not (pt_val (pe_fn D__law_are_between (by decide) hr (pa_cons (pv 7) (pa_cons (pv 2) (pa_cons (pv 3) pa_nil)))))) (pw_or1 (pt_not (pt_val (pe_fn D__law_are_between (by decide) hr (pa_cons (pv 8) (pa_cons (pv 5) (pa_cons (pv 6) pa_nil))))))))) (pss_one (ps_ret pe_bl)) pss_nil) (pss_one (ps_ret (pe_cmpR (op_eqD hr.units) (pe_lc (own := [("each", 9)]) (g := gName 9) rfl sc.nd (pi_tup (pv 7)) (blkOk_by (own := [("each", 9)]) (N := N__law_right) (sc := defScope s__law_right) (by decide +kernel)) (fun _ _ _ _ _ => (pg_name (i := 9) sc.nd rfl (.inl rfl))) (fun _ _ _ _ _ => (pts_one (PW.pt (pw_or (pt_cmpR op_notBl (pe_fn D_is_laced (by decide) hr (pa_cons (pv 2) (pa_cons (pv 9) pa_nil))) pe_bl (nomark _)) (pw_or1 (pt_cmpR op_notBl (pe_fn D_is_laced (by decide) hr (pa_cons (pv 9) (pa_cons (pv 3) pa_nil))) pe_bl (nomark _))))))) (fun _ _ _ _ _ => (pv 9))) (pe_lst pa_nil) (nomark _))))))))))))), ?_⟩
    refine ⟨_, rfl, a, _, 0, rfl, hw, by omega, by decide, by decide, fun H1 d1 b1 w1 d10 d1l => ?_⟩
    obtain ⟨e, rfl⟩ : ∃ e : Nat, d1 = (e : Int) := ⟨d1.toNat, by omega⟩
    refine ⟨_, _, rfl, rfl, ?_⟩
    refine ⟨_, rfl, _, rfl, a, 2 + e, 1, by rw [Int.natCast_add]; rfl, w1, by omega, by omega, fun H2 vt qs b2 w2 dt rt bt => ?_⟩
    have ln := rt.len
    refine ⟨_, rfl, _, rfl, _, rfl, _, rfl, _, _, rfl, rfl, a, _, 1 + 24, rfl, w2, by omega, by omega, by omega, fun H3 d3 b3 w3 d30 d3l => ?_⟩
    obtain ⟨m1, rfl⟩ : ∃ e : Nat, d3 = (e : Int) := ⟨d3.toNat, by omega⟩
    refine ⟨_, _, rfl, rfl, ?_⟩
    have dt3 := DpT.keep (b3.ktW w2) dt
    refine ⟨a, vt, qs, 1 + m1, _, by rw [Int.natCast_add]; rfl, w3, by omega, dt3, bt, by omega, by omega, fun H4 v6 ls6 b4 w4 dl6 rl6 bl => ?_⟩
    have tab1 := tabW (P := Pt) tab b1 hw
    have tab2 := tabW (P := Pt) tab1 b2 w1
    have tab3 := tabW (P := Pt) tab2 b3 w2
    have tab4 := tabW (P := Pt) tab3 b4 w3
    have dt4 := DpT.keep (b4.ktW w3) dt3
    have l1 := rl6.len
    refine ⟨_, rfl, a, _, _, rfl, w4, by omega, by decide, by decide, fun H6 d6 b6 w6 d60 d6l => ?_⟩
    have tab6 := tabW (P := Pt) tab4 b6 w4
    have dt6 := DpT.keep (b6.ktW w4) dt4
    have dl6 := DpT.keep (b6.ktW w4) dl6
    have hb : But2 a Pt H H6 := (((b1.w2.trans b2.w2).trans b3.w2).trans b4.w2).trans b6.w2
    have hw6 := w6.mono (l := 100) (by omega)
    refine ⟨rfl, _, rfl, if2 (fun ee => ?a) (fun ee => ?b)⟩
    case' a =>
      refine ⟨_, rfl, _, rfl, a, v6, ls6, _, rfl, w6, by omega, dl6, bl, by omega, by omega, fun H7 v7 ls7 b7 w7 dl7 rl7 => ?_⟩
      have tab6 := tabW (P := Pt) tab6 b7 w6
      have dt6 := DpT.keep (b7.ktW w6) dt6
      have dl6 := dl7
      rw [rl6.len] at rl7
      have rl6 := rl7
      have hb := hb.trans b7.w2
      have hw6 := w7.mono (l := 100) (by omega)
      clear b7 w7 dl7 rl7
    all_goals
      have tr : TwoR K _ vt _ qs _ := ⟨dt6, dl6, ⟨rfl, rt.srt, rt.bq⟩, ⟨rfl, rl6.srt, rl6.bq⟩, by omega, by rw [rl6.len]; omega, by rw [rl6.len]; omega⟩
      refine ⟨_, rfl, _, rfl, _, _, _, _, rfl, tr.two, fun H7 s7 => ?_⟩
      have tr7 := tr.keep (Same.kt s7)
      refine ⟨_, rfl, _, _, rfl, tr7.dt, tr.l6, fun H8 hv s8 dh => ?_⟩
      have tr8 := tr7.keep (Same.kt s8)
      refine ⟨_, rfl, _, _, rfl, tr8.dl, by rw [rl6.len]; omega, fun H9 dv s9 dd => ?_⟩
      have tr9 := tr8.keep (Same.kt s9)
      have tro : TwoR K H9 hv dv _ _ := ⟨DpT.keep (Same.kt s9) dh, dd, (⟨by rw [oppQ_len], (tr.rt.opp).srt, (tr.rt.opp).bq⟩ : Rw (oppQ qs).length (oppQ qs)), ⟨rfl, (tr.rl.opp).srt, (tr.rl.opp).bq⟩, by rw [oppQ_len]; exact tr.l6, by rw [oppQ_len]; exact tr.l1, by rw [oppQ_len, oppQ_len]; exact tr.lt⟩
      have s79 := s7.trans (s8.trans s9)
      have tab9 := TabG.sameG (P := Pt) tab6 s79
      have hb9 := hb.trans (Same.b2 (a := a) (P := Pt) s79)
      have hlo := lac_opp (Nat.le_of_lt tr.lt)
      refine ⟨_, _, _, rfl, ?_⟩
      refine ⟨_, rfl, _, rfl, _, _, _, _, rfl, tr9, tab9, fun H10 b10 t10 => ?_⟩
      have kt10 := But.kt b10 tab9
      refine ⟨_, rfl, _, rfl, _, _, _, _, rfl, tr9.keep kt10, t10, fun H11 b11 t11 => ?_⟩
      have kt11 := kt10.trans (But.kt b11 t10)
      refine ⟨_, rfl, _, rfl, _, _, _, _, rfl, tro.keep kt11, t11, fun H12 b12 t12 => ?_⟩
      have kt12 := kt11.trans (But.kt b12 t11)
      have hb12 := hb9.trans ((But.t2 b10).trans ((But.t2 b11).trans (But.t2 (a := a) b12)))
      rw [hlo]
      generalize hB : lacB qs _ = B
      refine ⟨by show 3 ≤ sizeLine; decide, fun pa hpa => ?_⟩
      obtain ⟨H13, e13, s13, a13⟩ := mkP (o := .lst [.bl B, .bl B, .bl B]) hpa
      rw [e13]
      refine ⟨_, rfl, by show 1 ≤ sizeLine; decide, fun pb hpb => ?_⟩
      obtain ⟨H14, e14, s14, a14⟩ := mkP (o := .lst [.bl B]) hpb
      rw [e14]
      refine ⟨pb, 3, _, rfl, rfl, a14, by decide, by decide, by show 3 ≤ sizeLine; decide, fun pc hpc => ?_⟩
      obtain ⟨H15, e15, s15, a15⟩ := mkP (o := .lst [.bl B, .bl B, .bl B]) hpc
      have e15' : upd H14 pc (.lst (List.replicate (3 : Int).toNat [V.bl B]).flatten) = H15 := e15
      rw [e15']
      refine ⟨.ref pa, .ref pc, .list [.bool B, .bool B, .bool B], rfl, .lst (SqL.of ((s14.trans s15) _ _ a13)) (.cons (.bl B) (.cons (.bl B) (.cons (.bl B) .nil))), .lst (SqL.of a15) (.cons (.bl B) (.cons (.bl B) (.cons (.bl B) .nil))), .lst (by show 3 ≤ 1000; decide) (fun d hd => ?_), fun H16 s16 => ⟨_, rfl, ifF rfl ?_⟩⟩
      · simp only [List.mem_cons, List.not_mem_nil, or_false] at hd
        rcases hd with rfl | rfl | rfl <;> exact .bl _ _
      have s36 := s13.trans (s14.trans (s15.trans s16))
      have kt16 := kt12.trans (Same.kt s36)
      have t16 := TabG.sameG (P := Pt) t12 s36
      have hb16 := hb12.trans (Same.b2 (a := a) (P := Pt) s36)
      cases B with
      | false =>
        refine ⟨_, rfl, _, rfl, _, _, _, _, rfl, tr9.keep kt16, t16, fun c H17 b17 t17 => ?_, fun c => absurd (c.symm.trans hB) (by decide)⟩
        refine ⟨_, rfl, _, rfl, _, _, _, _, rfl, (tro.keep kt16).keep (But.kt b17 t16), t17, fun c2 H18 b18 t18 => ?_, fun c2 => absurd (c2.symm.trans (hlo.trans hB)) (by decide)⟩
        refine ⟨_, _, rfl, ?_⟩
        refine ⟨_, rfl, _, rfl, ifT rfl ?_⟩
        refine ⟨_, rfl, rfl, _, rfl, ifT (by simp) ?_⟩
        refine ⟨_, rfl, rfl, ?_⟩
        have := q H18 (hb16.trans ((But.t2 b17).trans (But.t2 (a := a) b18))) t18
        simpa using this
      | true =>
        refine ⟨_, rfl, _, rfl, _, _, _, _, rfl, tr9.keep kt16, t16, fun c => absurd (c.symm.trans hB) (by decide), fun c H17 vc rows b17 t17 dr ch lr => ?_⟩
        have kt17 := kt16.trans (But.kt b17 t16)
        refine ⟨_, rfl, _, rfl, _, _, _, _, rfl, tro.keep kt17, t17, fun c2 => absurd (c2.symm.trans (hlo.trans hB)) (by decide), fun c2 H18 vg rows2 b18 t18 dg ch2 lr2 => ?_⟩
        have kt18 := kt17.trans (But.kt b18 t17)
        have hb18 := hb16.trans ((But.t2 b17).trans (But.t2 (a := a) b18))
        have dr18 := DpT.keep (But.kt b18 t17) dr
        refine ⟨_, _, rfl, ?_⟩
        refine ⟨_, rfl, _, rfl, ifF rfl ?_⟩
        refine ⟨_, rfl, _, rfl, _, rfl, _, _, _, _, _, rows, rfl, dr18, tr9.keep kt18, ch, lr, fun H19 s19 => ⟨_, rfl, ifF rfl ?_⟩⟩
        have kt19 := kt18.trans (Same.kt s19)
        refine ⟨_, rfl, _, rfl, _, rfl, _, _, _, _, _, rows2, rfl, DpT.keep (Same.kt s19) dg, tro.keep kt19, ch2, lr2, fun H20 s20 => ⟨_, rfl, ifF rfl ?_⟩⟩
        have kt20 := kt19.trans (Same.kt s20)
        have tr20 := tr9.keep kt20
        have t20 := TabG.sameG (P := Pt) t18 (s19.trans s20)
        have hb20 := hb18.trans (Same.b2 (a := a) (P := Pt) (s19.trans s20))
        have dr20 := DpT.keep (Same.kt (s19.trans s20)) dr18
        obtain ⟨pr, zs, rfl, hpr, hZ⟩ := dtTupQ dr20
        have lz : zs.length = rows.length := by rw [dtAll_len hZ, List.length_map]
        refine ⟨_, rfl, pr, rfl, ⟨_, hpr⟩, fun D hD => lc_tup (K := K) (a := pr) (xs := zs) (fun i H' => But Pt H20 H' ∧ TabG H' Pt ∧ H' D = some (.lst [])) ⟨Same.but (same_upd hD), TabG.updN (P := Pt) t20 (TabG.ne (P := Pt) t20 hD), upd_same⟩ (fun i H' _ h => (But.kt h.1 t20).sqT hpr) ?_ ?_⟩
        · rintro i x H' hi ⟨bI, tI, hd⟩
          have il : i < rows.length := by
            (have := (List.getElem?_eq_some_iff.mp hi).1)
            omega
          obtain ⟨xv, hxv, dx⟩ := rowsGet hZ il
          rw [hi] at hxv
          cases hxv
          obtain ⟨ri, li, lj⟩ := ch.each (i + 1) (by omega)
          have eg : (qs :: rows).getD (i + 1) [] = rows.getD i [] := rfl
          rw [eg] at ri li lj
          have l0 : Lc qs (rows.getD i []) := lj 0 (by omega)
          have lri := ri.len
          have fw := ch.few
          have lt1 := tr.l1
          have nD : D ≠ Pt := TabG.ne (P := Pt) t20 hD
          have kI := But.kt bI t20
          have two1 : TwoR K H' vt x qs (rows.getD i []) := ⟨(tr20.keep kI).dt, DpT.keep kI dx, tr.rt, ⟨rfl, ri.srt, ri.bq⟩, tr.l6, by omega, by omega⟩
          refine ⟨rfl, ?_⟩
          refine ⟨_, rfl, _, rfl, _, _, _, _, rfl, two1, tI, fun H21 b21 t21 => ⟨_, _, rfl, rfl, _, rfl, ifF ?_ ?_⟩⟩
          · rw [lac_iff.mpr l0]
            rfl
          have kJ := kI.trans (But.kt b21 tI)
          have two2 : TwoR K H21 x _ (rows.getD i []) _ := ⟨DpT.keep kJ dx, (tr20.keep kJ).dl, ⟨rfl, ri.srt, ri.bq⟩, tr.rl, by omega, tr.l1, by omega⟩
          refine ⟨_, rfl, _, rfl, _, _, _, _, rfl, two2, t21, fun H22 b22 t22 => ⟨_, _, rfl, rfl, _, rfl, ifF ?_ ?_⟩⟩
          · rw [lac_iff.mpr li]
            rfl
          exact ⟨bI.trans (b21.trans b22), t22, b22 _ _ nD (b21 _ _ nD hd)⟩
        · rintro H' ⟨bI, tI, hd⟩
          refine ⟨by show 0 ≤ sizeLine; decide, fun e he => ?_⟩
          have s2 := same_upd (o := .lst []) he
          exact ⟨.list [], .list [], .lst (SqL.of (s2 _ _ hd)) .nil, .lst (SqL.of upd_same) .nil, rfl, rfl, q _ (hb20.trans ((But.t2 (a := a) bI).trans (Same.b2 s2))) (TabG.updN (P := Pt) tI (TabG.ne (P := Pt) tI he))⟩
end
end V3
set_option maxHeartbeats 8000000
namespace V3
open PySem.Spec PySem L2 PyProof.Rows RZ GxR
section
variable {mg : Str → Option Value} {base : Heap} {K : PySem.W.Frag} {P : Program} {w : World}
abbrev s_law : Stmt := topS 43
abbrev N_law : List Str := ["script", "turn"]
theorem sc_law : FnScope N_law ["script"] (defScope s_law) := ⟨rfl, rfl, rfl, by decide +kernel, rfl, by decide +kernel, by decide +kernel⟩
def spLaw (K : PySem.W.Frag) (Pt : Addr) : Sp := fun vs H Q _ => ∃ (la : Addr) (ks : List Int), vs = [.ref la] ∧ SqL K H la (ks.map V.int) ∧ TabG H Pt ∧ ∀ H1, Q (.bl true) H1
theorem ok_law (T : Gs K mg) {Pt : Addr} (D__law_well : Df P w K mg base "_law_well" 1 ["script", "turn", "start"] (spWell K)) (D__law_right : Df P w K mg base "_law_right" 8 ["well"] (spRight Pt)) (F : At K mg "law" s_law) : Df P w K mg base "law" 9 ["script"] (spLaw K Pt) := by
  have sc := sc_law
  refine Df.mk' F sc (fun vs H Q E h => ?_) (fun _ _ _ _ _ _ us hl => match us, hl with | [_], _ => rfl) (fun f cdv A outer s H vs Q E hr h => ?_)
  · obtain ⟨a, ns, rfl, _⟩ := h
    rfl
  · obtain ⟨a, ns, rfl, ha, tab, q⟩ := h
    refine ⟨_, (pss_one (ps_ret (pe_callB (cr_all rfl) (by rfl) T.all (by decide +kernel) (pa_cons (pe_lc (own := [("turn", 1)]) (g := gName 1) rfl sc.nd (pi_range1 rfl T.range (pa_cons (pe_callB (call_max2 rfl) (by rfl) T.max (by decide +kernel) (pa_cons pe_int (pa_cons (pe_callB (call_min2 rfl) (by rfl) T.min (by decide +kernel) (pa_cons (pe_callB call_len_seq (by rfl) T.len PySem.boot_len (pa_cons (pv 0) pa_nil)) (pa_cons pe_int pa_nil))) pa_nil))) pa_nil)) (blkOk_by (own := [("turn", 1)]) (N := N_law) (sc := defScope s_law) (by decide +kernel)) (fun _ _ _ _ _ => (pg_name (i := 1) sc.nd rfl (.inl rfl))) (fun _ _ _ _ _ => pts_nil) (fun _ _ _ _ _ => (pe_fn D__law_right (by decide) hr (pa_cons (pe_fn D__law_well (by decide) hr (pa_cons (pv 0) (pa_cons (pv 1) (pa_cons pe_int pa_nil)))) pa_nil)))) pa_nil)))), ?_⟩
    refine ⟨_, rfl, _, _, rfl, .inl ha, _, _, rfl, _, _, rfl, ?_⟩
    have bd : ∀ n : Int, (if (if n > 3 then 3 else n) > 1 then (if n > 3 then 3 else n) else 1) ≤ 3 ∧ 0 ≤ (if (if n > 3 then 3 else n) > 1 then (if n > 3 then 3 else n) else (1 : Int)) := fun n => by
      constructor <;> repeat' split <;> omega
    have bdn : ∀ n : Int, (if (if 3 < n then 3 else n) > 1 then (if 3 < n then 3 else n) else 1) ≤ 3 ∧ 0 ≤ (if (if 3 < n then 3 else n) > 1 then (if 3 < n then 3 else n) else (1 : Int)) := bd
    refine ⟨_, rfl, ?_, ?_, fun D hD => lc_range (lo := 0) (n := _) (fun i H' => But Pt H H' ∧ TabG H' Pt ∧ ∃ bs : List Bool, H' D = some (.lst (bs.map V.bl)) ∧ bs.length = i ∧ bs.all id = true)
      ⟨Same.but (same_upd hD), TabG.updN (P := Pt) tab (TabG.ne (P := Pt) tab hD), [], upd_same, rfl, rfl⟩ ?_ ?_⟩
    · split <;> omega
    · split <;> (try split) <;> omega
    · rintro i H1 hi ⟨b1, t1, bs, hbs, hbl, hba⟩
      have hi2 : i < 1000 := by
        revert hi
        split <;> (try split) <;> omega
      refine ⟨rfl, yesIf ?_⟩
      refine ⟨_, rfl, _, rfl, a, ns, i, 1012, by rw [Int.zero_add], b1.seq tab ha, fun H2 p s2 hp w2 => ?_⟩
      refine ⟨p, rfl, w2, TabG.sameG (P := Pt) t1 s2, fun H3 b3 t3 => ?_⟩
      have dp : D ≠ p := fun z => by rw [← z, hbs] at hp; cases hp
      have nD : D ≠ Pt := TabG.ne (P := Pt) tab hD
      have hbs3 := b3 _ _ dp nD (s2 _ _ hbs)
      have np : p ≠ Pt := TabG.ne (P := Pt) t1 hp
      refine ⟨_, hbs3, small1000 (by rw [List.length_map]; omega), ?_, TabG.updN (P := Pt) t3 nD, bs ++ [true], ?_, by rw [List.length_append, hbl]; rfl, by rw [List.all_append, hba]; rfl⟩
      · intro bb o nb e
        rw [upd_ne (ne_of_none e hD)]
        have e1 := b1 _ _ nb e
        exact b3 _ _ (ne_of_none e1 hp) nb (s2 _ _ e1)
      · rw [upd_same, List.map_append]
        rfl
    · rintro H1 ⟨b1, t1, bs, hbs, hbl, hba⟩
      refine ⟨D, bs, rfl, SqL.of hbs, ?_⟩
      rw [hba]
      exact q H1
end
end V3
set_option maxHeartbeats 0
namespace V3
open PySem PySem.Spec PyProof.Rows L2 RZ GxR
def loose0 : List Str := ["RootError", "InvalidRoots", "is_above", "MOST_ROOTS", "is_whole", "is_tuple_of", "is_fraction", "check_roots", "check_roots_of", "check_fewer", "is_laced", "are_laced", "rows_between", "row_under", "_law_well", "_law_draw", "_law_pick", "_law_cut", "_law_add", "_law_sub", "_law_mul", "_law_less", "_law_down", "_law_number", "_law_tops", "_law_between", "_law_same", "_law_is_whole", "_law_is_frac", "_law_are_fracs"]
def loose1 : List Str := ["_law_is_laced", "_law_are_tops", "_law_lows", "_law_shaken", "_law_opposite", "_law_are_between", "_law_right"]
def loose : List Str := loose0 ++ loose1
def dN (x : Str) (st : Stmt) : He.DefD := ⟨(x, none), x, x, defArgs st, defBody st, defScope st, [], []⟩
def fn0 : List He.DefD := [dN "is_above" (topS 5), dN "is_whole" (topS 8), dN "is_tuple_of" (topS 9), dN "is_fraction" (topS 10), dN "check_roots" (topS 11), dN "check_roots_of" (topS 12), dN "check_fewer" (topS 14), dN "is_laced" (topS 15), dN "are_laced" (topS 16), dN "rows_between" (topS 17), dN "row_under" (topS 18), dN "_law_well" (topS 20), dN "_law_draw" (topS 21), dN "_law_pick" (topS 22), dN "_law_cut" (topS 23), dN "_law_add" (topS 24), dN "_law_sub" (topS 25)]
def fa0 : List He.Fa := [.glo "is_above", .glo "is_whole", .glo "is_tuple_of", .glo "is_fraction", .glo "check_roots", .glo "check_roots_of", .glo "check_fewer", .glo "is_laced", .glo "are_laced", .glo "rows_between", .glo "row_under", .glo "_law_well", .glo "_law_draw", .glo "_law_pick", .glo "_law_cut", .glo "_law_add", .glo "_law_sub"]
def fn1 : List He.DefD := [dN "_law_mul" (topS 26), dN "_law_less" (topS 27), dN "_law_down" (topS 28), dN "_law_number" (topS 29), dN "_law_tops" (topS 30), dN "_law_between" (topS 31), dN "_law_same" (topS 32), dN "_law_is_whole" (topS 33), dN "_law_is_frac" (topS 34), dN "_law_are_fracs" (topS 35), dN "_law_is_laced" (topS 36), dN "_law_are_tops" (topS 37), dN "_law_lows" (topS 38), dN "_law_shaken" (topS 39), dN "_law_opposite" (topS 40), dN "_law_are_between" (topS 41), dN "_law_right" (topS 42), dN "law" (topS 43)]
def fa1 : List He.Fa := [.glo "_law_mul", .glo "_law_less", .glo "_law_down", .glo "_law_number", .glo "_law_tops", .glo "_law_between", .glo "_law_same", .glo "_law_is_whole", .glo "_law_is_frac", .glo "_law_are_fracs", .glo "_law_is_laced", .glo "_law_are_tops", .glo "_law_lows", .glo "_law_shaken", .glo "_law_opposite", .glo "_law_are_between", .glo "_law_right", .glo "law"]
def fa2 : List He.Fa := [.free "type", .free "int", .free "tuple", .free "list", .free "str", .free "bool", .free "len", .free "range", .free "abs", .free "isinstance", .free "all", .free "enumerate", .free "zip", .free "divmod", .free "max", .free "min", .int "MOST_ROOTS" 6]
def fnA : List He.DefD := fn0 ++ fn1
def faA : List He.Fa := fa0 ++ (fa1 ++ fa2)
def tfA : List He.Defn := [("are_laced", none)]
/-- a name of the module holds a pair of whole numbers -/
def pairIn (K : PySem.W.Frag) (p : Addr) (a b : Int) : Bool := (match K.lookup p with
  | some ⟨.type "tuple", _, .seq its _, _⟩ => (match its.toList with
    | [.int i _, .int j _] => decide (i = a) && decide (j = b)
    | _ => false)
  | _ => false)
def tupIn (K : PySem.W.Frag) (x : Str) (a b : Int) : Bool := (match PySem.W.nsIn K mainGlobals x with
  | some (some (.ref p)) => pairIn K p a b
  | _ => false)
theorem tupIn_ok {K : PySem.W.Frag} {x : Str} {a b : Int} (h : tupIn K x a b = true) : ∃ p, PySem.W.nsIn K mainGlobals x = some (some (.ref p)) ∧ ∀ H, SqT K H p [.int a, .int b] := by
  unfold tupIn at h
  split at h
  · rename_i p hp
    refine ⟨p, hp, fun H => ?_⟩
    unfold pairIn at h
    split at h
    · rename_i od its n osl hl
      split at h
      · rename_i i ti j tj hi
        obtain ⟨h1, h2⟩ := He.ba h
        have e1 : i = a := of_decide_eq_true h1
        have e2 : j = b := of_decide_eq_true h2
        subst e1 e2
        have hz : its.size = 2 := by
          have := congrArg List.length hi
          simpa using this
        refine .inr ⟨_, its, n, hl, rfl, rfl, by rw [hz]; show 2 ≤ sizeLine; decide, ?_⟩
        rw [hi]
        exact .cons ⟨ti, rfl⟩ (.cons ⟨tj, rfl⟩ .nil)
      · cases h
    · cases h
  · cases h
def exA (K : PySem.W.Frag) : Bool := (He.eqO (PySem.W.nsIn K mainGlobals "gcd") (some (some (.builtin "math.gcd"))) && true)
abbrev RR : PySem.W.OpenRow := PySem.W.OpenLaw.row PySem.Challenge.rw_rootsabove_k23_whole_laced_or_not_and_ro
abbrev hkR : PySem.W.Hook := He.hookX 4 faA fnA [] tfA exA
def obR (s : PySem.W.SharedT) : He.AlX := He.obsX 4 faA fnA [] tfA exA (HandSHeadRun.getT s)
theorem obR_eq (s : PySem.W.SharedT) : obR s = hkR.obs s.abs := He.obsX_eq (HandSHeadRun.getT_eq s)
abbrev qR : Program := PySem.W.view RR.prog [0, 43]
theorem runR (w : World) : HandSHeadRun.RunEqI RR qR hkR obR 20000 loose w := by
  delta HandSHeadRun.RunEqI
  kernel_rfl
end V3
namespace V3
open PySem PySem.Spec PyProof.Rows L2 RZ GxR
section
variable {w : World} {K : PySem.W.Frag} {h : Heap} {mg : Str → Option Value}
theorem atR (X : K.In h) (G : h.Ns mainGlobals mg) (c : He.SaysD faA fnA K) (i : Nat) (x : Str) (st : Stmt) (h1 : fnA[i]? = some (dN x st)) (h2 : faA[i]? = some (.glo x)) : At K mg x st := by
  obtain ⟨fd, F⟩ := c.def_ i (d := dN x st) h1
  have g := He.glo_ok X G (c.fact i (f := .glo x) h2)
  obtain ⟨oc, od, dV, kV, doc, pm, an, cdv, ct, osl, e, lk, cd, dv, kv⟩ := F.ex
  rcases dv with ⟨_, e2⟩ | ⟨e2, _⟩
  · subst e2
    exact ⟨⟨_, _, g, ⟨⟨oc, od, kV, doc, pm, an, cdv, ct, osl, e, lk, cd⟩, F.kp⟩⟩⟩
  · exact absurd rfl e2
theorem atCR (X : K.In h) (G : h.Ns mainGlobals mg) (c : He.SaysD faA fnA K) (i : Nat) (x : Str) (st : Stmt) (h1 : fnA[i]? = some (dN x st)) (h2 : faA[i]? = some (.glo x)) : AtC K mg x st (He.cT K (x, none)).1 := by
  obtain ⟨fd, F⟩ := c.def_ i (d := dN x st) h1
  have g := He.glo_ok X G (c.fact i (f := .glo x) h2)
  obtain ⟨oc, od, dV, kV, doc, pm, an, cdv, ct, osl, e, lk, cd, dv, kv⟩ := F.ex
  obtain ⟨cc, rfl⟩ := He.codeIn_ref cd
  have ec : He.codeOf K (x, none) = cc := He.codeOf_eq lk (by rw [e])
  rcases dv with ⟨_, e2⟩ | ⟨e2, _⟩
  · subst e2
    subst e
    have e3 : (He.cT K (x, none)).1 = cc := ec
    rw [e3]
    exact ⟨⟨_, oc, od, kV, doc, pm, an, ct, osl, g, lk, cd, F.kp⟩⟩
  · exact absurd rfl e2
theorem gsR (X : K.In h) (G : h.Ns mainGlobals mg) (c : He.SaysD faA fnA K) (ex : exA K = true) : Gs K mg := by
  obtain ⟨e1, _⟩ := He.ba ex
  refine ⟨PySem.W.mg_of X G (He.eqO_ok e1), He.int_ok X G (c.fact 51 (f := .int "MOST_ROOTS" 6) rfl), He.free_ok X G (c.fact 35 (f := .free "type") rfl), He.free_ok X G (c.fact 36 (f := .free "int") rfl), He.free_ok X G (c.fact 37 (f := .free "tuple") rfl), He.free_ok X G (c.fact 38 (f := .free "list") rfl), He.free_ok X G (c.fact 39 (f := .free "str") rfl), He.free_ok X G (c.fact 40 (f := .free "bool") rfl), He.free_ok X G (c.fact 41 (f := .free "len") rfl), He.free_ok X G (c.fact 42 (f := .free "range") rfl), He.free_ok X G (c.fact 43 (f := .free "abs") rfl), He.free_ok X G (c.fact 44 (f := .free "isinstance") rfl), He.free_ok X G (c.fact 45 (f := .free "all") rfl), He.free_ok X G (c.fact 46 (f := .free "enumerate") rfl), He.free_ok X G (c.fact 47 (f := .free "zip") rfl), He.free_ok X G (c.fact 48 (f := .free "divmod") rfl), He.free_ok X G (c.fact 49 (f := .free "max") rfl), He.free_ok X G (c.fact 50 (f := .free "min") rfl)⟩
end
theorem lawR {P : Program} {w : World} {K : PySem.W.Frag} {h base : Heap} {mg : Str → Option Value} (X : K.In h) (G : h.Ns mainGlobals mg) (c : He.SaysD faA fnA K) (ex : exA K = true)
    (TB : ∀ p ∈ tfA.map (He.cT K), TabB base mg p.1 p.2) : Df P w K mg base "law" 9 ["script"] (spLaw K (He.cT K ("are_laced", none)).2) := by
  have T := gsR X G c ex
  have TB1 : TabB base mg (He.cT K ("are_laced", none)).1 (He.cT K ("are_laced", none)).2 := TB _ List.mem_cons_self
  have d_is_above := ok_is_above (P := P) (w := w) (base := base) (K := K)  (atR X G c 0 "is_above" (topS 5) rfl rfl)
  have d_is_whole := ok_is_whole (P := P) (w := w) (base := base) (K := K) T (atR X G c 1 "is_whole" (topS 8) rfl rfl)
  have d_is_tuple_of := ok_is_tuple_of (P := P) (w := w) (base := base) (K := K) T (atR X G c 2 "is_tuple_of" (topS 9) rfl rfl)
  have d_is_fraction := ok_is_fraction (P := P) (w := w) (base := base) (K := K) T d_is_whole d_is_tuple_of (atR X G c 3 "is_fraction" (topS 10) rfl rfl)
  have d_check_roots_of := ok_check_roots_of (P := P) (w := w) (base := base) (K := K) T d_is_fraction d_is_above (atR X G c 5 "check_roots_of" (topS 12) rfl rfl)
  have d_check_roots := ok_check_roots (P := P) (w := w) (base := base) (K := K) T d_check_roots_of (atR X G c 4 "check_roots" (topS 11) rfl rfl)
  have d_check_fewer := ok_check_fewer (P := P) (w := w) (base := base) (K := K) T d_check_roots d_check_roots_of (atR X G c 6 "check_fewer" (topS 14) rfl rfl)
  have d_are_laced := ok_are_laced (P := P) (w := w) (base := base) (K := K) T TB1 d_is_above (atCR X G c 8 "are_laced" (topS 16) rfl rfl)
  have d_is_laced := ok_is_laced (P := P) (w := w) (base := base) (K := K) d_check_fewer d_are_laced (atR X G c 7 "is_laced" (topS 15) rfl rfl)
  have k_is_laced := d_is_laced.kw (atR X G c 7 "is_laced" (topS 15) rfl rfl) (fun _ _ _ _ _ _ _ _ => rfl)
  have d_row_under := ok_row_under (P := P) (w := w) (base := base) (K := K) T d_is_above (atR X G c 10 "row_under" (topS 18) rfl rfl)
  have d_rows_between := ok_rows_between (P := P) (w := w) (base := base) (K := K) T d_check_fewer d_are_laced d_row_under (atR X G c 9 "rows_between" (topS 17) rfl rfl)
  have k_rows_between := d_rows_between.kw (atR X G c 9 "rows_between" (topS 17) rfl rfl) (fun _ _ _ _ _ _ _ _ => rfl)
  have d__law_draw := ok_draw (P := P) (w := w) (base := base) (K := K) T (atR X G c 12 "_law_draw" (topS 21) rfl rfl)
  have d__law_well := ok_well (P := P) (w := w) (base := base) (K := K) T (atR X G c 11 "_law_well" (topS 20) rfl rfl)
  have d__law_pick := ok_pick (P := P) (w := w) (base := base) (K := K) T d__law_draw (atR X G c 13 "_law_pick" (topS 22) rfl rfl)
  have d__law_cut := ok_cut (P := P) (w := w) (base := base) (K := K) T (atR X G c 14 "_law_cut" (topS 23) rfl rfl)
  have d__law_add := ok_law_add (P := P) (w := w) (base := base) (K := K) d__law_cut (atR X G c 15 "_law_add" (topS 24) rfl rfl)
  have d__law_sub := ok_law_sub (P := P) (w := w) (base := base) (K := K) d__law_cut (atR X G c 16 "_law_sub" (topS 25) rfl rfl)
  have d__law_mul := ok_law_mul (P := P) (w := w) (base := base) (K := K) d__law_cut (atR X G c 17 "_law_mul" (topS 26) rfl rfl)
  have d__law_less := ok_law_less (P := P) (w := w) (base := base) (K := K)  (atR X G c 18 "_law_less" (topS 27) rfl rfl)
  have d__law_down := ok_down (P := P) (w := w) (base := base) (K := K) T d__law_less (atR X G c 19 "_law_down" (topS 28) rfl rfl)
  have d__law_number := ok_number (P := P) (w := w) (base := base) (K := K) T d__law_draw d__law_cut (atR X G c 20 "_law_number" (topS 29) rfl rfl)
  have d__law_tops := ok_tops (P := P) (w := w) (base := base) (K := K) T d__law_draw d__law_number d__law_down (atR X G c 21 "_law_tops" (topS 30) rfl rfl)
  have d__law_between := ok_lbetween (P := P) (w := w) (base := base) (K := K) T d__law_draw d__law_cut d__law_add d__law_sub d__law_mul (atR X G c 22 "_law_between" (topS 31) rfl rfl)
  have d__law_same : ∀ n : Nat, Df P w K mg base "_law_same" (n + 1) ["told", "due"] (spSame K n) := ok_same T (atR X G c 23 "_law_same" (topS 32) rfl rfl)
  have d__law_is_whole := ok_lwhole (P := P) (w := w) (base := base) (K := K) T (atR X G c 24 "_law_is_whole" (topS 33) rfl rfl)
  have d__law_is_frac := ok_lfrac (P := P) (w := w) (base := base) (K := K) T d__law_is_whole d__law_cut (d__law_same 2) (atR X G c 25 "_law_is_frac" (topS 34) rfl rfl)
  have d__law_are_fracs := ok_are_fracs (P := P) (w := w) (base := base) (K := K) T d__law_is_frac (atR X G c 26 "_law_are_fracs" (topS 35) rfl rfl)
  have d__law_is_laced := ok_llaced (P := P) (w := w) (base := base) (K := K) T d__law_less (atR X G c 27 "_law_is_laced" (topS 36) rfl rfl)
  have d__law_are_tops := ok_are_tops (P := P) (w := w) (base := base) (K := K) T d__law_are_fracs d__law_less (atR X G c 28 "_law_are_tops" (topS 37) rfl rfl)
  have d__law_lows := ok_lows (P := P) (w := w) (base := base) (K := K) T d__law_between d__law_down (atR X G c 29 "_law_lows" (topS 38) rfl rfl)
  have d__law_shaken := ok_shaken (P := P) (w := w) (base := base) (K := K) T d__law_draw d__law_pick d__law_number d__law_add d__law_down (atR X G c 30 "_law_shaken" (topS 39) rfl rfl)
  have d__law_opposite := ok_opp (P := P) (w := w) (base := base) (K := K) T (atR X G c 31 "_law_opposite" (topS 40) rfl rfl)
  have d__law_are_between := ok_are_between (P := P) (w := w) (base := base) (K := K) T d__law_are_tops d__law_is_laced (atR X G c 32 "_law_are_between" (topS 41) rfl rfl)
  have d__law_right := ok_right (P := P) (w := w) (base := base) (K := K) T d__law_draw d__law_tops d__law_lows d__law_shaken d__law_is_laced d__law_opposite (d__law_same 2) d_is_laced k_is_laced d_rows_between k_rows_between d__law_are_between (atR X G c 33 "_law_right" (topS 42) rfl rfl)
  exact ok_law T d__law_well d__law_right (atR X G c 34 "law" (topS 43) rfl rfl)
theorem factsR {w : World} {K : PySem.W.Frag} {h : Heap} {mg : Str → Option Value} {fa : Addr} (X : K.In h) (G : h.Ns mainGlobals mg) (hfa : mg ("law" : Str) = some (.ref fa)) (c : He.SaysX faA fnA [] tfA exA w h K) :
    LamX.LawAtS PySem.Challenge.rw_rootsabove_k23_whole_laced_or_not_and_ro w K CX0 9 63 "script" mg fa h := by
  have cd := c.t.d
  have aL := atR X G cd 34 "law" (topS 43) rfl rfl
  obtain ⟨f, fd, g, F⟩ := aL.ex
  rw [hfa] at g
  cases g
  obtain ⟨oc, od, kV, doc, pm, an, cdv, ct, osl, e, lk, _⟩ := id F.ex
  refine ⟨fd, tfA.map (He.cT K), spLaw K (He.cT K ("are_laced", none)).2, fun p hp => ?_, fun p hp => ?_, fun p hp => ?_, fun s u => ?_, fun H a ns hl _ hT hS => ?_, fun base kb gb TB => ?_⟩
  · obtain ⟨d, hd, rfl⟩ := List.mem_map.mp hp
    exact c.empty d hd
  · obtain ⟨d, hd, rfl⟩ := List.mem_map.mp hp
    exact c.out d hd
  · obtain ⟨d, hd, rfl⟩ := List.mem_map.mp hp
    exact PySem.W.codeHd_of_K X (c.hd d hd)
  · subst e
    exact .of_eq rfl
  · refine ⟨a, ns, rfl, hS, ⟨#[], hT _ List.mem_cons_self, ?_⟩, fun _ => rfl⟩
    exact trivial
  · obtain ⟨f', fd', g', kp, b, G', oc', od', osl', lk'⟩ := (lawR (P := PySem.Challenge.rw_rootsabove_k23_whole_laced_or_not_and_ro.prog) (w := w) (base := base) X G cd c.more (fun p hp => ⟨(TB p hp).code, (TB p hp).bm, (TB p hp).gP⟩)).ex
    rw [hfa] at g'
    cases g'
    rw [lk] at lk'
    cases lk'
    exact G'
end V3
open PySem.W PySem PyProof.Rows PySem.Calls
theorem PySem.Challenge.cw_rootsabove_k23_whole_laced_or_not_and_ro_holds : PySem.Challenge.rw_rootsabove_k23_whole_laced_or_not_and_ro.Holds := by
  w_on; o_law
  refine HandSHeadRun.head_imp (r := V3.RR) (q := V3.qR) (H := V3.hkR) (ob := V3.obR) (M := 20000) (loose := V3.loose) (d := HandSHeadRun.topDef V3.RR.prog 43) (kwd := []) V3.obR_eq V3.runR (by kernel_rfl) (by kernel_rfl) (by kernel_rfl) (by rfl) (by first | assumption | decide +kernel) (by decide +kernel) ⟨rfl, rfl, rfl, rfl, rfl, by decide +kernel⟩ ?hw ?hc
  case hw => w_witness2
  case hc =>
    refine LamX.walk_ofTsE (l := PySem.Challenge.rw_rootsabove_k23_whole_laced_or_not_and_ro) (n := 63) (k := 9) (x := "script") (CX := fun _ => L2.CX0) rfl (by decide) (by kernel_rfl) ⟨rfl, by decide, by decide⟩ ?F (fun _ _ _ _ _ z => z)
    intro w mg fa h Y G hmg0
    obtain ⟨K, KX, c⟩ := Y
    have hlaw : mg ("law" : PySem.Str) = some (.ref fa) := by
      have e : (HandSHeadRun.topDef V3.RR.prog 43).name = ("law" : PySem.Str) := by kernel_rfl
      rw [← e]
      exact hmg0
    exact ⟨K, KX, V3.factsR KX G hlaw c⟩
