import PyProof.Rows.All
import Wide.All
import OpenK.AllK
import Wide.FinOn
import PySem.Challenge.RW_rootsabove_k33_whole_spread_rows_decided
import HandS.ForMost
import HandS.Wide
import HandS.WideBits
import HandS.Gcd
import HandS.More
import HandS.IsInst
import HandS.Zip
import HandS.SortKw
import HandS.NoneIn
import HandS.Style
import KE.GoesEnum
import HandS.AnyAll
import HandS.Conv
import KE.KEqDeep
import HandS.Comp
import KE.KStateDown
import HandS.Defaults
import HandS.Head0
import HandS.Head1
import HandS.Head2
import HandS.Head3
import HandS.HeadEnd
import HandS.HeadHook1
import HandS.HeadHook2
import HandS.HeadHook3
import HandS.HeadHook4
import HandS.HeadWalk
import HandS.EndTab
import HandS.NestedK
set_option Elab.async false
set_option linter.all false
set_option maxRecDepth 100000
set_option maxHeartbeats 2100000
/-! Words of this verifier's own over the hand layer: data that lasts, a def by its name, enumerate of a tuple, lcm. -/
namespace V3
open PySem.Spec PySem L2 PyProof.Rows

/-! ### what stands, stands -/
theorem sameT {K : PySem.W.Frag} {H H' : Hp} {a : Addr} {xs : List V} (e : Same H H') (h : SqT K H a xs) : SqT K H' a xs := by
  (rcases h with (h | ⟨o, h⟩) | h)
  · exact .inl (.inl (e _ _ h))
  · (exact .inl (.inr ⟨o, e _ _ h⟩))
  · exact .inr h
theorem same_upd {o : HO} {p : Addr} {H : Hp} (new : H p = none) : Same H (upd H p o) := fun at_ it stood => by
  rw [upd_ne (ne_of_none stood new)]
  exact stood
mutual
theorem Dp.same {K : PySem.W.Frag} {H H' : Hp} (e : Same H H') : ∀ {v : V} {d : PyData}, Dp K H v d → Dp K H' v d
  | _, _, .non => .non
  | _, _, .bl b => .bl b
  | _, _, .int i => .int i
  | _, _, .str x => .str x
  | _, _, .lst h a => .lst (e.seq h) (DpAll.same e a)
  | _, _, .tup h a => .tup (sameT e h) (DpAll.same e a)
theorem DpAll.same {K : PySem.W.Frag} {H H' : Hp} (e : Same H H') : ∀ {vs : List V} {ds : List PyData}, DpAll K H vs ds → DpAll K H' vs ds
  | _, _, .nil => .nil
  | _, _, .cons a b => .cons (Dp.same e a) (DpAll.same e b)
end

/-! ### a def by its name -/
structure At (K : PySem.W.Frag) (mg : Str → Option Value) (x : Str) (st : Stmt) : Prop where
  ex : ∃ (f : Addr) (fd : FuncData), mg x = some (.ref f) ∧ Fun K x x st f fd
structure Df (P : Program) (w : World) (K : PySem.W.Frag) (mg : Str → Option Value) (base : Heap) (x : Str) (k : Nat) (ps : List Str) (sp : Sp) : Prop where
  ex : ∃ (f : Addr) (fd : FuncData), mg x = some (.ref f) ∧ PySem.W.keepIn K (.ref f) = true ∧ Binds K fd ps [] ∧ FnOk P w K mg base CX0 k f fd ps sp ∧ ∃ (oc : Value) (od : Option Addr) (osl : Array (Option Value)), K.lookup f = some ⟨oc, od, .func fd, osl⟩
def tFn (sp : Sp) (t : TA) : TE := fun σ H Q => t σ H fun vs H1 => sp vs H1 Q E0
section
variable {X : Cx}
theorem pe_fn {x : Str} {p pos : Pos} {e : Expr} {es : List Expr} {t : TA} {k k0 : Nat} {ps : List Str} {sp : Sp} (D : Df X.prog X.w X.K X.mg X.base x k ps sp) (hk : k ≤ k0) (hr : Room k0 X.A) (ha : PA X (e :: es) t)
    (hg : Gl X x := by rfl) (hdb : (x == ("__debug__" : Str)) = false := by decide) (he : starEach (e :: es) X.env = (false, eval e X.env) :: starEach es X.env := by rfl) (hpl : (backTo pos (starEach es X.env)).any (·.1) = false := by rfl) :
    PE X (.Call (.Name x p) (e :: es) [] pos) (tFn sp t) := by
  obtain ⟨f, fd, g, kp, b, G, _⟩ := D.ex
  have h := pe_call (pos := pos) (p := p) G (hr.mono hk) hg g kp b .nil pass0 ha hdb he hpl
  refine ⟨fun pins s σ H Q I q => h.run pins s σ H Q I ?_⟩
  show t σ H fun vs H1 => sp (vs ++ []) H1 Q E0
  have e0 : (fun vs H1 => sp (vs ++ []) H1 Q E0) = fun vs H1 => sp vs H1 Q E0 := by
    funext vs H1
    rw [List.append_nil]
  rw [e0]
  exact q
end
section
variable {mg : Str → Option Value} {base : Heap} {K : PySem.W.Frag} {P : Program} {w : World}
theorem Df.mk' {x : Str} {st : Stmt} {N ps : List Str} {k : Nat} {sp : Sp} (F : At K mg x st) (S : FnScope N ps (defScope st)) (len : ∀ vs H Q E, sp vs H Q E → vs.length = ps.length)
    (hb : ∀ (kV doc pm : Value) (an : Option Addr) (cdv ct : Value) (us : List Value), us.length = ps.length → bindArgs (PySem.W.fnOf x x (defArgs st) (defBody st) (defScope st) .none kV doc pm an cdv ct) ⟨us, []⟩ = pure (ps.zip us))
    (hbody : ∀ (f : Addr) (cdv : Value) (A : Around) (outer : List Env) (s : Shared) (H : Hp) (vs : List V) (Q : VK) (E : XK), Room k (A.deeper (envOfC x (defScope st) s.heap.objs.size f cdv)) → sp vs H Q E →
      ∃ t, PSs (cxOf CX0 P w K mg base N x (defScope st) f cdv A outer s H E).nox (defBody st) t ∧ t { nx := fun _ H' => Q .non H', rt := Q } (start N vs) H) : Df P w K mg base x (k + 1) ps sp := by
  obtain ⟨f, fd, g, F⟩ := F.ex
  refine ⟨f, fd, g, F.kp, F.binds hb, F.ok S len fun cdv A outer s H vs Q E hr h => hbody f cdv A outer s H vs Q E hr h, ?_⟩
  obtain ⟨oc, od, kV, doc, pm, an, cdv, ct, osl, e, lk, _⟩ := F.ex
  exact ⟨oc, od, osl, lk⟩
theorem Df.mono {x : Str} {ps : List Str} {j k : Nat} {sp : Sp} (D : Df P w K mg base x j ps sp) (h : j ≤ k) : Df P w K mg base x k ps sp := by
  obtain ⟨f, fd, g, kp, b, G, l⟩ := D.ex
  exact ⟨f, fd, g, kp, b, G.mono h, l⟩
theorem Df.imp {x : Str} {ps : List Str} {k : Nat} {sp sp' : Sp} (D : Df P w K mg base x k ps sp) (h : ∀ vs H Q E, sp' vs H Q E → sp vs H Q E) : Df P w K mg base x k ps sp' := by
  obtain ⟨f, fd, g, kp, b, G, l⟩ := D.ex
  exact ⟨f, fd, g, kp, b, G.imp h, l⟩
end

/-! ### two keywords, the last parameter first -/
structure DfK (P : Program) (w : World) (K : PySem.W.Frag) (mg : Str → Option Value) (base : Heap) (x : Str) (k : Nat) (p1 p2 : Str) (sp : Sp) : Prop where
  ex : ∃ (f : Addr) (fd : FuncData), mg x = some (.ref f) ∧ PySem.W.keepIn K (.ref f) = true ∧ KBinds K fd [p1, p2] [p2, p1] (fun us ws => us ++ us ++ us ++ ws.reverse) (fun us ws => us ++ us ++ us ++ ws.reverse) ∧ FnOk P w K mg base CX0 k f fd [p1, p2] sp
theorem Vals.rev : ∀ {zs : List V} {ws : List Value}, Vals zs ws → Vals zs.reverse ws.reverse := fun {zs ws} h => by
  induction h with
  | nil => exact .nil
  | cons a b ih =>
    (rw [List.reverse_cons, List.reverse_cons])
    exact ih.append (.cons a .nil)
theorem Df.kw {P : Program} {w : World} {K : PySem.W.Frag} {mg : Str → Option Value} {base : Heap} {x p1 p2 : Str} {st : Stmt} {k : Nat} {sp : Sp} (D : Df P w K mg base x k [p1, p2] sp) (F : At K mg x st)
    (hb : ∀ (kV doc pm : Value) (an : Option Addr) (cdv ct : Value) (u1 u2 : Value), bindArgs (PySem.W.fnOf x x (defArgs st) (defBody st) (defScope st) .none kV doc pm an cdv ct) ⟨[], [(p2, u2), (p1, u1)]⟩ = pure [(p1, u1), (p2, u2)]) : DfK P w K mg base x k p1 p2 sp := by
  obtain ⟨f, fd, g, kp, b, G, oc, od, osl, lk⟩ := D.ex
  obtain ⟨f', fd', g', F'⟩ := F.ex
  rw [g] at g'
  cases g'
  obtain ⟨oc', od', kV, doc, pm, an, cdv, ct, osl', e, lk', _⟩ := F'.ex
  rw [lk] at lk'
  cases lk'
  refine ⟨f, fd, g, kp, ⟨fun s us ws hk hl => ?_, fun r1 r2 => ((r1.append r1).append r1).append (Vals.rev r2)⟩, G⟩
  simp only [List.length_append, List.length_reverse, List.length_cons, List.length_nil] at hl
  have hu : us = [] := by
    cases us with
    | nil => rfl
    | cons a r =>
      simp only [List.length_cons] at hl
      omega
  subst hu
  match ws, hl with
  | [u2, u1], _ =>
    subst e
    exact .of_eq (hb kV doc pm an cdv ct u1 u2)
def tFnK (sp : Sp) (tk : TA) : TE := fun σ H Q => tk σ H fun zs H1 => sp zs.reverse H1 Q E0
theorem pe_fnK {X : Cx} {x p1 p2 : Str} {p pos : Pos} {kws : List Keyword} {tk : TA} {k k0 : Nat} {sp : Sp} (D : DfK X.prog X.w X.K X.mg X.base x k p1 p2 sp) (hk0 : k ≤ k0) (hr : Room k0 X.A) (hkw : PK X kws tk)
    (hg : Gl X x := by rfl) (hdb : (x == ("__debug__" : Str)) = false := by decide) (hall : (backToKw pos (keywordEach kws X.env)).all (·.1.isSome) = true := by rfl) (hks : (backToKw pos (keywordEach kws X.env)).filterMap (·.1) = [p2, p1] := by rfl)
    (plain : ((backTo pos (starEach [] X.env)).any (·.1) || (backToKw pos (keywordEach kws X.env)).any (·.1.isNone)) = false := by rfl) :
    PE X (.Call (.Name x p) [] kws pos) (tFnK sp tk) := by
  obtain ⟨f, fd, hm, hk, hb, F⟩ := D.ex
  (refine ⟨fun pins s σ H Q I h => ?_⟩)
  (refine wpAny_Call_Name_kw (ld_glob I hg hm ?_ hdb))
  refine PySem.W.callWith_KW0 (h₀ := X.base) I.ok.mod.kin hk hall (thn (hkw.run pos pins s σ H _ I h) fun ws s2 ⟨zs, H2, I2, rz, q2⟩ => ⟨I2.kIn, ?_⟩) plain
  rw [hks]
  exact run_fnk (us := []) (vs := []) F (hr.mono hk0) hb pass0 I2 .nil rz q2

/-! ### math.lcm -/
def rLcm : List V → Hp → VK → Prop := fun vs H Q => ∃ a b : Int, vs = [.int a, .int b] ∧ a.natAbs < 2 ^ 9000 ∧ b.natAbs < 2 ^ 9000 ∧ Q (.int ((Nat.lcm a.natAbs b.natAbs : Nat) : Int)) H
theorem lcm_log {a : Int} (h : a.natAbs < 2 ^ 9000) (c : Nat) (hc : c < 2 ^ 9000) : ¬ (max c a.natAbs).log2 / 30 + 1 > 450 := by
  have h1 : max c a.natAbs < 2 ^ 9000 := by omega
  have h2 := PySem.Flt.log2_lt_of (k := 9000) (by decide) h1
  omega
theorem cr_lcm {X : Cx} : CallR X (.builtin "math.lcm") rLcm := by
  (intro pins s σ H vs us Q I r h)
  obtain ⟨a, b, rfl, ha, hb, q⟩ := h
  (obtain ⟨t, u, rfl⟩ := Vals.int2 r)
  have hz : ((((Nat.lcm 1 a.natAbs).lcm b.natAbs : Nat) : Int)).natAbs.log2 < bitsLine := by
    rw [Nat.lcm_one_left]
    have h1 : a.natAbs.lcm b.natAbs ≤ a.natAbs * b.natAbs := by
      unfold Nat.lcm
      exact Nat.div_le_self _ _
    have h2 : a.natAbs * b.natAbs < 2 ^ 18000 := by
      rw [show (18000 : Nat) = 9000 + 9000 by rfl, Nat.pow_add]
      exact Nat.mul_lt_mul'' ha hb
    have h3 := PySem.Flt.log2_lt_of (k := 18000) (by decide) (Nat.lt_of_le_of_lt h1 h2)
    (have e : bitsLine = 134217728 := by decide)
    rw [Int.natAbs_natCast]
    omega
  have g := PySem.W.mg_run_lcm a t b u (lcm_log ha 1 (by exact Nat.one_lt_two_pow (by decide))) (lcm_log hb _ ha) hz
  have g2 := call_function_meets PySem.W.MGF.kind_lcm PySem.W.MGF.plain_lcm PySem.W.MGF.entry_lcm (PySem.W.MGF.args_lcm (.int a t) (.int b u)) g.meets (prog := X.prog) (w := X.w) (A := X.A) (E := X.xe) (s := s) (Q := EP X pins σ Q)
  refine g2 ⟨.int _, H, I.tok _, ⟨_, rfl⟩, ?_⟩
  rw [Nat.lcm_one_left]
  exact q
end V3
namespace V3
open PySem.Spec PySem L2 PyProof.Rows
theorem ifT {b : Bool} {A B : Prop} (h : b = true) (a : A) : if b = true then A else B := by
  rw [if_pos h]
  exact a
theorem ifF {b : Bool} {A B : Prop} (h : b = false) (a : B) : if b = true then A else B := by
  (rw [if_neg (by rw [h]; exact Bool.false_ne_true)])
  exact a
theorem if2 {b : Bool} {A B : Prop} (h1 : b = true → A) (h2 : b = false → B) : if b = true then A else B := by
  cases b with
  | true => exact iteT (h1 rfl)
  | false => exact iteF (h2 rfl)

/-! ### data -/
section
variable {K : PySem.W.Frag} {H : Hp}
theorem dpInt {v : V} {i : Int} (h : Dp K H v (.int i)) : v = .int i := by
  cases h
  rfl
theorem dpTup {v : V} {ds : List PyData} (h : Dp K H v (.tuple ds)) : ∃ p xs, v = .ref p ∧ SqT K H p xs ∧ DpAll K H xs ds := by
  cases h with
  | tup a b => exact ⟨_, _, rfl, a, b⟩
theorem dpLst {v : V} {ds : List PyData} (h : Dp K H v (.list ds)) : ∃ p xs, v = .ref p ∧ SqL K H p xs ∧ DpAll K H xs ds := by
  cases h with
  | lst a b => exact ⟨_, _, rfl, a, b⟩
theorem dpAll_len {vs : List V} {ds : List PyData} (h : DpAll K H vs ds) : vs.length = ds.length := by
  induction ds generalizing vs with
  | nil =>
    cases h
    rfl
  | cons d ds ih =>
    cases h with
    | cons a b => rw [List.length_cons, List.length_cons, ih b]
theorem dpAll_get {vs : List V} {ds : List PyData} {i : Nat} {d : PyData} (h : DpAll K H vs ds) (e : ds[i]? = some d) : ∃ v, vs[i]? = some v ∧ Dp K H v d := by
  induction ds generalizing vs i with
  | nil => simp at e
  | cons x ds ih =>
    cases h with
    | cons a b =>
      cases i with
      | zero =>
        have q : x = d := Option.some.inj e
        subst q
        exact ⟨_, rfl, a⟩
      | succ i =>
        have q := ih (i := i) b
        exact q e
theorem dpAll_getV {vs : List V} {ds : List PyData} {i : Nat} {v : V} (h : DpAll K H vs ds) (e : vs[i]? = some v) : ∃ d, ds[i]? = some d ∧ Dp K H v d := by
  induction ds generalizing vs i with
  | nil =>
    cases h
    simp at e
  | cons x ds ih =>
    cases h with
    | cons a b =>
      cases i with
      | zero =>
        have q := Option.some.inj e
        subst q
        exact ⟨_, rfl, a⟩
      | succ i =>
        have q := ih (i := i) b
        exact q e
theorem dpAll_app {vs ws : List V} {ds es : List PyData} (h : DpAll K H vs ds) (g : DpAll K H ws es) : DpAll K H (vs ++ ws) (ds ++ es) := by
  induction ds generalizing vs with
  | nil =>
    cases h
    exact g
  | cons x ds ih =>
    cases h with
    | cons a b => exact .cons a (ih b)
theorem dpAll_ints : ∀ (ns : List Int), DpAll K H (ns.map V.int) (ns.map PyData.int)
  | [] => .nil
  | n :: r => .cons (.int n) (dpAll_ints r)
theorem dpAll_intsV {vs : List V} {ns : List Int} (h : DpAll K H vs (ns.map PyData.int)) : vs = ns.map V.int := by
  induction ns generalizing vs with
  | nil =>
    cases h
    rfl
  | cons n r ih =>
    cases h with
    | cons a b =>
      rw [dpInt a, ih b]
      rfl
/-- a fraction, a row of them -/
def frD (q : Int × Int) : PyData := .tuple [.int q.1, .int q.2]
def rowD (qs : List (Int × Int)) : PyData := .tuple (qs.map frD)
theorem dpFr {v : V} {q : Int × Int} (h : Dp K H v (frD q)) : ∃ p, v = .ref p ∧ SqT K H p [.int q.1, .int q.2] := by
  obtain ⟨p, xs, rfl, hs, ha⟩ := dpTup h
  cases ha with
  | cons a b =>
    cases b with
    | cons c d =>
      cases d
      rw [dpInt a, dpInt c] at hs
      exact ⟨p, rfl, hs⟩
theorem mkFr {p : Addr} {a b : Int} (h : SqT K H p [.int a, .int b]) : Dp K H (.ref p) (frD (a, b)) := .tup h (.cons (.int a) (.cons (.int b) .nil))
theorem mkFrU {H' : Hp} {p : Addr} {q : Int × Int} (h : H' p = some (.tup [.int q.1, .int q.2])) : Dp K H' (.ref p) (frD q) := .tup (SqT.of h) (.cons (.int q.1) (.cons (.int q.2) .nil))
end

/-! ### enumerate of a tuple -/
set_option maxHeartbeats 4100000 in
theorem meets_enumerate_newB1 {v : Value} {o₀ : Obj} {H : Heap → Prop} (B : Begins v o₀ H) :
    Meets (Builtin.«enumerate.__new__» ⟨[.type "enumerate", v], []⟩) (fun _ R s => H s.heap ∧
      R (.ok (.ret (.ref (s.heap.push o₀).objs.size))) { s with heap := (s.heap.push o₀).push { cls := .type "enumerate", data := .fields #[.none, .bool false, .ref s.heap.objs.size, rawInt 0, .none, .none] } }) :=
  .of_wp fun prog w A R s h₀ => by
    obtain ⟨hp₀, g₀, d₀, tk₀, os₀⟩ := s; obtain ⟨h1₀, h₀⟩ := h₀
    have hsub₀ := sub_enumerate
    have q1₀ : ∀ {A' : Around} {E : Value → Shared → Prop} {Q : Value → Shared → Prop}, Q (.ref hp₀.objs.size) ⟨hp₀.push o₀, g₀, d₀, tk₀, os₀⟩ → wpAny (model prog w) A' (pyIter v) Q E ⟨hp₀, g₀, d₀, tk₀, os₀⟩ :=
      fun q₀ => B.iter prog w _ _ ⟨hp₀, g₀, d₀, tk₀, os₀⟩ _ h1₀ q₀
    wp_walk using q1₀
    refine wpAny_stack_any fun st₀ => wpAny_pure ?_
    split
    · rename_i c _ _ _ _ _
      (cases (c == Value.type "enumerate"))
      · wp_walk using q1₀
        exact ⟨_, rfl, h₀⟩
      · wp_walk using q1₀
        exact ⟨_, rfl, h₀⟩
    · wp_walk using q1₀
      exact ⟨_, rfl, h₀⟩
theorem call_enum_begins {prog : Program} {w : World} {A : Around} {E : Value → Shared → Prop} {s : Shared} {v : Value} {o₀ : Obj} {H : Heap → Prop} {Q : Value → Shared → Prop} (B : Begins v o₀ H) (h1₀ : H s.heap)
    (h₀ : ∀ h₀', IsEnum h₀' (s.heap.objs.size + 1) s.heap.objs.size 0 .none → h₀'.get? s.heap.objs.size = some o₀ → h₀'.objs.size = s.heap.objs.size + 2 →
      (∀ b₀ o₀, s.heap.get? b₀ = some o₀ → h₀'.get? b₀ = some o₀) → Q (.ref (s.heap.objs.size + 1)) { s with heap := h₀' }) :
    wpAny (model prog w) A (call (.type "enumerate") [v]) Q E s := by
  refine callType_new F.called_enumerate (by decide) (F.typeCall_enumerate_1 _) (F.newCall_enumerate_1 _) (fun thing => F.args_object_init_2 thing _) F.entry_enumerate_new
    (meets_enumerate_newB1 B) ⟨h1₀, ?_⟩
  have hz₀ : (s.heap.push o₀).objs.size = s.heap.objs.size + 1 := Heap.size_push ..
  show _ ∧ _
  rw [hz₀]
  have he₀ : IsEnum ((s.heap.push o₀).push { cls := .type "enumerate", data := .fields #[.none, .bool false, .ref s.heap.objs.size, rawInt 0, .none, .none] }) (s.heap.objs.size + 1) s.heap.objs.size 0 .none := by
    have := Heap.get?_push_size (s.heap.push o₀) (o := { cls := .type "enumerate", data := .fields #[.none, .bool false, .ref s.heap.objs.size, rawInt 0, .none, .none] }) rfl
    rw [hz₀] at this; exact this
  refine ⟨⟨_, he₀, rfl⟩, h₀ _ he₀ (Heap.get?_push_of_some _ (Heap.get?_push_size _ B.free)) (by rw [Heap.size_push, hz₀]) fun b₀ o₀ x => Heap.get?_push_of_some _ (Heap.get?_push_of_some _ x)⟩
/-- the tuple at a, each item in a new₀ pair -/
def IteT (K : PySem.W.Frag) (a : Addr) : It :=
  ⟨fun i H => ∃ (xs : List V) (x : V), SqT K H a xs ∧ xs[i]? = some x, fun i H v H' => ∃ T x, v = .ref T ∧ H T = none ∧ H' = upd H T (.tup [.int (i : Nat), x]) ∧ ∀ xs, SqT K H a xs → xs[i]? = some x, fun i H => ∃ xs : List V, SqT K H a xs ∧ xs.length ≤ i⟩
theorem turn_enumT {P : Program} {w : World} {K : PySem.W.Frag} {elts : List Expr} {kk : Nat} {tpos : Pos} (a e it : Addr) :
    Turn P w K (.Tuple elts kk tpos) (IteT K a) [e, it] e (fun i h₀ => (∃ old₀, IsEnum h₀ e it ((i : Nat) : Int) old₀) ∧ h₀.IsTupleIter it a i ∧ e ≠ it ∧ a ≠ it ∧ a ≠ e) where
  mem := by simp
  obj := fun i h₀ st₀ b₀ hb₀ => by
    obtain ⟨⟨old₀, he₀⟩, ⟨o₀, ho₀, hc₀, hd₀⟩, _⟩ := st₀
    have e₀' : b₀ = e ∨ b₀ = it := by simpa using hb₀
    rcases e₀' with z₀ | z₀
    · rw [z₀]; exact ⟨_, he₀, fun v q₀ => nomatch q₀⟩
    · rw [z₀]; exact ⟨o₀, ho₀, fun v q₀ => by rw [hd₀] at q₀; cases q₀⟩
  keep := fun i h₀ h₀' st₀ k => let ⟨⟨old₀, he₀⟩, hi₀, hne₀⟩ := st₀; ⟨⟨old₀, k e (by simp) _ he₀⟩, hi₀.at fun o₀ q₀ => k it (by simp) o₀ q₀, hne₀⟩
  item := by
    intro X hP hw hK hc₀ i pins₀ s σ₀ H E I hf₀ st₀ hg₀
    subst hP hw hK
    obtain ⟨⟨old₀, he₀⟩, hit₀, hne₀, hai₀, hae₀⟩ := st₀
    obtain ⟨xs, x, hq₀, hx₀⟩ := hg₀
    obtain ⟨its₀, rv₀, p₀, hz₀⟩ := I.tuple hq₀
    obtain ⟨u₀, hu₀, ru₀⟩ := rv₀.get hx₀
    have hel₀ : e < s.heap.objs.size := Heap.lt_size he₀
    have hil₀ : it < s.heap.objs.size := by obtain ⟨_, q₀, _⟩ := hit₀; exact Heap.lt_size q₀
    have hlen₀ : i < its₀.toArray.size := by
      have h1₀ : i < its₀.length := (List.getElem?_eq_some_iff.mp hu₀).1
      simpa using h1₀
    have ht₀ : s.heap.IsTuple a its₀.toArray := by
      obtain ⟨ob, h1₀, h2, n, h3⟩ := p₀
      exact ⟨ob, h1₀, h2, n, h3⟩
    have D : Draws X.prog X.w X.A.in1 it [it, a] its₀.toArray.size (fun i v => its₀.toArray[i]? = some v) (fun i h₀ => h₀.IsTupleIter it a i ∧ h₀.IsTuple a its₀.toArray) := Draws.tuple (by exact I.ok.hd hc₀) it a hai₀ its₀.toArray
    refine wpAny_pyNext_enum_itemD D he₀ ⟨hit₀, ht₀⟩ hlen₀ hne₀ (by simp; exact ⟨hne₀, fun z₀ => hae₀ z₀.symm⟩) fun x₀' h₀' tk₀ hPx₀ ho₀ hst₀' hT₀ hsz₀ hk₀ => ?_
    have ex₀ : x₀' = u₀ := by
      have q₀ : its₀.toArray[i]? = some u₀ := by simpa using hu₀
      have hPx' : its₀.toArray[i]? = some x₀' := hPx₀
      rw [q₀] at hPx'
      exact (Option.some.inj hPx').symm
    subst ex₀
    refine ⟨_, rfl, wpAny_letOwnedTupleGo_enum (s := { s with heap := h₀', toks := tk₀ + 1 }) ho₀ fun h₀' he₀' sb₀ => ?_⟩
    have hT2₀ : h₀'.get? s.heap.objs.size = some { cls := .type "tuple", data := .seq #[.int i tk₀, x₀'] } := (sb₀.2 _ (Nat.ne_of_gt hel₀)).trans hT₀
    have new₀ : ObjOk X.prog X.w (upd H s.heap.objs.size (.tup [.int (i : Nat), x])) h₀' s.heap.objs.size (.tup [.int (i : Nat), x]) :=
      ⟨by show 2 ≤ sizeLine; decide, [.int i tk₀, x₀'], .cons ⟨_, rfl⟩ (.cons ru₀ .nil), ⟨_, hT2₀, rfl, _, rfl⟩⟩
    have I1₀ : Inv X pins₀ σ₀ (upd H s.heap.objs.size (.tup [.int (i : Nat), x])) { s with heap := h₀', toks := tk₀ + 1 } :=
      I.turnedNew (ch := [e, it]) (fun b₀ ob hb₀ q₀ => (sb₀.2 b₀ (fun z₀ => hb₀ (by simp [z₀]))).trans (hk₀ b₀ ob (fun z₀ => hb₀ (by simp [z₀])) (fun z₀ => hb₀ (by simp [z₀])) q₀)) hf₀ (Nat.le_refl _) new₀
    refine ⟨.ref s.heap.objs.size, _, I1₀, rfl, ⟨_, x, rfl, I.hok.fresh (Nat.le_refl _), rfl, fun ys hy₀ => by rw [I.tuple_inj hy₀ hq₀]; exact hx₀⟩, ⟨⟨x₀', ?_⟩, hst₀'.1.at fun o₀ q₀ => (sb₀.2 it (Ne.symm hne₀)).trans q₀, hne₀, hai₀, hae₀⟩, fun b₀ hb₀ => ?_⟩
    · have e1₀ : ((i + 1 : Nat) : Int) = (i : Int) + 1 := by omega
      rw [e1₀]; exact he₀'
    · have hb₀' : b₀ < s.heap.objs.size := by
        have e₀' : b₀ = e ∨ b₀ = it := by simpa using hb₀
        rcases e₀' with z₀ | z₀
        · rw [z₀]; exact hel₀
        · rw [z₀]; exact hil₀
      rw [upd_ne (Nat.ne_of_lt hb₀')]
      exact (hf₀ b₀ hb₀).1
  done := by
    intro X hP hw hK hc₀ i pins₀ s σ₀ H E I hf₀ st₀ hg₀
    subst hP hw hK
    obtain ⟨⟨old₀, he₀⟩, hit₀, hne₀, hai₀, hae₀⟩ := st₀
    obtain ⟨xs, hq₀, hx₀⟩ := hg₀
    obtain ⟨its₀, rv₀, p₀, hz₀⟩ := I.tuple hq₀
    obtain ⟨f0₀, f1₀, f2₀, f3₀, f4₀, f5₀⟩ := hf₀ it (by simp)
    have hl₀ := rv₀.length
    have ht₀ : s.heap.IsTuple a its₀.toArray := by
      obtain ⟨ob, h1₀, h2, n, h3⟩ := p₀
      exact ⟨ob, h1₀, h2, n, h3⟩
    have hT₀ : s.TypeIs (.ref e) "enumerate" := ⟨_, he₀, rfl⟩
    unfold pyNext
    refine wpAny_bind (wpAny_attempt (wpAny_callSpecial?_slot (name := Str.ofString "__next__") hT₀ F.slot_enumerate_next
      (wpAny_call_entry F.slot_enumerate_next hT₀ F.entry_enumerate_next ?_ (F.args_enumerate_next_1 _))))
    (show wpAny _ _ (field (.ref e) 2 >>= _) _ _ _)
    refine wpAny_bind (wpAny_field he₀ rfl (x := .ref it) rfl ?_)
    refine wpAny_bind (wpAny_nextOf_tuple_end (by exact I.ok.hd hc₀) hit₀ ht₀ (by simp; omega) fun h₀' x he₀' hx₀' => ?_)
    obtain ⟨o₀, ho₀, hc'⟩ := hx₀'
    refine wpAny_bind (wpAny_isInstance (T := "StopIteration") (b := true) ⟨o₀, ho₀, hc'⟩ isSubtype_stop ?_)
    exact wpAny_pure ⟨rfl, I.turned (t' := s.toks) (fun b₀ o₀ hb₀ q₀ => he₀' b₀ o₀ hb₀ q₀) f0₀ f1₀ f3₀ f4₀ f5₀⟩
  self := fun A i s Q E st₀ h₀ => let ⟨⟨_, he₀⟩, _⟩ := st₀; wpAny_pyIter_enum he₀ h₀
def iEnumT (K : PySem.W.Frag) (ta : TA) : TI := fun σ₀ H R => ta σ₀ H fun vs H1 => ∃ a xs, vs = [.ref a] ∧ SqT K H1 a xs ∧ R (IteT K a) H1
theorem pi_enumT {X : Cx} {e : Expr} {ta : TA} {p₀ pos tpos : Pos} {elts : List Expr} {kk : Nat} (hg₀ : Gl X "enumerate") (hm : X.mg "enumerate" = none) (ha : PA X [e] ta) (hs : starEach [e] X.env = [(false, eval e X.env)] := by rfl) :
    PI X (.Tuple elts kk tpos) (.Call (.Name "enumerate" p₀) [e] [] pos) (iEnumT X.K ta) := by
  refine ⟨fun pins₀ s σ₀ H R I h₀ => ?_⟩
  refine Call_ (ld_blt I hg₀ hm boot_enumerate (PyProof.Rows.callWith_type1 (thn (ha.run pos pins₀ s σ₀ H _ I h₀) fun us₀ s1 ⟨vs, H1, I1₀, r1, q1₀⟩ => ?_) hs rfl))
  obtain ⟨a, xs, ex₀, hq₀, q₀⟩ := q1₀
  subst ex₀
  cases r1 with
  | cons r₀ rr₀ =>
    cases rr₀
    cases r₀
    obtain ⟨its₀, rv₀, p₀', hz₀⟩ := I1₀.tuple hq₀
    have ht₀ : s1.heap.IsTuple a its₀.toArray := by
      obtain ⟨ob, h1₀, h2, n, h3⟩ := p₀'
      exact ⟨ob, h1₀, h2, n, h3⟩
    have hal₀ : a < s1.heap.objs.size := by obtain ⟨_, q₀, _⟩ := ht₀; exact Heap.lt_size q₀
    refine call_enum_begins (begins_tuple a its₀.toArray) ht₀ fun h₀' he₀ hit₀ hsz₀ hk₀ => wpAny_pyIter_enum he₀ ?_
    have I2₀ : Inv X pins₀ σ₀ H1 { s1 with heap := h₀' } := I1₀.kept (t' := s1.toks) hk₀
    refine ⟨s1.heap.objs.size + 1, [s1.heap.objs.size + 1, s1.heap.objs.size], _, _, H1, rfl, I2₀, turn_enumT a (s1.heap.objs.size + 1) s1.heap.objs.size, ⟨⟨.none, he₀⟩, ⟨_, hit₀, rfl, rfl⟩, Nat.succ_ne_self _, Nat.ne_of_lt hal₀, Nat.ne_of_lt (Nat.lt_succ_of_lt hal₀)⟩, fun b₀ hb₀ => ?_, q₀⟩
    have e₀' : b₀ = s1.heap.objs.size + 1 ∨ b₀ = s1.heap.objs.size := by simpa using hb₀
    have hle₀ : s1.heap.objs.size ≤ b₀ := by
      rcases e₀' with z₀ | z₀
      · rw [z₀]; exact Nat.le_add_right _ _
      · rw [z₀]; exact Nat.le_refl _
    exact I1₀.fpOk hle₀ (I1₀.hok.fresh hle₀)
/-- the loop over enumerate(t) -/
theorem for_enumT {K : PySem.W.Frag} {a : Addr} {xs : List V} {g : TG} {tb : TS} {D : Ends} {σ : L2.St} {H : Hp} (Pv : Nat → L2.St → Hp → Prop) (h0 : Pv 0 σ H) (hl : ∀ i σ H, i ≤ xs.length → Pv i σ H → SqT K H a xs)
    (hs : ∀ (i : Nat) (x : V) (T : Addr) (σ : L2.St) (H : Hp), xs[i]? = some x → Pv i σ H → H T = none → g (.ref T) σ (upd H T (.tup [.int (i : Nat), x])) fun σ2 H2 => tb { D with nx := Pv (i + 1), bk := D.nx, ct := Pv (i + 1) } σ2 H2)
    (hd : ∀ σ H, Pv xs.length σ H → D.nx σ H) :
    ∃ W : Nat → Nat → L2.St → Hp → Prop, (∃ m, W 0 m σ H) ∧ ∀ i m σ H, W i m σ H → ((IteT K a).stop i H ∧ D.nx σ H) ∨ ((IteT K a).go i H ∧ ∃ Nx : L2.St → Hp → Prop, (∀ σ' H', Nx σ' H' → ∃ m', m' < m ∧ W (i + 1) m' σ' H') ∧ ∀ x H', (IteT K a).yld i H x H' → g x σ H' fun σ2 H2 => tb { D with nx := Nx, bk := D.nx, ct := Nx } σ2 H2) := by
  refine ⟨fun i m σ H => i + m = xs.length ∧ Pv i σ H, ⟨xs.length, by omega, h0⟩, ?_⟩
  rintro i m σ H ⟨em, hp⟩
  have hsq := hl i σ H (by omega) hp
  by_cases hi : i < xs.length
  · refine .inr ⟨⟨xs, xs[i], hsq, List.getElem?_eq_getElem hi⟩, Pv (i + 1), fun σ' H' q => ⟨m - 1, by omega, by omega, q⟩, ?_⟩
    rintro x H' ⟨T, y, rfl, hn, rfl, hy⟩
    exact hs i y T σ H (hy xs hsq) hp hn
  · (have e : i = xs.length := by omega)
    subst e
    exact .inl ⟨⟨xs, hsq, Nat.le_refl _⟩, hd σ H hp⟩
end V3
namespace V3
open PySem.Spec PySem L2 PyProof.Rows
theorem yesIf {σ : L2.St} {H : Hp} {A B : Hp → Prop} (h : A H) : tYes σ H (fun b H3 => if b = true then A H3 else B H3) := by
  show if true = true then A H else B H
  rw [if_pos rfl]
  exact h
end V3
set_option maxHeartbeats 4100000
/-! max, min of (x for x in range(..) if a[x] op b[y]). -/
namespace V3
open PySem.Spec PySem L2 PyProof.Rows GxR

/-- what is wanted of the tests of a generator expression over a range from lo₀ on: of place i they say pz₀ i, and change nothing -/
def TestR (X : Cx) (P : Addr) (scope : Scope) (x : Str) (ifs : List Expr) (tz : L2.St → Hp → Int → Nat → (Nat → Bool) → Prop) : Prop :=
  ∀ (pins₀ : List (Addr × Obj)) (s : Shared) (σ₀ : L2.St) (H : Hp) (lo₀ : Int) (n : Nat) (pz₀ : Nat → Bool), Inv X pins₀ σ₀ H s → tz σ₀ H lo₀ n pz₀ →
    (∃ ps₀ : Array Value, s.heap.get? P = some { cls := .none, data := .fields ps₀ }) →
    ∀ (cenv₀ : Env) (A' : Around) (E' : Value → Shared → Prop) (i : Nat) (t₀ : Tok) (s₂₀ : Shared) (m₂₀ : Str → Option Value), i < n → cenv₀.scope = scope → cenv₀.cells = cloFrom X.env.cells scope.names [] → s₂₀.heap.Ns cenv₀.locals m₂₀ →
      m₂₀ x = some (.int (lo₀ + (i : Nat) * 1) t₀) → (∀ b o, b ≠ P → s.heap.get? b = some o → s₂₀.heap.get? b = some o) →
      wpAny (model X.prog X.w) A' (forIn ifs true fun c r => if r = true then do let ok ← isTrue c cenv₀ (eval c cenv₀); pure (ForInStep.yield ok) else pure (ForInStep.yield r)) (fun ok s₃ => ok = pz₀ i ∧ Keeps s₂₀ s₃) E' s₂₀
/-- the generator g₀, ready to be walked in the state s5₀; H1₀: what was held before -/
def ReadyR (X : Cx) (pins₀ : List (Addr × Obj)) (σ₀ : L2.St) (H1₀ : Hp) (P : Addr) (lo₀ : Int) (n : Nat) (pz₀ : Nat → Bool) (g₀ : Addr) (s5₀ : Shared) : Prop :=
  ∃ (fp₀ wr₀ : List Addr) (G : Array GenState → Array GenState → Prop) (F : Nat → Value → Prop) (St₀ : Nat → Shared → Prop),
    WalksS X.prog X.w X.A.in1 g₀ fp₀ wr₀ G (passing pz₀ n 0).length F St₀ ∧ St₀ 0 s5₀ ∧ (∀ b ∈ fp₀, b < s5₀.heap.objs.size) ∧ (∀ j v₀, F j v₀ → ∃ i, (passing pz₀ n 0)[j]? = some i ∧ ∃ t₀, v₀ = .int (lo₀ + (i : Nat) * 1) t₀) ∧
    ∀ s', Moved wr₀ G s5₀ s' → ∃ H2₀, Tabbed P H1₀ H2₀ ∧ Inv X pins₀ σ₀ H2₀ s'
section
variable {X : Cx} {pins₀ : List (Addr × Obj)} {σ₀ : L2.St} {H : Hp} {s : Shared}
theorem range_small {a b : Int} (h1 : -(2 ^ 62) ≤ a) (h2 : a < 2 ^ 62) (h3₀ : -(2 ^ 62) ≤ b) (h4 : b < 2 ^ 62) : Builtin.Range.small a b 1 = true := by
  unfold Builtin.Range.small Builtin.Range.rangeFitsLong
  rw [rangeSize_nat]
  simp only [Bool.and_eq_true, Bool.or_eq_true, decide_eq_true_eq, beq_iff_eq]
  refine ⟨⟨⟨⟨?_, ?_⟩, ?_⟩, ?_⟩, ?_⟩
  · omega
  · omega
  · omega
  · omega
  · right
    rw [if_pos (by decide)]
    (simp only [Bool.and_eq_true, decide_eq_true_eq])
    omega
theorem gen_range {c P : Addr} {iter : Expr} {x : Str} {px pe gpos : Pos} {ifs : List Expr} {scope : Scope} {te : L2.St → Hp → (Int → Int → Hp → Prop) → Prop} {tz : L2.St → Hp → Int → Nat → (Nat → Bool) → Prop} {k : Nat} {Q' : Value → Shared → Prop} {R : Int → Nat → (Nat → Bool) → Hp → Prop}
    (hr₀ : Room k X.A) (TB₀ : TabB X.base X.mg c P) (hcode₀ : X.env.code = .ref c) (S : GenS X.env scope x) (hi₀ : PRg X iter te) (ht₀ : TestR X P scope x ifs tz) (hd₀ : (x == ("__debug__" : Str)) = false)
    (hs₀ : ∀ v₀, genFold iter X.env v₀ = pure v₀) (I₀ : Inv X pins₀ σ₀ H s)
    (h : te σ₀ H fun a b H1₀ => -(2 ^ 62) ≤ a ∧ a < 2 ^ 62 ∧ -(2 ^ 62) ≤ b ∧ b < 2 ^ 62 ∧ TabG H1₀ P ∧ ∃ pz₀, tz σ₀ H1₀ a (b - a).toNat pz₀ ∧ R a (b - a).toNat pz₀ H1₀)
    (hQ₀ : ∀ lo₀ n pz₀ H1₀ g₀ s5₀, R lo₀ n pz₀ H1₀ → ReadyR X pins₀ σ₀ H1₀ P lo₀ n pz₀ g₀ s5₀ → Q' (.ref g₀) s5₀) :
    wpAny (model X.prog X.w) X.A (eval (.GeneratorExp (.Name x pe) [⟨.Name x px, iter, ifs, 0⟩] scope gpos) X.env) Q' X.xe s := by
  refine wpAny_GeneratorExp_walksQ hr₀.hd S.co (closure_ok S.free) S.cell S.dot S.loc S.kind (by have := hr₀.dp; omega) ?_ hs₀
  refine thn (hi₀ pins₀ s σ₀ H _ I₀ h) fun xv₀ s1₀ ⟨r, a, b, t₀, u₀, v₀, H1₀, ex₀, hrng₀, I1₀, q1₀⟩ => ?_
  subst ex₀
  obtain ⟨b1₀, b2₀, b3₀, b4₀, ⟨ps₀, hP₀, htr₀⟩, pz₀, hz₀, q1₀⟩ := q1₀
  refine wpAny_pyIter_range hrng₀ (range_small b1₀ b2₀ b3₀ b4₀) ?_
  generalize ho₀ : ({ cls := .type "range_iterator", data := .fields #[rawInt a, rawInt (Builtin.Range.rangeSize a b 1), rawInt 1] } : Obj) = o
  have hfo₀ : o.isFreed = false := by rw [← ho₀]; rfl
  have hPs₀ : s1₀.heap.get? P = some { cls := .none, data := .fields ps₀ } := I1₀.hok P _ hP₀
  have hPlt₀ : P < s1₀.heap.objs.size := Heap.lt_size hPs₀
  have hP2₀ : (s1₀.heap.push o).get? P = some { cls := .none, data := .fields ps₀ } := Heap.get?_push_of_some _ hPs₀
  have cd₀ : PySem.W.CodeHd (s1₀.heap.push o) c P := TB₀.code.keeps fun b u₀ e => Heap.get?_push_of_some _ (I1₀.bk b u₀ e)
  have lim2₀ : (s1₀.heap.push o).NoLimit := I1₀.nolimit.push o
  have hst₀ : IsRangeIter (s1₀.heap.push o) s1₀.heap.objs.size (a + ((0 : Nat) : Int) * 1) (((b - a).toNat : Int) - ((0 : Nat) : Int)) 1 := by
    show (s1₀.heap.push o).get? s1₀.heap.objs.size = _
    rw [← ho₀, rangeSize_nat]
    simpa using Heap.get?_push_size s1₀.heap (o := { cls := .type "range_iterator", data := .fields #[rawInt a, rawInt ((b - a).toNat : Int), rawInt 1] }) rfl
  have cont₀ : ∀ (code : Value) (h3₀ : Heap) (tk₀ : Nat) (ps₀' : Array Value), Heap.ExtBut P (s1₀.heap.push o) h3₀ → (s1₀.heap.push o).objs.size ≤ h3₀.objs.size → h3₀.get? P = some { cls := .none, data := .fields ps₀' } → (∃ more₀, ps₀' = ps₀ ++ more₀) → TriplesOk ps₀'.toList →
      wpAny (model X.prog X.w) X.A (builtinsFor X.env.globals X.env.builtins) (fun bi sB =>
        ∃ Ia fp₀ wr₀ n₀ Pf St₀ pz₀ F, Value.ref s1₀.heap.objs.size = .ref Ia ∧ (∀ A' : Around, A'.handled = none → Walks X.prog X.w A' Ia fp₀ wr₀ n₀ Pf St₀) ∧ St₀ 0 sB.heap ∧ (∀ b ∈ fp₀, b < sB.heap.objs.size) ∧ sB.heap.NoLimit ∧ cStatics ∉ wr₀ ∧
          (∀ href₀ : Heap, (∀ b o, sB.heap.get? b = some o → href₀.get? b = some o) →
            QuietGen X.prog X.w (genEnv scope (cloFrom X.env.cells scope.names []) sB.heap.objs.size code bi X.env) x ifs (.Name x pe) (List.range sB.heap.objs.size) wr₀ Pf pz₀ F href₀) ∧
          (∀ a h₅ tk₀ gs, gs.bare = true → sB.heap.objs.size < a → h₅.objs.size = a + 1 → (∀ b o, sB.heap.get? b = some o → h₅.get? b = some o) →
            WalksS X.prog X.w X.A.in4 a (a :: sB.heap.objs.size :: List.range sB.heap.objs.size) (sB.heap.objs.size :: wr₀) (GenOnlyQ sB.gens.size) (passing pz₀ n₀ 0).length
              (fun j y => ∃ i, (passing pz₀ n₀ 0)[j]? = some i ∧ F i y) (GenAt X.prog X.w X.A.in4 a sB.gens.size sB.heap.objs.size (List.range sB.heap.objs.size) wr₀ pz₀ n₀ F) →
            GenAt X.prog X.w X.A.in4 a sB.gens.size sB.heap.objs.size (List.range sB.heap.objs.size) wr₀ pz₀ n₀ F 0 { sB with gens := sB.gens.push gs, toks := tk₀, heap := h₅ } →
            Q' (.ref a) { sB with gens := sB.gens.push gs, toks := tk₀, heap := h₅ })) X.xe { s1₀ with heap := h3₀, toks := tk₀ } := by
    intro code h3₀ tk₀ ps₀' hx₀ hsz₀ hP3₀ hmore₀ ht3₀
    obtain ⟨bm₀, ob₀, e1₀, e2₀, e3₀, e4₀, e5₀, e6₀, e7₀, e8₀⟩ := TB₀.bm
    have hcP₀ : cStatics ≠ P := fun e => by
      obtain ⟨_, hns, _⟩ := I1₀.nolimit
      obtain ⟨o', es₀, ep₀, ho₀, hd₀, _⟩ := hns
      rw [e, hPs₀] at ho₀
      cases ho₀
      cases hd₀
    have hcl₀ : cStatics < s1₀.heap.objs.size := let ⟨_, hns, _⟩ := I1₀.nolimit; hns.lt
    have sz2₀ : (s1₀.heap.push o).objs.size = s1₀.heap.objs.size + 1 := Heap.size_push ..
    have keep3₀ : ∀ b u₀, b ≠ P → s1₀.heap.get? b = some u₀ → h3₀.get? b = some u₀ := fun b u₀ hb₀ e => hx₀ b u₀ hb₀ (Heap.get?_push_of_some _ e)
    refine wpAny_builtinsFor (m := X.mg) (by rw [I1₀.ok.glob]; exact ((I1₀.mod.glob.keeps I1₀.bk).push o).extBut hx₀ TB₀.gP) e1₀ e2₀ (keep3₀ _ _ e4₀ (I1₀.bk _ _ e5₀)) e6₀ e7₀ e8₀ ?_
    refine ⟨s1₀.heap.objs.size, [s1₀.heap.objs.size], [s1₀.heap.objs.size], (b - a).toNat, fun i v₀ => i < (b - a).toNat ∧ ∃ t₀, v₀ = .int (a + (i : Nat) * 1) t₀, _, pz₀, (fun i y => ∃ t₀, y = .int (a + (i : Nat) * 1) t₀), rfl, (fun A' hA => (Walks.range hA s1₀.heap.objs.size a 1 (b - a).toNat).bound), ?_, ?_, lim2₀.extBut hx₀ hcP₀, ?_, ?_, ?_⟩
    · exact hx₀ _ _ (Nat.ne_of_gt hPlt₀) hst₀
    · intro b hb₀
      rcases List.mem_cons.mp hb₀ with z | z
      · rw [z]
        show s1₀.heap.objs.size < h3₀.objs.size
        omega
      · cases z
    · intro z
      (rcases List.mem_cons.mp z with z | z)
      · exact Nat.ne_of_lt hcl₀ z
      · cases z
    · intro href₀ hhref₀
      have kp₀ : ∀ (s₂₀ : Shared), (∀ b ∈ List.range h3₀.objs.size, b ∉ [s1₀.heap.objs.size] → ∀ o, href₀.get? b = some o → s₂₀.heap.get? b = some o) → ∀ b o, b ≠ P → s1₀.heap.get? b = some o → s₂₀.heap.get? b = some o := fun s₂₀ hk₀ b o hb₀ e => by
        have e3₀ := keep3₀ b o hb₀ e
        refine hk₀ b (List.mem_range.mpr (Heap.lt_size e3₀)) (fun z => ?_) o (hhref₀ b o e3₀)
        (rcases List.mem_cons.mp z with z | z)
        · have := Heap.lt_size e
          rw [z] at this
          exact Nat.lt_irrefl _ this
        · cases z
      refine ⟨fun A' E' i v₀ s₂₀ m₂₀ hA hPv₀ hn₀ hm₀ hk₀ => ?_, fun A' E' i v₀ s₂₀ m₂₀ hA hPv₀ hp₀ hn₀ hm₀ hk₀ => ?_⟩
      · obtain ⟨hi', t', rfl⟩ := hPv₀
        exact ht₀ pins₀ s1₀ σ₀ H1₀ a (b - a).toNat pz₀ I1₀ hz₀ ⟨ps₀, hPs₀⟩ _ A' E' i t' s₂₀ m₂₀ hi' rfl rfl hn₀ hm₀ (kp₀ s₂₀ hk₀)
      · obtain ⟨hi', t', rfl⟩ := hPv₀
        refine wpAny_Name (wpAny_loadName_local (by exact S.kind) (by exact S.loc) hn₀ hm₀ ?_) hd₀
        exact ⟨⟨t', rfl⟩, keeps_refl _⟩
    · intro g₀ h5₀ tk5₀ gs hgb₀ hag₀ hsz5₀ hk5₀ W5₀ hat₀
      refine hQ₀ a (b - a).toNat pz₀ H1₀ g₀ _ q1₀ ⟨_, _, _, _, _, W5₀.in4_1, hat₀, ?_, ?_, fun s' hm₀ => ?_⟩
      · intro b hb₀
        show b < h5₀.objs.size
        rw [hsz5₀]
        have hag₀' : h3₀.objs.size < g₀ := hag₀
        rcases List.mem_cons.mp hb₀ with z | z
        · rw [z]
          exact Nat.lt_succ_self g₀
        · (rcases List.mem_cons.mp z with z | z)
          · rw [z]
            exact Nat.lt_succ_of_lt hag₀'
          · exact Nat.lt_succ_of_lt (Nat.lt_trans (List.mem_range.mp z) hag₀')
      · intro j y hy
        exact hy
      · obtain ⟨more₀, em₀⟩ := hmore₀
        have nwr₀ : ∀ b u₀, s1₀.heap.get? b = some u₀ → b ∉ h3₀.objs.size :: [s1₀.heap.objs.size] := fun b u₀ e hb₀ => by
          have hl₀ := Heap.lt_size e
          rcases List.mem_cons.mp hb₀ with z | z
          · rw [z] at hl₀
            have h9 : (h3₀.objs.size : Nat) < s1₀.heap.objs.size := hl₀
            omega
          · (rcases List.mem_cons.mp z with z | z)
            · rw [z] at hl₀
              exact Nat.lt_irrefl _ hl₀
            · cases z
        have J₀ := inv_tab (more := more₀) (h' := s'.heap) (g' := s'.gens) (d' := s'.drawn) (t' := s'.toks) I1₀ hP₀ (fun b u₀ hb₀ e => hm₀.heap b u₀ (nwr₀ b u₀ e) (hk5₀ b u₀ (keep3₀ b u₀ hb₀ e)))
          (by rw [← em₀]; exact hm₀.heap P _ (nwr₀ P _ hPs₀) (hk5₀ P _ hP3₀)) (AllBare.movedS (I1₀.bare.push hgb₀) hm₀)
        rw [sh_eta s1₀ s' hm₀.os] at J₀
        refine ⟨upd H1₀ P (.tbl (ps₀ ++ more₀)), ⟨⟨ps₀ ++ more₀, upd_same, by rw [← em₀]; exact ht3₀⟩, fun b hb₀ => upd_ne hb₀⟩, J₀⟩
  refine ⟨lim2₀, ?_⟩
  cases hf₀ : codeAmong gpos ps₀.toList with
  | none =>
    refine wpAny_genexprCodeX hcode₀ (cd₀.code hP2₀ htr₀) (cd₀.tab hP2₀) hf₀ fun c₀' h₀' tk₀ hx₀ hge₀ hlt₀ hco₀' _ htab₀' _ => ?_
    obtain ⟨o1, vs, f1, tf, fl, tg, inF, tx, tt, op, _, _, _, _, _, _, _, _, _, htr', _⟩ := hco₀'
    exact cont₀ _ h₀' tk₀ _ hx₀ (Nat.le_trans hge₀ (Nat.le_of_lt hlt₀)) htab₀'.2 ⟨_, rfl⟩ htr'
  | some cv =>
    refine wpAny_genexprCode_hit hcode₀ (cd₀.code hP2₀ htr₀) hf₀ ?_
    exact cont₀ cv (s1₀.heap.push o) s1₀.toks ps₀ (Heap.ExtBut.refl _ _) (Nat.le_refl _) hP2₀ ⟨#[], by simp⟩ htr₀

theorem mem_passing {pz₀ : Nat → Bool} {n i : Nat} : i ∈ passing pz₀ n 0 ↔ i < n ∧ pz₀ i = true := by
  unfold passing
  rw [List.drop_zero, List.mem_filter, List.mem_range]

/-- max(x for x in range(..) if ..) -/
def tMaxR (P : Addr) (te : L2.St → Hp → (Int → Int → Hp → Prop) → Prop) (tz : L2.St → Hp → Int → Nat → (Nat → Bool) → Prop) : TE := fun σ₀ H Q =>
  te σ₀ H fun a b H1₀ => -(2 ^ 62) ≤ a ∧ a < 2 ^ 62 ∧ -(2 ^ 62) ≤ b ∧ b < 2 ^ 62 ∧ TabG H1₀ P ∧ ∃ pz₀, tz σ₀ H1₀ a (b - a).toNat pz₀ ∧ (∃ i, i < (b - a).toNat ∧ pz₀ i = true) ∧
    ∀ i H2₀, Tabbed P H1₀ H2₀ → i < (b - a).toNat → pz₀ i = true → (∀ j, j < (b - a).toNat → pz₀ j = true → j ≤ i) → Q (.int (a + i)) H2₀
def tMinR (P : Addr) (te : L2.St → Hp → (Int → Int → Hp → Prop) → Prop) (tz : L2.St → Hp → Int → Nat → (Nat → Bool) → Prop) : TE := fun σ₀ H Q =>
  te σ₀ H fun a b H1₀ => -(2 ^ 62) ≤ a ∧ a < 2 ^ 62 ∧ -(2 ^ 62) ≤ b ∧ b < 2 ^ 62 ∧ TabG H1₀ P ∧ ∃ pz₀, tz σ₀ H1₀ a (b - a).toNat pz₀ ∧ (∃ i, i < (b - a).toNat ∧ pz₀ i = true) ∧
    ∀ i H2₀, Tabbed P H1₀ H2₀ → i < (b - a).toNat → pz₀ i = true → (∀ j, j < (b - a).toNat → pz₀ j = true → i ≤ j) → Q (.int (a + i)) H2₀
theorem pe_maxR {c P : Addr} {iter : Expr} {x : Str} {px pe p pos gpos : Pos} {ifs : List Expr} {scope : Scope} {te : L2.St → Hp → (Int → Int → Hp → Prop) → Prop} {tz : L2.St → Hp → Int → Nat → (Nat → Bool) → Prop} {k : Nat}
    (hr₀ : Room k X.A) (hg : Gl X "max") (hm₀ : X.mg "max" = none) (TB₀ : TabB X.base X.mg c P) (hcode₀ : X.env.code = .ref c) (S : GenS X.env scope x) (hi₀ : PRg X iter te) (ht₀ : TestR X P scope x ifs tz) (hd₀ : (x == ("__debug__" : Str)) = false)
    (hs₀ : ∀ v₀, genFold iter X.env v₀ = pure v₀)
    (he₀ : starEach [.GeneratorExp (.Name x pe) [⟨.Name x px, iter, ifs, 0⟩] scope gpos] X.env = (false, eval (.GeneratorExp (.Name x pe) [⟨.Name x px, iter, ifs, 0⟩] scope gpos) X.env) :: starEach [] X.env := by rfl) :
    PE X (.Call (.Name "max" p) [.GeneratorExp (.Name x pe) [⟨.Name x px, iter, ifs, 0⟩] scope gpos] [] pos) (tMaxR P te tz) := by
  refine ⟨fun pins₀ s σ₀ H Q I₀ h => ?_⟩
  refine wpAny_Call_Name_kw (ld_blt (u := .builtin "max") I₀ hg hm₀ (by decide +kernel) ?_)
  refine PyProof.Rows.callWith_builtin1 (id := "max") ?_ he₀ (by rfl)
  rw [he₀]
  show wpAny _ _ (spliced ((false, eval (.GeneratorExp (.Name x pe) [⟨.Name x px, iter, ifs, 0⟩] scope gpos) X.env) :: backTo pos (starEach [] X.env))) _ _ s
  refine Calls.spliced_cons (gen_range (R := fun lo₀ n pz₀ H1₀ => (∃ i, i < n ∧ pz₀ i = true) ∧ ∀ i H2₀, Tabbed P H1₀ H2₀ → i < n → pz₀ i = true → (∀ j, j < n → pz₀ j = true → j ≤ i) → Q (.int (lo₀ + i)) H2₀) hr₀ TB₀ hcode₀ S hi₀ ht₀ hd₀ hs₀ I₀ h fun lo₀ n pz₀ H1₀ g₀ s5₀ hR₀ hG₀ => ?_)
  obtain ⟨⟨i0₀, hi0₀, hp0₀⟩, hq₀⟩ := hR₀
  obtain ⟨fp₀, wr₀, G, F, St₀, W, hst₀, hfp₀, hval₀, hI₀⟩ := hG₀
  refine Calls.spliced_nil ?_
  have hne₀ : 0 < (passing pz₀ n 0).length := List.length_pos_of_mem (mem_passing.mpr ⟨hi0₀, hp0₀⟩)
  obtain ⟨val₀, hvd₀⟩ : ∃ val₀ : Nat → Int, ∀ j, val₀ j = lo₀ + (((passing pz₀ n 0).getD j 0 : Nat) : Int) := ⟨_, fun _ => rfl⟩
  have hv₀ : ∀ j v₀, F j v₀ → ∃ t₀, v₀ = .int (val₀ j) t₀ := fun j v₀ hF₀ => by
    obtain ⟨i, h1, t₀, rfl⟩ := hval₀ j v₀ hF₀
    refine ⟨t₀, ?_⟩
    rw [hvd₀]
    simp [List.getD_eq_getElem?_getD, h1]
  refine call_max_walkS (W.self 0 _ _ _ hst₀ ⟨g₀, fp₀, wr₀, G, _, F, St₀, _, rfl, W, hst₀, hfp₀, hne₀, CmpOf.ints_gt _ hv₀, fun v₀ s' hF₀ hmv₀ => ?_⟩)
  obtain ⟨H2₀, hT₀, J₀⟩ := hI₀ s' hmv₀
  have hb₀ := argBest_gt val₀ ((passing pz₀ n 0).length - 1)
  obtain ⟨t₀, rfl⟩ := hv₀ _ v₀ hF₀
  have hlt₀ : argBest (fun i j => decide (val₀ i > val₀ j)) ((passing pz₀ n 0).length - 1) < (passing pz₀ n 0).length := by omega
  refine ⟨.int _, H2₀, J₀, ⟨_, rfl⟩, ?_⟩
  generalize argBest (fun i j => decide (val₀ i > val₀ j)) ((passing pz₀ n 0).length - 1) = jm₀ at hb₀ hlt₀
  have hm1₀ : (passing pz₀ n 0).getD jm₀ 0 = (passing pz₀ n 0)[jm₀] := by simp [List.getD_eq_getElem?_getD, hlt₀]
  have hmem₀ : (passing pz₀ n 0)[jm₀] ∈ passing pz₀ n 0 := List.getElem_mem hlt₀
  obtain ⟨k1₀, k2₀⟩ := mem_passing.mp hmem₀
  show Q (.int (val₀ jm₀)) H2₀
  rw [hvd₀, hm1₀]
  refine hq₀ _ H2₀ hT₀ k1₀ k2₀ fun j hj hpj => ?_
  obtain ⟨jj₀, hjj₀, ej₀⟩ := List.getElem_of_mem (mem_passing.mpr ⟨hj, hpj⟩)
  have := hb₀.2 jj₀ (by omega)
  have e2₀ : (passing pz₀ n 0).getD jj₀ 0 = j := by simp [List.getD_eq_getElem?_getD, hjj₀, ej₀]
  simp only [hvd₀, hm1₀, e2₀] at this
  omega
theorem pe_minR {c P : Addr} {iter : Expr} {x : Str} {px pe p pos gpos : Pos} {ifs : List Expr} {scope : Scope} {te : L2.St → Hp → (Int → Int → Hp → Prop) → Prop} {tz : L2.St → Hp → Int → Nat → (Nat → Bool) → Prop} {k : Nat}
    (hr₀ : Room k X.A) (hg : Gl X "min") (hm₀ : X.mg "min" = none) (TB₀ : TabB X.base X.mg c P) (hcode₀ : X.env.code = .ref c) (S : GenS X.env scope x) (hi₀ : PRg X iter te) (ht₀ : TestR X P scope x ifs tz) (hd₀ : (x == ("__debug__" : Str)) = false)
    (hs₀ : ∀ v₀, genFold iter X.env v₀ = pure v₀)
    (he₀ : starEach [.GeneratorExp (.Name x pe) [⟨.Name x px, iter, ifs, 0⟩] scope gpos] X.env = (false, eval (.GeneratorExp (.Name x pe) [⟨.Name x px, iter, ifs, 0⟩] scope gpos) X.env) :: starEach [] X.env := by rfl) :
    PE X (.Call (.Name "min" p) [.GeneratorExp (.Name x pe) [⟨.Name x px, iter, ifs, 0⟩] scope gpos] [] pos) (tMinR P te tz) := by
  refine ⟨fun pins₀ s σ₀ H Q I₀ h => ?_⟩
  refine wpAny_Call_Name_kw (ld_blt (u := .builtin "min") I₀ hg hm₀ (by decide +kernel) ?_)
  refine PyProof.Rows.callWith_builtin1 (id := "min") ?_ he₀ (by rfl)
  rw [he₀]
  show wpAny _ _ (spliced ((false, eval (.GeneratorExp (.Name x pe) [⟨.Name x px, iter, ifs, 0⟩] scope gpos) X.env) :: backTo pos (starEach [] X.env))) _ _ s
  refine Calls.spliced_cons (gen_range (R := fun lo₀ n pz₀ H1₀ => (∃ i, i < n ∧ pz₀ i = true) ∧ ∀ i H2₀, Tabbed P H1₀ H2₀ → i < n → pz₀ i = true → (∀ j, j < n → pz₀ j = true → i ≤ j) → Q (.int (lo₀ + i)) H2₀) hr₀ TB₀ hcode₀ S hi₀ ht₀ hd₀ hs₀ I₀ h fun lo₀ n pz₀ H1₀ g₀ s5₀ hR₀ hG₀ => ?_)
  obtain ⟨⟨i0₀, hi0₀, hp0₀⟩, hq₀⟩ := hR₀
  obtain ⟨fp₀, wr₀, G, F, St₀, W, hst₀, hfp₀, hval₀, hI₀⟩ := hG₀
  refine Calls.spliced_nil ?_
  have hne₀ : 0 < (passing pz₀ n 0).length := List.length_pos_of_mem (mem_passing.mpr ⟨hi0₀, hp0₀⟩)
  obtain ⟨val₀, hvd₀⟩ : ∃ val₀ : Nat → Int, ∀ j, val₀ j = lo₀ + (((passing pz₀ n 0).getD j 0 : Nat) : Int) := ⟨_, fun _ => rfl⟩
  have hv₀ : ∀ j v₀, F j v₀ → ∃ t₀, v₀ = .int (val₀ j) t₀ := fun j v₀ hF₀ => by
    obtain ⟨i, h1, t₀, rfl⟩ := hval₀ j v₀ hF₀
    refine ⟨t₀, ?_⟩
    rw [hvd₀]
    simp [List.getD_eq_getElem?_getD, h1]
  refine call_min_walkS (W.self 0 _ _ _ hst₀ ⟨g₀, fp₀, wr₀, G, _, F, St₀, _, rfl, W, hst₀, hfp₀, hne₀, CmpOf.ints_lt _ hv₀, fun v₀ s' hF₀ hmv₀ => ?_⟩)
  obtain ⟨H2₀, hT₀, J₀⟩ := hI₀ s' hmv₀
  have hb₀ := argBest_lt val₀ ((passing pz₀ n 0).length - 1)
  obtain ⟨t₀, rfl⟩ := hv₀ _ v₀ hF₀
  have hlt₀ : argBest (fun i j => decide (val₀ i < val₀ j)) ((passing pz₀ n 0).length - 1) < (passing pz₀ n 0).length := by omega
  refine ⟨.int _, H2₀, J₀, ⟨_, rfl⟩, ?_⟩
  generalize argBest (fun i j => decide (val₀ i < val₀ j)) ((passing pz₀ n 0).length - 1) = jm₀ at hb₀ hlt₀
  have hm1₀ : (passing pz₀ n 0).getD jm₀ 0 = (passing pz₀ n 0)[jm₀] := by simp [List.getD_eq_getElem?_getD, hlt₀]
  have hmem₀ : (passing pz₀ n 0)[jm₀] ∈ passing pz₀ n 0 := List.getElem_mem hlt₀
  obtain ⟨k1₀, k2₀⟩ := mem_passing.mp hmem₀
  show Q (.int (val₀ jm₀)) H2₀
  rw [hvd₀, hm1₀]
  refine hq₀ _ H2₀ hT₀ k1₀ k2₀ fun j hj hpj => ?_
  obtain ⟨jj₀, hjj₀, ej₀⟩ := List.getElem_of_mem (mem_passing.mpr ⟨hj, hpj⟩)
  have := hb₀.2 jj₀ (by omega)
  have e2₀ : (passing pz₀ n 0).getD jj₀ 0 = j := by simp [List.getD_eq_getElem?_getD, hjj₀, ej₀]
  simp only [hvd₀, hm1₀, e2₀] at this
  omega
end
end V3
namespace V3
open PySem.Spec PySem L2 PyProof.Rows GxR
section
variable {s : Shared} {H : Hp} {σ : L2.St} {pins : List (Addr × Obj)} {X : Cx}
/-- a name of the def that the generator expression captures -/
structure Cap (X : Cx) (scope : Scope) (x : Str) (i : Nat) : Prop where
  N : X.N[i]? = some x
  cell : X.env.scope.names.lookup x = some .cell
  free : scope.names.lookup x = some .free
  look : ∀ cells : List (Str × Addr), (cloFrom cells scope.names []).lookup x = some ((cells.lookup x).getD 0)
  cd : (x == ("__classdict__" : Str)) = false
  db : (x == ("__debug__" : Str)) = false
theorem Cap.at {scope : Scope} {x : Str} {i : Nat} {v : V} (C : Cap X scope x i) (I : Inv X pins σ H s) (hv : σ[i]? = some (some v)) : ∃ (c : Addr) (u : Value), RelV v u ∧ X.env.cells.lookup x = some c ∧ s.heap.IsCell c (some u) := by
  obtain ⟨m, hn, hl⟩ := I.loc
  obtain ⟨u, r, l⟩ := hl i x v C.N hv (.inr (.inl C.cell))
  (rcases l with ⟨hk, hm⟩ | ⟨hk, c, hc, hcell⟩)
  · have e : X.env.scope.names.lookup x = some .local := hk
    rw [C.cell] at e
    cases e
  · exact ⟨c, u, r, hc, hcell⟩
/-- the captured name is read in the generator's frame -/
theorem Cap.eval {scope : Scope} {x : Str} {i : Nat} {pos : Pos} {M : Model} {A' : Around} {E' : Value → Shared → Prop} {cenv : Env} {c : Addr} {u : Value} {s₂ : Shared} {Q : Value → Shared → Prop} (C : Cap X scope x i) (hk : scope.kind = .function) (hs : cenv.scope = scope)
    (hc : cenv.cells = cloFrom X.env.cells scope.names []) (h1 : X.env.cells.lookup x = some c) (h2 : s₂.heap.IsCell c (some u)) (q : Q u s₂) : wpAny M A' (eval (.Name x pos) cenv) Q E' s₂ := by
  refine wpAny_Name (wpAny_loadName_free (by rw [hs]; exact hk) (show cenv.scope.names.lookup x = some .free by rw [hs]; exact C.free) ?_ h2 q C.cd) C.db
  rw [hc, C.look, h1]
  rfl
theorem keep_cell {P c : Addr} {u : Value} {s s₂ : Shared} (hP : ∃ ps : Array Value, s.heap.get? P = some { cls := .none, data := .fields ps }) (k : ∀ b o, b ≠ P → s.heap.get? b = some o → s₂.heap.get? b = some o) (h : s.heap.IsCell c (some u)) : s₂.heap.IsCell c (some u) := by
  obtain ⟨o, ho, hd⟩ := h
  obtain ⟨ps, hP⟩ := hP
  refine ⟨o, k c o (fun e => ?_) ho, hd⟩
  rw [e, hP] at ho
  cases ho
  cases hd
theorem keep_list {P a : Addr} {its : Array Value} {s s₂ : Shared} (hP : ∃ ps : Array Value, s.heap.get? P = some { cls := .none, data := .fields ps }) (k : ∀ b o, b ≠ P → s.heap.get? b = some o → s₂.heap.get? b = some o) (h : PlainL s.heap a its) : PlainL s₂.heap a its := by
  obtain ⟨o, n, ho, hc, hd, hdt⟩ := h
  obtain ⟨ps, hP⟩ := hP
  refine ⟨o, n, k a o (fun e => ?_) ho, hc, hd, hdt⟩
  rw [e, hP] at ho
  cases ho
  cases hdt
theorem vals_int_get {xs : List Int} {its : List Value} {j : Nat} {u : Int} (r : Vals (xs.map V.int) its) (h : xs[j]? = some u) : ∃ t, its.toArray[j]? = some (.int u t) := by
  obtain ⟨w, h1, h2⟩ := r.get (show (xs.map V.int)[j]? = some (.int u) by rw [List.getElem?_map, h]; rfl)
  obtain ⟨t, rfl⟩ := h2
  exact ⟨t, by simpa using h1⟩
/-- a[x] op b[x], a and b lists of ints of the def, x the generator's name -/
def tzXX (K : PySem.W.Frag) (ia ib : Nat) (cmp : Int → Int → Bool) : L2.St → Hp → Int → Nat → (Nat → Bool) → Prop := fun σ H lo n pz =>
  ∃ (pa pb : Addr) (xs ys : List Int), σ[ia]? = some (some (.ref pa)) ∧ σ[ib]? = some (some (.ref pb)) ∧ SqL K H pa (xs.map V.int) ∧ SqL K H pb (ys.map V.int) ∧ 0 ≤ lo ∧ lo + n < 2 ^ 63 ∧
    ∀ i : Nat, i < n → ∃ u v : Int, xs[lo.toNat + i]? = some u ∧ ys[lo.toNat + i]? = some v ∧ pz i = cmp u v
/-- a[x] op b[y], y an int of the def -/
def tzXY (K : PySem.W.Frag) (ia ib iy : Nat) (cmp : Int → Int → Bool) : L2.St → Hp → Int → Nat → (Nat → Bool) → Prop := fun σ H lo n pz =>
  ∃ (pa pb : Addr) (xs ys : List Int) (y v : Int), σ[ia]? = some (some (.ref pa)) ∧ σ[ib]? = some (some (.ref pb)) ∧ σ[iy]? = some (some (.int y)) ∧ SqL K H pa (xs.map V.int) ∧ SqL K H pb (ys.map V.int) ∧ 0 ≤ lo ∧ lo + n < 2 ^ 63 ∧ 0 ≤ y ∧ y < 2 ^ 63 ∧
    ys[y.toNat]? = some v ∧ ∀ i : Nat, i < n → ∃ u : Int, xs[lo.toNat + i]? = some u ∧ pz i = cmp u v
theorem for_one {M : Model} {A' : Around} {E' : Value → Shared → Prop} {c : Expr} {cenv : Env} {Q : Bool → Shared → Prop} {s₂ : Shared} (h : wpAny M A' (isTrue c cenv (eval c cenv)) Q E' s₂) :
    wpAny M A' (forIn [c] true fun c r => if r = true then do let ok ← isTrue c cenv (eval c cenv); pure (ForInStep.yield ok) else pure (ForInStep.yield r)) Q E' s₂ := by
  simp only [List.forIn_cons, List.forIn_nil, if_true, bind_assoc, pure_bind]
  exact wpAny_bind (wpAny_mono h (fun b s3 q => wpAny_pure q) fun _ _ e => e)
theorem test_xx {P : Addr} {scope : Scope} {x na nb : Str} {ia ib : Nat} {op : CmpOp} {cmp : Int → Int → Bool} {p1 p2 p3 p4 q1 q2 q3 : Pos} (hk : scope.kind = .function) (hx : scope.names.lookup x = some .local) (hdx : (x == ("__debug__" : Str)) = false) (Ca : Cap X scope na ia) (Cb : Cap X scope nb ib)
    (hcmp : ∀ (A : Around) (E : Value → Shared → Prop) (s : Shared) (Q : Value → Shared → Prop) (u v : Int) (t t' : Tok), Q (.bool (cmp u v)) s → wpAny (model X.prog X.w) A (compareOp op (.int u t) (.int v t')) Q E s)
    (hm : behindInMarks op (.Subscript (.Name nb p3) (.Name x p4) q2) = false) :
    TestR X P scope x [.Compare (.Subscript (.Name na p1) (.Name x p2) q1) [op] [.Subscript (.Name nb p3) (.Name x p4) q2] q3] (tzXX X.K ia ib cmp) := by
  intro pins s σ H lo n pz I hz hP cenv A' E' i t s₂ m₂ hi hs hc hn hmx hkp
  obtain ⟨pa, pb, xs, ys, ha, hb, hxs, hys, h0, h63, htest⟩ := hz
  obtain ⟨u, v, hu, hv, hpz⟩ := htest i hi
  obtain ⟨ca, ua, ra, ca1, ca2⟩ := Ca.at I ha
  obtain ⟨cb, ub, rb, cb1, cb2⟩ := Cb.at I hb
  cases ra
  cases rb
  obtain ⟨ia', rxs, pxs, _⟩ := I.list hxs
  obtain ⟨ib', rys, pys, _⟩ := I.list hys
  obtain ⟨tu, hu'⟩ := vals_int_get rxs hu
  obtain ⟨tv, hv'⟩ := vals_int_get rys hv
  have e1 : (lo + (i : Nat) * 1).toNat = lo.toNat + i := by omega
  have b1 : 0 ≤ lo + (i : Nat) * 1 := by omega
  have b2 : lo + (i : Nat) * 1 < 2 ^ 63 := by omega
  have ex : ∀ (pos : Pos) (E'' : Value → Shared → Prop) (Q : Value → Shared → Prop), Q (.int (lo + (i : Nat) * 1) t) s₂ → wpAny (model X.prog X.w) A' (eval (.Name x pos) cenv) Q E'' s₂ := fun pos E'' Q q =>
    wpAny_Name (wpAny_loadName_local (by rw [hs]; exact hk) (show cenv.scope.names.lookup x = some .local by rw [hs]; exact hx) hn hmx q) hdx
  refine for_one (wpAny_isTrue_Compare1 ?_ hm)
  refine Subscript_ (Ca.eval hk hs hc ca1 (keep_cell hP hkp ca2) (ex _ _ _ ?_))
  refine item_listR (keep_list hP hkp pxs).isList b1 b2 (by rw [e1]; exact hu') ?_
  refine Subscript_ (Cb.eval hk hs hc cb1 (keep_cell hP hkp cb2) (ex _ _ _ ?_))
  refine item_listR (keep_list hP hkp pys).isList b1 b2 (by rw [e1]; exact hv') ?_
  refine hcmp _ _ _ _ _ _ _ _ (wpAny_truthy_bool ?_)
  exact ⟨hpz.symm, keeps_refl _⟩
theorem test_xy {P : Addr} {scope : Scope} {x na nb ny : Str} {ia ib iy : Nat} {op : CmpOp} {cmp : Int → Int → Bool} {p1 p2 p3 p4 q1 q2 q3 : Pos} (hk : scope.kind = .function) (hx : scope.names.lookup x = some .local) (hdx : (x == ("__debug__" : Str)) = false) (Ca : Cap X scope na ia) (Cb : Cap X scope nb ib) (Cy : Cap X scope ny iy)
    (hcmp : ∀ (A : Around) (E : Value → Shared → Prop) (s : Shared) (Q : Value → Shared → Prop) (u v : Int) (t t' : Tok), Q (.bool (cmp u v)) s → wpAny (model X.prog X.w) A (compareOp op (.int u t) (.int v t')) Q E s)
    (hm : behindInMarks op (.Subscript (.Name nb p3) (.Name ny p4) q2) = false) :
    TestR X P scope x [.Compare (.Subscript (.Name na p1) (.Name x p2) q1) [op] [.Subscript (.Name nb p3) (.Name ny p4) q2] q3] (tzXY X.K ia ib iy cmp) := by
  intro pins s σ H lo n pz I hz hP cenv A' E' i t s₂ m₂ hi hs hc hn hmx hkp
  obtain ⟨pa, pb, xs, ys, y, v, ha, hb, hy, hxs, hys, h0, h63, y0, y63, hv, htest⟩ := hz
  obtain ⟨u, hu, hpz⟩ := htest i hi
  obtain ⟨ca, ua, ra, ca1, ca2⟩ := Ca.at I ha
  obtain ⟨cb, ub, rb, cb1, cb2⟩ := Cb.at I hb
  obtain ⟨cy, uy, ry, cy1, cy2⟩ := Cy.at I hy
  cases ra
  cases rb
  obtain ⟨ty, rfl⟩ := ry
  obtain ⟨ia', rxs, pxs, _⟩ := I.list hxs
  obtain ⟨ib', rys, pys, _⟩ := I.list hys
  obtain ⟨tu, hu'⟩ := vals_int_get rxs hu
  obtain ⟨tv, hv'⟩ := vals_int_get rys hv
  have e1 : (lo + (i : Nat) * 1).toNat = lo.toNat + i := by omega
  have b1 : 0 ≤ lo + (i : Nat) * 1 := by omega
  have b2 : lo + (i : Nat) * 1 < 2 ^ 63 := by omega
  have ex : ∀ (pos : Pos) (E'' : Value → Shared → Prop) (Q : Value → Shared → Prop), Q (.int (lo + (i : Nat) * 1) t) s₂ → wpAny (model X.prog X.w) A' (eval (.Name x pos) cenv) Q E'' s₂ := fun pos E'' Q q =>
    wpAny_Name (wpAny_loadName_local (by rw [hs]; exact hk) (show cenv.scope.names.lookup x = some .local by rw [hs]; exact hx) hn hmx q) hdx
  refine for_one (wpAny_isTrue_Compare1 ?_ hm)
  refine Subscript_ (Ca.eval hk hs hc ca1 (keep_cell hP hkp ca2) (ex _ _ _ ?_))
  refine item_listR (keep_list hP hkp pxs).isList b1 b2 (by rw [e1]; exact hu') ?_
  refine Subscript_ (Cb.eval hk hs hc cb1 (keep_cell hP hkp cb2) (Cy.eval hk hs hc cy1 (keep_cell hP hkp cy2) ?_))
  refine item_listR (keep_list hP hkp pys).isList y0 y63 hv' ?_
  refine hcmp _ _ _ _ _ _ _ _ (wpAny_truthy_bool ?_)
  exact ⟨hpz.symm, keeps_refl _⟩
end
end V3
namespace V3
open PySem.Spec PySem L2 PyProof.Rows GxR
/-! ### data without lists lasts while lists change -/
structure KeepT (H H' : Hp) : Prop where
  tup : ∀ b xs, H b = some (.tup xs) → H' b = some (.tup xs)
  frz : ∀ b o u, H b = some (.frz o u) → H' b = some (.frz o u)
theorem KeepT.refl (H : Hp) : KeepT H H := ⟨fun _ _ h => h, fun _ _ _ h => h⟩
theorem KeepT.trans {H H1 H2 : Hp} (a : KeepT H H1) (b : KeepT H1 H2) : KeepT H H2 := ⟨fun c xs h => b.tup c xs (a.tup c xs h), fun c o u h => b.frz c o u (a.frz c o u h)⟩
theorem Same.kt {H H' : Hp} (e : Same H H') : KeepT H H' := ⟨fun _ _ h => e _ _ h, fun _ _ _ h => e _ _ h⟩
theorem kt_lst {H : Hp} {a : Addr} {xs : List V} {o : HO} (h : H a = some (.lst xs)) : KeepT H (upd H a o) :=
  ⟨fun b ys e => by rw [upd_ne (fun z => by rw [z, h] at e; cases e)]; exact e, fun b o' u e => by rw [upd_ne (fun z => by rw [z, h] at e; cases e)]; exact e⟩
theorem kt_new {H : Hp} {p : Addr} {o : HO} (h : H p = none) : KeepT H (upd H p o) := Same.kt (same_upd h)
theorem kt_tab {P : Addr} {H H' : Hp} (h : Tabbed P H H') (hP : TabG H P) : KeepT H H' := by
  obtain ⟨ps, hp, _⟩ := hP
  refine ⟨fun b xs e => ?_, fun b o u e => ?_⟩
  · rw [h.2 b (fun z => by rw [z, hp] at e; cases e)]
    exact e
  · rw [h.2 b (fun z => by rw [z, hp] at e; cases e)]
    exact e
theorem KeepT.sqT {K : PySem.W.Frag} {H H' : Hp} {a : Addr} {xs : List V} (e : KeepT H H') (h : SqT K H a xs) : SqT K H' a xs := by
  (rcases h with (h | ⟨o, h⟩) | h)
  · exact .inl (.inl (e.tup _ _ h))
  · exact .inl (.inr ⟨o, e.frz _ _ _ h⟩)
  · exact .inr h
mutual
inductive DpT (K : PySem.W.Frag) (H : Hp) : V → PyData → Prop
  | non : DpT K H .non .none
  | bl (b : Bool) : DpT K H (.bl b) (.bool b)
  | int (i : Int) : DpT K H (.int i) (.int i)
  | str (x : Str) : DpT K H (.str x) (.str x)
  | tup {a : Addr} {xs : List V} {ds : List PyData} : SqT K H a xs → DpTAll K H xs ds → DpT K H (.ref a) (.tuple ds)
inductive DpTAll (K : PySem.W.Frag) (H : Hp) : List V → List PyData → Prop
  | nil : DpTAll K H [] []
  | cons {v : V} {vs : List V} {d : PyData} {ds : List PyData} : DpT K H v d → DpTAll K H vs ds → DpTAll K H (v :: vs) (d :: ds)
end
mutual
theorem DpT.keep {K : PySem.W.Frag} {H H' : Hp} (e : KeepT H H') : ∀ {v : V} {d : PyData}, DpT K H v d → DpT K H' v d
  | _, _, .non => .non
  | _, _, .bl b => .bl b
  | _, _, .int i => .int i
  | _, _, .str x => .str x
  | _, _, .tup h a => .tup (e.sqT h) (DpTAll.keep e a)
theorem DpTAll.keep {K : PySem.W.Frag} {H H' : Hp} (e : KeepT H H') : ∀ {vs : List V} {ds : List PyData}, DpTAll K H vs ds → DpTAll K H' vs ds
  | _, _, .nil => .nil
  | _, _, .cons a b => .cons (DpT.keep e a) (DpTAll.keep e b)
end
mutual
theorem DpT.dp {K : PySem.W.Frag} {H : Hp} : ∀ {v : V} {d : PyData}, DpT K H v d → Dp K H v d
  | _, _, .non => .non
  | _, _, .bl b => .bl b
  | _, _, .int i => .int i
  | _, _, .str x => .str x
  | _, _, .tup h a => .tup h (DpTAll.dp a)
theorem DpTAll.dp {K : PySem.W.Frag} {H : Hp} : ∀ {vs : List V} {ds : List PyData}, DpTAll K H vs ds → DpAll K H vs ds
  | _, _, .nil => .nil
  | _, _, .cons a b => .cons (DpT.dp a) (DpTAll.dp b)
end
section
variable {K : PySem.W.Frag} {H : Hp}
theorem dtTup {v : V} {ds : List PyData} (h : DpT K H v (.tuple ds)) : ∃ p xs, v = .ref p ∧ SqT K H p xs ∧ DpTAll K H xs ds := by
  cases h with
  | tup a b => exact ⟨_, _, rfl, a, b⟩
theorem dtAll_app {vs ws : List V} {ds es : List PyData} (h : DpTAll K H vs ds) (g : DpTAll K H ws es) : DpTAll K H (vs ++ ws) (ds ++ es) := by
  induction ds generalizing vs with
  | nil =>
    cases h
    exact g
  | cons x ds ih =>
    cases h with
    | cons a b => exact .cons a (ih b)
theorem dtAll_len {vs : List V} {ds : List PyData} (h : DpTAll K H vs ds) : vs.length = ds.length := dpAll_len h.dp
theorem dtAll_getV {vs : List V} {ds : List PyData} {i : Nat} {v : V} (h : DpTAll K H vs ds) (e : vs[i]? = some v) : ∃ d, ds[i]? = some d ∧ DpT K H v d := by
  induction ds generalizing vs i with
  | nil =>
    cases h
    simp at e
  | cons x ds ih =>
    cases h with
    | cons a b =>
      cases i with
      | zero =>
        have q := Option.some.inj e
        subst q
        exact ⟨_, rfl, a⟩
      | succ i =>
        have q := ih (i := i) b
        exact q e
theorem dtAll_get {vs : List V} {ds : List PyData} {i : Nat} {d : PyData} (h : DpTAll K H vs ds) (e : ds[i]? = some d) : ∃ v, vs[i]? = some v ∧ DpT K H v d := by
  induction ds generalizing vs i with
  | nil => simp at e
  | cons x ds ih =>
    cases h with
    | cons a b =>
      cases i with
      | zero =>
        have q : x = d := Option.some.inj e
        subst q
        exact ⟨_, rfl, a⟩
      | succ i =>
        have q := ih (i := i) b
        exact q e
theorem dtFr {v : V} {q : Int × Int} (h : DpT K H v (frD q)) : ∃ p, v = .ref p ∧ SqT K H p [.int q.1, .int q.2] := dpFr h.dp
theorem tFr {v : V} {q : Int × Int} (h : Dp K H v (frD q)) : DpT K H v (frD q) := by
  obtain ⟨p, rfl, hs⟩ := dpFr h
  exact .tup hs (.cons (.int _) (.cons (.int _) .nil))
theorem tFrU {p : Addr} {q : Int × Int} (h : H p = some (.tup [.int q.1, .int q.2])) : DpT K H (.ref p) (frD q) := .tup (SqT.of h) (.cons (.int q.1) (.cons (.int q.2) .nil))
theorem tFrs : ∀ {vs : List V} {qs : List (Int × Int)}, DpAll K H vs (qs.map frD) → DpTAll K H vs (qs.map frD)
  | _, [], h => by
    cases h
    exact .nil
  | _, q :: r, h => by
    cases h with
    | cons a b => exact .cons (tFr a) (tFrs b)
theorem tRow {v : V} {qs : List (Int × Int)} (h : Dp K H v (rowD qs)) : DpT K H v (rowD qs) := by
  obtain ⟨p, xs, rfl, hs, ha⟩ := dpTup h
  exact .tup hs (tFrs ha)
end

/-! ### lists of ints: !=, o[i] op= e -/
theorem shaped_ints (ns : List Int) : SeqAt.shaped (.list (ns.map PyData.int)) = true := by
  have h1 : ∀ ns : List Int, PyData.canLayAll0 (ns.map PyData.int) = true := fun ns => by
    induction ns with
    | nil => rfl
    | cons a r ih => simp only [List.map_cons, PyData.canLayAll0, PyData.canLay0, ih, Bool.and_self]
  have h2 : ∀ ns : List Int, PyData.depthAll (ns.map PyData.int) = 0 := fun ns => by
    induction ns with
    | nil => rfl
    | cons a r ih => simp only [List.map_cons, PyData.depthAll, PyData.depth, ih, Nat.max_self]
  unfold SeqAt.shaped
  simp only [PyData.canLay0, PyData.depth, h1, h2, Bool.true_and, decide_eq_true_eq]
  omega
theorem eqv_ints (a b : List Int) : PyData.eqv (.list (a.map PyData.int)) (.list (b.map PyData.int)) = decide (a = b) := by
  rw [PyData.eqv]
  exact PySem.W.ked_eqvAll a b
theorem pget_list {X : Cx} : PGet X (rIxL X.K) := by
  intro pins₀ s σ₀ H o i ov₀ iv₀ Q I ro₀ ri₀ h
  obtain ⟨p, xs, k, z, rfl, rfl, hq₀, he₀, q⟩ := h
  cases ro₀
  obtain ⟨t₀, rfl⟩ := ri₀
  obtain ⟨its₀, r₀, pl₀, hz₀⟩ := I.list hq₀
  obtain ⟨j₀, h1₀, h2₀, h3₀, h4₀, h5₀⟩ := atI_get he₀
  obtain ⟨w₀, ew₀, rw₀'⟩ := r₀.get h2₀
  have hl₀ := r₀.length
  have hn₀ := line63
  have fin₀ : EP X pins₀ σ₀ Q w₀ s := ⟨z, H, I, rw₀', q⟩
  by_cases h0₀ : 0 ≤ k
  · have hj₀ : k.toNat = j₀ := by
      rw [seqIndex_of h0₀ h5₀] at h1₀
      exact Option.some.inj h1₀
    exact wpAny_getItem_list pl₀.isList h0₀ (by omega) (by rw [hj₀]; simpa using ew₀) fin₀
  · have hj₀ : (k + (its₀.toArray.size : Int)).toNat = j₀ := by
      rw [seqIndex_neg (by omega) h4₀] at h1₀
      rw [List.size_toArray, ← hl₀]
      exact Option.some.inj h1₀
    exact wpAny_getItem_list_neg pl₀.isList (by omega) (by rw [List.size_toArray] <;> omega) (by omega) (by rw [hj₀]; simpa using ew₀) fin₀

/-! ### a def that holds a generator expression -/
structure AtC (K : PySem.W.Frag) (mg : Str → Option Value) (x : Str) (st : Stmt) (c : Addr) : Prop where
  ex : ∃ (f : Addr) (oc : Value) (od : Option Addr) (kV doc pm : Value) (an : Option Addr) (ct : Value) (osl : Array (Option Value)), mg x = some (.ref f) ∧
    K.lookup f = some ⟨oc, od, .func (PySem.W.fnOf x x (defArgs st) (defBody st) (defScope st) .none kV doc pm an (.ref c) ct), osl⟩ ∧ PySem.W.codeIn K (.ref c) x = true ∧ PySem.W.keepIn K (.ref f) = true
section
variable {mg : Str → Option Value} {base : Heap} {K : PySem.W.Frag} {P : Program} {w : World}
theorem Df.mkC {x : Str} {st : Stmt} {c : Addr} {N ps : List Str} {k : Nat} {sp : Sp} (F : AtC K mg x st c) (S : FnScope N ps (defScope st)) (len : ∀ vs H Q E, sp vs H Q E → vs.length = ps.length)
    (hb : ∀ (kV doc pm : Value) (an : Option Addr) (cdv ct : Value) (us : List Value), us.length = ps.length → bindArgs (PySem.W.fnOf x x (defArgs st) (defBody st) (defScope st) .none kV doc pm an cdv ct) ⟨us, []⟩ = pure (ps.zip us))
    (hbody : ∀ (f : Addr) (A : Around) (outer : List Env) (s : Shared) (H : Hp) (vs : List V) (Q : VK) (E : XK), Room k (A.deeper (envOfC x (defScope st) s.heap.objs.size f (.ref c))) → sp vs H Q E →
      ∃ t, PSs (cxOf CX0 P w K mg base N x (defScope st) f (.ref c) A outer s H E).nox (defBody st) t ∧ t { nx := fun _ H' => Q .non H', rt := Q } (start N vs) H) : Df P w K mg base x (k + 1) ps sp := by
  obtain ⟨f, oc, od, kV, doc, pm, an, ct, osl, g, lk, hcd, hk⟩ := F.ex
  refine ⟨f, _, g, hk, .all (hb kV doc pm an (.ref c) ct), fn_of lk hcd S len fun A outer s H vs Q E hr hsp => ?_, oc, od, osl, lk⟩
  obtain ⟨t, h, q⟩ := hbody f A outer s H vs Q E hr hsp
  exact ⟨t, h.nox, q⟩
end
/-- all but the table at P stands -/
def But (P : Addr) (H H' : Hp) : Prop := ∀ b o, b ≠ P → H b = some o → H' b = some o
theorem But.trans {P : Addr} {H H1 H2 : Hp} (a : But P H H1) (b : But P H1 H2) : But P H H2 := fun c o n h => b c o n (a c o n h)
theorem But.refl (P : Addr) (H : Hp) : But P H H := fun _ _ _ h => h
theorem Same.but {P : Addr} {H H' : Hp} (e : Same H H') : But P H H' := fun b o _ h => e b o h
theorem tab_but {P : Addr} {H H' : Hp} (h : Tabbed P H H') : But P H H' := fun b o n e => by rw [h.2 b n]; exact e
theorem But.kt {P : Addr} {H H' : Hp} (h : But P H H') (hP : TabG H P) : KeepT H H' := by
  obtain ⟨ps, hp, _⟩ := hP
  exact ⟨fun b xs e => h b _ (fun z => by rw [z, hp] at e; cases e) e, fun b o u e => h b _ (fun z => by rw [z, hp] at e; cases e) e⟩
theorem But.seq {P : Addr} {K : PySem.W.Frag} {H H' : Hp} {a : Addr} {xs : List V} (e : But P H H') (hP : TabG H P) (h : SqL K H a xs) : SqL K H' a xs := by
  obtain ⟨ps, hp, _⟩ := hP
  (rcases h with (h | ⟨o, h⟩) | h)
  · exact .inl (.inl (e _ _ (fun z => by rw [z, hp] at h; cases h) h))
  · exact .inl (.inr ⟨o, e _ _ (fun z => by rw [z, hp] at h; cases h) h⟩)
  · exact .inr h
theorem TabG.same {P : Addr} {H H' : Hp} (h : TabG H P) (e : Same H H') : TabG H' P := by
  obtain ⟨ps, hp, t⟩ := h
  exact ⟨ps, e _ _ hp, t⟩
theorem TabG.lst {P a : Addr} {H : Hp} {xs : List V} {o : HO} (h : TabG H P) (e : H a = some (.lst xs)) : TabG (upd H a o) P := by
  obtain ⟨ps, hp, t⟩ := h
  exact ⟨ps, by rw [upd_ne (fun z => by rw [z, e] at hp; cases hp)]; exact hp, t⟩
end V3
set_option maxHeartbeats 2100000
namespace V3
open PySem.Spec PySem L2 PyProof.Rows
def topS (i : Nat) : Stmt := PySem.Challenge.pw_rootsabove_k33_whole_spread_rows_decided.main.body.getD i (.Pass ⟨0, 0, 0, 0⟩)

/-! ### numbers -/
/-- n / u in lowest terms (u above 0) -/
def nf (n u : Int) : Int × Int := (n / (Int.gcd n u : Int), u / (Int.gcd n u : Int))
abbrev Sz (x : Int) : Prop := x.natAbs < 2 ^ 9000

/-! ### names of the module -/
structure Gs (mg : Str → Option Value) : Prop where
  gcd : mg "gcd" = some (.builtin "math.gcd")
  lcm : mg "lcm" = some (.builtin "math.lcm")
  MOST : ∃ t, mg "MOST_ROOTS" = some (.int 6 t)
  type_ : mg "type" = none
  int_ : mg "int" = none
  tuple_ : mg "tuple" = none
  list_ : mg "list" = none
  bool_ : mg "bool" = none
  str_ : mg "str" = none
  len : mg "len" = none
  range : mg "range" = none
  enumerate : mg "enumerate" = none
  zip : mg "zip" = none
  sorted : mg "sorted" = none
  max : mg "max" = none
  min : mg "min" = none
  abs : mg "abs" = none
  divmod : mg "divmod" = none
  isinstance : mg "isinstance" = none
  all : mg "all" = none

section
variable {mg : Str → Option Value} {base : Heap} {K : PySem.W.Frag} {P : Program} {w : World}
/-! ### fraction -/
abbrev s_fraction : Stmt := topS 7
abbrev N_fraction : List Str := ["number", "under", "shared"]
theorem sc_fraction : FnScope N_fraction ["number", "under"] (defScope s_fraction) := ⟨rfl, rfl, rfl, by decide +kernel, rfl, by decide +kernel, by decide +kernel⟩
def spFraction : Sp := fun vs H Q _ => ∃ n u : Int, vs = [.int n, .int u] ∧ 0 < u ∧ Sz u ∧ ∀ H' p, Same H H' → H' p = some (.tup [.int (nf n u).1, .int (nf n u).2]) → Q (.ref p) H'
theorem gcd_pos_r {n u : Int} (h : 0 < u) : 0 < (Int.gcd n u : Int) := by
  have : 0 < Int.gcd n u := Int.gcd_pos_of_ne_zero_right n (by omega)
  omega
theorem gcd_le_r {n u : Int} (h : 0 < u) : (Int.gcd n u : Int) ≤ u := Int.le_of_dvd h (Int.gcd_dvd_right ..)
theorem ok_fraction (T : Gs mg) (F : At K mg "fraction" s_fraction) : Df P w K mg base "fraction" 1 ["number", "under"] spFraction := by
  have sc := sc_fraction
  refine Df.mk' F sc (fun vs H Q E h => ?_) (fun _ _ _ _ _ _ us hl => match us, hl with | [_, _], _ => rfl) (fun f cdv A outer s H vs Q E hr h => ?_)
  · obtain ⟨n, u, rfl, _⟩ := h
    rfl
  · obtain ⟨n, u, rfl, hu, su, q⟩ := h
    refine ⟨_, (pss_cons (ps_set (i := 2) sc.nd rfl (Or.inl rfl) (pe_callBfun cr_gcd (by rfl) T.gcd (pa_cons (pv 0) (pa_cons (pv 1) pa_nil))))
      (pss_cons (ps_if (pt_cmpR op_lt (pv 1) pe_int (nomark _))
       (pss_one (ps_set (i := 2) sc.nd rfl (Or.inl rfl) (pe_un un_neg (pv 2))))
       pss_nil)
      (pss_one (ps_ret (pe_tup (pa_cons (pe_op op_fdivW (pv 0) (pv 2)) (pa_cons (pe_op op_fdivW (pv 1) (pv 2)) pa_nil))))))), ?_⟩
    have g0 := gcd_pos_r (n := n) hu
    have g1 := gcd_le_r (n := n) hu
    have w : CDivW n (Int.gcd n u : Int) := wide_div g0 (b := 9000) (wide_le (by omega) g1 su) (by decide) (by decide)
    refine ⟨_, rfl, _, rfl, n, u, rfl, ?_⟩
    refine ⟨_, rfl, _, _, rfl, rfl, _, rfl, ite2 (fun e => ?_) (fun e => ?_)⟩
    · exact absurd (of_decide_eq_true e) (by omega)
    · refine ⟨_, rfl, _, rfl, _, _, rfl, rfl, w, _, rfl, _, rfl, _, _, rfl, rfl, w, by show 2 ≤ sizeLine; decide, fun p hp => ?_⟩
      exact q _ p (same_upd hp) upd_same

/-! ### arithmetic of fractions -/
/-- a fraction of bounded size -/
structure Sf (q : Int × Int) : Prop where
  pos : 0 < q.2
  s1 : q.1.natAbs < 2 ^ 4000
  s2 : q.2.natAbs < 2 ^ 4000
theorem mulW {i j : Int} (h : i.natAbs < 2 ^ 4000) (h' : j.natAbs < 2 ^ 4000) : CMulW i j := wide_mul h h' (by decide) (by decide) (by decide)
theorem pow_le_pow' {a b : Nat} (h : a ≤ b) : 2 ^ a ≤ 2 ^ b := Nat.pow_le_pow_right (by decide) h
theorem szMul {i j : Int} (h : i.natAbs < 2 ^ 4000) (h' : j.natAbs < 2 ^ 4000) : Sz (i * j) :=
  Nat.lt_of_lt_of_le (wide_lt h h') (pow_le_pow' (by decide))
def spF2 (K : PySem.W.Frag) (f : Int × Int → Int × Int → Int × Int) : Sp := fun vs H Q _ => ∃ (v w : V) (x y : Int × Int), vs = [v, w] ∧ Dp K H v (frD x) ∧ Dp K H w (frD y) ∧ Sf x ∧ Sf y ∧
  ∀ H' p, Same H H' → H' p = some (.tup [.int (f x y).1, .int (f x y).2]) → Q (.ref p) H'
def qadd (x y : Int × Int) : Int × Int := nf (x.1 * y.2 + y.1 * x.2) (x.2 * y.2)
def qsub (x y : Int × Int) : Int × Int := nf (x.1 * y.2 - y.1 * x.2) (x.2 * y.2)
def qmul (x y : Int × Int) : Int × Int := nf (x.1 * y.1) (x.2 * y.2)
theorem at0 {α : Type} {x y : α} : atI [x, y] 0 = some x := atI_nat (j := 0) rfl
theorem at1 {α : Type} {x y : α} : atI [x, y] 1 = some y := atI_nat (j := 1) rfl
abbrev s_plus : Stmt := topS 8
abbrev N_two : List Str := ["one", "other"]
theorem sc_plus : FnScope N_two ["one", "other"] (defScope s_plus) := ⟨rfl, rfl, rfl, by decide +kernel, rfl, by decide +kernel, by decide +kernel⟩
theorem ok_plus (DF : Df P w K mg base "fraction" 1 ["number", "under"] spFraction) (F : At K mg "plus" s_plus) : Df P w K mg base "plus" 2 ["one", "other"] (spF2 K qadd) := by
  have sc := sc_plus
  refine Df.mk' F sc (fun vs H Q E h => ?_) (fun _ _ _ _ _ _ us hl => match us, hl with | [_, _], _ => rfl) (fun f cdv A outer s H vs Q E hr h => ?_)
  · obtain ⟨v, w, x, y, rfl, _⟩ := h
    rfl
  · obtain ⟨v, w, x, y, rfl, hx, hy, sx, sy, q⟩ := h
    obtain ⟨p, rfl, hp⟩ := dpFr hx
    obtain ⟨p', rfl, hp'⟩ := dpFr hy
    refine ⟨_, (pss_one (ps_ret (pe_fn DF (by decide) hr (pa_cons (pe_op op_add (pe_op op_mulW (pe_ix ix_tup (pv 0) pe_int (fun _ _ => rfl)) (pe_ix ix_tup (pv 1) pe_int (fun _ _ => rfl))) (pe_op op_mulW (pe_ix ix_tup (pv 1) pe_int (fun _ _ => rfl)) (pe_ix ix_tup (pv 0) pe_int (fun _ _ => rfl)))) (pa_cons (pe_op op_mulW (pe_ix ix_tup (pv 0) pe_int (fun _ _ => rfl)) (pe_ix ix_tup (pv 1) pe_int (fun _ _ => rfl))) pa_nil))))), ?_⟩
    refine ⟨_, rfl, _, _, _, _, rfl, rfl, hp, at0, _, rfl, _, _, _, _, rfl, rfl, hp', at1, _, _, rfl, rfl, mulW sx.s1 sy.s2, ?_⟩
    refine ⟨_, rfl, _, _, _, _, rfl, rfl, hp', at0, _, rfl, _, _, _, _, rfl, rfl, hp, at1, _, _, rfl, rfl, mulW sy.s1 sx.s2, ?_⟩
    refine ⟨_, _, rfl, rfl, ?_⟩
    refine ⟨_, rfl, _, _, _, _, rfl, rfl, hp, at1, _, rfl, _, _, _, _, rfl, rfl, hp', at1, _, _, rfl, rfl, mulW sx.s2 sy.s2, ?_⟩
    exact ⟨_, _, rfl, Int.mul_pos sx.pos sy.pos, szMul sx.s2 sy.s2, q⟩
abbrev s_minus : Stmt := topS 9
theorem sc_minus : FnScope N_two ["one", "other"] (defScope s_minus) := ⟨rfl, rfl, rfl, by decide +kernel, rfl, by decide +kernel, by decide +kernel⟩
theorem ok_minus (DF : Df P w K mg base "fraction" 1 ["number", "under"] spFraction) (F : At K mg "minus" s_minus) : Df P w K mg base "minus" 2 ["one", "other"] (spF2 K qsub) := by
  have sc := sc_minus
  refine Df.mk' F sc (fun vs H Q E h => ?_) (fun _ _ _ _ _ _ us hl => match us, hl with | [_, _], _ => rfl) (fun f cdv A outer s H vs Q E hr h => ?_)
  · obtain ⟨v, w, x, y, rfl, _⟩ := h
    rfl
  · obtain ⟨v, w, x, y, rfl, hx, hy, sx, sy, q⟩ := h
    obtain ⟨p, rfl, hp⟩ := dpFr hx
    obtain ⟨p', rfl, hp'⟩ := dpFr hy
    refine ⟨_, (pss_one (ps_ret (pe_fn DF (by decide) hr (pa_cons (pe_op op_sub (pe_op op_mulW (pe_ix ix_tup (pv 0) pe_int (fun _ _ => rfl)) (pe_ix ix_tup (pv 1) pe_int (fun _ _ => rfl))) (pe_op op_mulW (pe_ix ix_tup (pv 1) pe_int (fun _ _ => rfl)) (pe_ix ix_tup (pv 0) pe_int (fun _ _ => rfl)))) (pa_cons (pe_op op_mulW (pe_ix ix_tup (pv 0) pe_int (fun _ _ => rfl)) (pe_ix ix_tup (pv 1) pe_int (fun _ _ => rfl))) pa_nil))))), ?_⟩
    refine ⟨_, rfl, _, _, _, _, rfl, rfl, hp, at0, _, rfl, _, _, _, _, rfl, rfl, hp', at1, _, _, rfl, rfl, mulW sx.s1 sy.s2, ?_⟩
    refine ⟨_, rfl, _, _, _, _, rfl, rfl, hp', at0, _, rfl, _, _, _, _, rfl, rfl, hp, at1, _, _, rfl, rfl, mulW sy.s1 sx.s2, ?_⟩
    refine ⟨_, _, rfl, rfl, ?_⟩
    refine ⟨_, rfl, _, _, _, _, rfl, rfl, hp, at1, _, rfl, _, _, _, _, rfl, rfl, hp', at1, _, _, rfl, rfl, mulW sx.s2 sy.s2, ?_⟩
    exact ⟨_, _, rfl, Int.mul_pos sx.pos sy.pos, szMul sx.s2 sy.s2, q⟩
abbrev s_times : Stmt := topS 10
theorem sc_times : FnScope N_two ["one", "other"] (defScope s_times) := ⟨rfl, rfl, rfl, by decide +kernel, rfl, by decide +kernel, by decide +kernel⟩
theorem ok_times (DF : Df P w K mg base "fraction" 1 ["number", "under"] spFraction) (F : At K mg "times" s_times) : Df P w K mg base "times" 2 ["one", "other"] (spF2 K qmul) := by
  have sc := sc_times
  refine Df.mk' F sc (fun vs H Q E h => ?_) (fun _ _ _ _ _ _ us hl => match us, hl with | [_, _], _ => rfl) (fun f cdv A outer s H vs Q E hr h => ?_)
  · obtain ⟨v, w, x, y, rfl, _⟩ := h
    rfl
  · obtain ⟨v, w, x, y, rfl, hx, hy, sx, sy, q⟩ := h
    obtain ⟨p, rfl, hp⟩ := dpFr hx
    obtain ⟨p', rfl, hp'⟩ := dpFr hy
    refine ⟨_, (pss_one (ps_ret (pe_fn DF (by decide) hr (pa_cons (pe_op op_mulW (pe_ix ix_tup (pv 0) pe_int (fun _ _ => rfl)) (pe_ix ix_tup (pv 1) pe_int (fun _ _ => rfl))) (pa_cons (pe_op op_mulW (pe_ix ix_tup (pv 0) pe_int (fun _ _ => rfl)) (pe_ix ix_tup (pv 1) pe_int (fun _ _ => rfl))) pa_nil))))), ?_⟩
    refine ⟨_, rfl, _, _, _, _, rfl, rfl, hp, at0, _, rfl, _, _, _, _, rfl, rfl, hp', at0, _, _, rfl, rfl, mulW sx.s1 sy.s1, ?_⟩
    refine ⟨_, rfl, _, _, _, _, rfl, rfl, hp, at1, _, rfl, _, _, _, _, rfl, rfl, hp', at1, _, _, rfl, rfl, mulW sx.s2 sy.s2, ?_⟩
    exact ⟨_, _, rfl, Int.mul_pos sx.pos sy.pos, szMul sx.s2 sy.s2, q⟩
abbrev s_is_above : Stmt := topS 11
theorem sc_is_above : FnScope N_two ["one", "other"] (defScope s_is_above) := ⟨rfl, rfl, rfl, by decide +kernel, rfl, by decide +kernel, by decide +kernel⟩
def spF2b (K : PySem.W.Frag) (f : Int × Int → Int × Int → Bool) : Sp := fun vs H Q _ => ∃ (v w : V) (x y : Int × Int), vs = [v, w] ∧ Dp K H v (frD x) ∧ Dp K H w (frD y) ∧ Sf x ∧ Sf y ∧ Q (.bl (f x y)) H
theorem ok_is_above (F : At K mg "is_above" s_is_above) : Df P w K mg base "is_above" 1 ["one", "other"] (spF2b K fun x y => decide (y.1 * x.2 < x.1 * y.2)) := by
  have sc := sc_is_above
  refine Df.mk' F sc (fun vs H Q E h => ?_) (fun _ _ _ _ _ _ us hl => match us, hl with | [_, _], _ => rfl) (fun f cdv A outer s H vs Q E hr h => ?_)
  · obtain ⟨v, w, x, y, rfl, _⟩ := h
    rfl
  · obtain ⟨v, w, x, y, rfl, hx, hy, sx, sy, q⟩ := h
    obtain ⟨p, rfl, hp⟩ := dpFr hx
    obtain ⟨p', rfl, hp'⟩ := dpFr hy
    refine ⟨_, (pss_one (ps_ret (pe_cmpR op_gt (pe_op op_mulW (pe_ix ix_tup (pv 0) pe_int (fun _ _ => rfl)) (pe_ix ix_tup (pv 1) pe_int (fun _ _ => rfl))) (pe_op op_mulW (pe_ix ix_tup (pv 1) pe_int (fun _ _ => rfl)) (pe_ix ix_tup (pv 0) pe_int (fun _ _ => rfl))) (nomark _)))), ?_⟩
    refine ⟨_, rfl, _, _, _, _, rfl, rfl, hp, at0, _, rfl, _, _, _, _, rfl, rfl, hp', at1, _, _, rfl, rfl, mulW sx.s1 sy.s2, ?_⟩
    refine ⟨_, rfl, _, _, _, _, rfl, rfl, hp', at0, _, rfl, _, _, _, _, rfl, rfl, hp, at1, _, _, rfl, rfl, mulW sy.s1 sx.s2, ?_⟩
    exact ⟨_, _, rfl, rfl, q⟩

/-! ### looks -/
abbrev s_is_whole : Stmt := topS 16
abbrev N_value : List Str := ["value"]
theorem sc_is_whole : FnScope N_value ["value"] (defScope s_is_whole) := ⟨rfl, rfl, rfl, by decide +kernel, rfl, by decide +kernel, by decide +kernel⟩
def spWhole (K : PySem.W.Frag) : Sp := fun vs H Q _ => ∃ v T, vs = [v] ∧ TyB K H v T ∧ Q (.bl (decide (T = "int"))) H
theorem ok_is_whole (T : Gs mg) (F : At K mg "is_whole" s_is_whole) : Df P w K mg base "is_whole" 1 ["value"] (spWhole K) := by
  have sc := sc_is_whole
  refine Df.mk' F sc (fun vs H Q E h => ?_) (fun _ _ _ _ _ _ us hl => match us, hl with | [_], _ => rfl) (fun f cdv A outer s H vs Q E hr h => ?_)
  · obtain ⟨v, T, rfl, _⟩ := h
    rfl
  · obtain ⟨v, Ty, rfl, ty, q⟩ := h
    refine ⟨_, (pss_one (ps_ret (pe_cmpR op_isTyB (pe_callTy call_type1 (by rfl) T.type_ (by decide +kernel) (pa_cons (pv 0) pa_nil)) (pe_bltn (v := .ty "int") (by rfl) T.int_ (by decide +kernel) rfl) (nomark _)))), ?_⟩
    exact ⟨_, rfl, _, _, rfl, ty, _, _, rfl, rfl, q⟩
abbrev s_is_whole_within : Stmt := topS 17
abbrev N_is_whole_within : List Str := ["value", "least", "most"]
theorem sc_is_whole_within : FnScope N_is_whole_within ["value", "least", "most"] (defScope s_is_whole_within) := ⟨rfl, rfl, rfl, by decide +kernel, rfl, by decide +kernel, by decide +kernel⟩
def spWithin : Sp := fun vs H Q _ => ∃ i lo hi : Int, vs = [.int i, .int lo, .int hi] ∧ Q (.bl (decide (lo ≤ i ∧ i ≤ hi))) H
theorem ok_is_whole_within (D1 : Df P w K mg base "is_whole" 1 ["value"] (spWhole K)) (F : At K mg "is_whole_within" s_is_whole_within) : Df P w K mg base "is_whole_within" 2 ["value", "least", "most"] spWithin := by
  have sc := sc_is_whole_within
  refine Df.mk' F sc (fun vs H Q E h => ?_) (fun _ _ _ _ _ _ us hl => match us, hl with | [_, _, _], _ => rfl) (fun f cdv A outer s H vs Q E hr h => ?_)
  · obtain ⟨i, lo, hi, rfl, _⟩ := h
    rfl
  · obtain ⟨i, lo, hi, rfl, q⟩ := h
    refine ⟨_, (pss_one (ps_ret (pe_and (pe_fn D1 (by decide) hr (pa_cons (pv 0) pa_nil)) (pe_one (pe_chain op_le op_le (pv 1) (pv 0) (pv 2)))))), ?_⟩
    refine ⟨_, rfl, _, _, rfl, .int i, _, rfl, ifT (by decide) ?_⟩
    refine ⟨_, rfl, _, rfl, _, _, rfl, rfl, _, rfl, if2 (fun e => ?_) (fun e => ?_)⟩
    · refine ⟨_, rfl, _, _, rfl, rfl, ?_⟩
      have e' := of_decide_eq_true e
      have ee : decide (lo ≤ i ∧ i ≤ hi) = decide (i ≤ hi) := by simp [e']
      rw [ee] at q
      exact q
    · have e' := of_decide_eq_false e
      have ee : decide (lo ≤ i ∧ i ≤ hi) = false := by simp [e']
      rw [ee] at q
      exact q
abbrev s_is_tuple_of : Stmt := topS 18
abbrev N_is_tuple_of : List Str := ["value", "size"]
theorem sc_is_tuple_of : FnScope N_is_tuple_of ["value", "size"] (defScope s_is_tuple_of) := ⟨rfl, rfl, rfl, by decide +kernel, rfl, by decide +kernel, by decide +kernel⟩
/-- of a tuple -/
def spTupOf (K : PySem.W.Frag) : Sp := fun vs H Q _ => ∃ (a : Addr) (xs : List V) (n : Int), vs = [.ref a, .int n] ∧ SqT K H a xs ∧ Q (.bl (decide ((xs.length : Int) = n))) H
theorem ok_is_tuple_of (T : Gs mg) (F : At K mg "is_tuple_of" s_is_tuple_of) : Df P w K mg base "is_tuple_of" 1 ["value", "size"] (spTupOf K) := by
  have sc := sc_is_tuple_of
  refine Df.mk' F sc (fun vs H Q E h => ?_) (fun _ _ _ _ _ _ us hl => match us, hl with | [_, _], _ => rfl) (fun f cdv A outer s H vs Q E hr h => ?_)
  · obtain ⟨a, xs, n, rfl, _⟩ := h
    rfl
  · obtain ⟨a, xs, n, rfl, ha, q⟩ := h
    refine ⟨_, (pss_one (ps_ret (pe_and (pe_cmpR op_isTyB (pe_callTy call_type1 (by rfl) T.type_ (by decide +kernel) (pa_cons (pv 0) pa_nil)) (pe_bltn (v := .ty "tuple") (by rfl) T.tuple_ (by decide +kernel) rfl) (nomark _)) (pe_one (pe_cmpR op_eq (pe_callB call_len_seq (by rfl) T.len PySem.boot_len (pa_cons (pv 0) pa_nil)) (pv 1) (nomark _)))))), ?_⟩
    refine ⟨_, rfl, _, _, rfl, .tup ha, _, _, rfl, rfl, _, rfl, ifT (by decide) ?_⟩
    refine ⟨_, rfl, _, _, rfl, .inr ha, _, rfl, rfl, ?_⟩
    have ee : decide (V.int (xs.length : Int) = V.int n) = decide ((xs.length : Int) = n) := by simp
    rw [← ee] at q
    exact q
end
end V3
namespace V3
open PySem.Spec PySem L2 PyProof.Rows
section
variable {mg : Str → Option Value} {base : Heap} {K : PySem.W.Frag} {P : Program} {w : World}
/-- in lowest terms -/
structure Nf (q : Int × Int) : Prop where
  pos : 0 < q.2
  one : Int.gcd q.1 q.2 = 1
abbrev s_is_fraction : Stmt := topS 19
abbrev N_is_fraction : List Str := ["value", "number", "under"]
theorem sc_is_fraction : FnScope N_is_fraction ["value"] (defScope s_is_fraction) := ⟨rfl, rfl, rfl, by decide +kernel, rfl, by decide +kernel, by decide +kernel⟩
def spIsFr (K : PySem.W.Frag) : Sp := fun vs H Q _ => ∃ v q, vs = [v] ∧ Dp K H v (frD q) ∧ Nf q ∧ Q (.bl true) H
theorem ok_is_fraction (T : Gs mg) (D1 : Df P w K mg base "is_whole" 1 ["value"] (spWhole K)) (D2 : Df P w K mg base "is_tuple_of" 1 ["value", "size"] (spTupOf K)) (F : At K mg "is_fraction" s_is_fraction) :
    Df P w K mg base "is_fraction" 2 ["value"] (spIsFr K) := by
  have sc := sc_is_fraction
  refine Df.mk' F sc (fun vs H Q E h => ?_) (fun _ _ _ _ _ _ us hl => match us, hl with | [_], _ => rfl) (fun f cdv A outer s H vs Q E hr h => ?_)
  · obtain ⟨a, q, rfl, _⟩ := h
    rfl
  · obtain ⟨v, x, rfl, hx, ok, q⟩ := h
    obtain ⟨p, rfl, hp⟩ := dpFr hx
    refine ⟨_, (pss_cons (ps_if (pt_not (pt_val (pe_fn D2 (by decide) hr (pa_cons (pv 0) (pa_cons pe_int pa_nil)))))
   (pss_one (ps_ret pe_bl))
   pss_nil)
  (pss_cons (ps_asg (pv 0) (pg_tup rfl (pgs_cons (pg_name (i := 1) sc.nd rfl (Or.inl rfl)) (pgs_cons (pg_name (i := 2) sc.nd rfl (Or.inl rfl)) pgs_nil))))
  (pss_one (ps_ret (pe_and (pe_fn D1 (by decide) hr (pa_cons (pv 1) pa_nil)) (pe_and (pe_fn D1 (by decide) hr (pa_cons (pv 2) pa_nil)) (pe_and (pe_cmpR op_gt (pv 2) pe_int (nomark _)) (pe_one (pe_cmpR op_eq (pe_callBfun cr_gcd (by rfl) T.gcd (pa_cons (pv 1) (pa_cons (pv 2) pa_nil))) pe_int (nomark _)))))))))), ?_⟩
    refine ⟨_, rfl, _, _, _, rfl, hp, _, rfl, ifF rfl ?_⟩
    refine ⟨_, rfl, _, _, rfl, hp, rfl, _, _, rfl, _, _, rfl, rfl, ?_⟩
    refine ⟨_, rfl, _, _, rfl, .int _, _, rfl, ifT (by decide) ?_⟩
    refine ⟨_, rfl, _, _, rfl, .int _, _, rfl, ifT (by decide) ?_⟩
    refine ⟨_, rfl, _, _, rfl, rfl, _, rfl, ifT (decide_eq_true ok.pos) ?_⟩
    (refine ⟨_, rfl, _, rfl, _, _, rfl, rfl, ?_⟩)
    have e : (Nat.gcd x.1.natAbs x.2.natAbs : Nat) = 1 := ok.one
    rw [e]
    exact q
abbrev s_first : Stmt := topS 20
abbrev N_first : List Str := ["values", "index", "value"]
theorem sc_first : FnScope N_first ["values"] (defScope s_first) := ⟨rfl, rfl, rfl, by decide +kernel, rfl, by decide +kernel, by decide +kernel⟩
def spFirst (K : PySem.W.Frag) : Sp := fun vs H Q _ => ∃ v qs, vs = [v] ∧ Dp K H v (rowD qs) ∧ (∀ q ∈ qs, Nf q) ∧ ∀ H', Same H H' → Q .non H'
theorem ok_first (T : Gs mg) (D1 : Df P w K mg base "is_fraction" 2 ["value"] (spIsFr K)) (F : At K mg "first_unlike_fraction" s_first) :
    Df P w K mg base "first_unlike_fraction" 3 ["values"] (spFirst K) := by
  have sc := sc_first
  refine Df.mk' F sc (fun vs H Q E h => ?_) (fun _ _ _ _ _ _ us hl => match us, hl with | [_], _ => rfl) (fun f cdv A outer s H vs Q E hr h => ?_)
  · obtain ⟨a, q, rfl, _⟩ := h
    rfl
  · obtain ⟨v, qs, rfl, hx, ok, q⟩ := h
    obtain ⟨p, xs, rfl, hp, ha⟩ := dpTup hx
    refine ⟨_, (pss_cons (ps_for PassesOwn.never rfl (pi_enumT (by rfl) T.enumerate (pa_cons (pv 0) pa_nil)) (pg_tup rfl (pgs_cons (pg_name (i := 1) sc.nd rfl (Or.inl rfl)) (pgs_cons (pg_name (i := 2) sc.nd rfl (Or.inl rfl)) pgs_nil)))
   (pss_one (ps_if (pt_not (pt_val (pe_fn D1 (by decide) hr (pa_cons (pv 2) pa_nil))))
   (pss_one (ps_ret (pv 1)))
   pss_nil)))
  (pss_one (ps_ret pe_non))), ?_⟩
    refine ⟨_, rfl, p, xs, rfl, hp, for_enumT (K := K) (a := p) (xs := xs) (fun i σ H' => (∃ y z, σ = [some (.ref p), y, z]) ∧ Same H H') ⟨⟨none, none, rfl⟩, Same.refl _⟩ (fun i σ H' _ h => sameT h.2 hp) ?_ ?_⟩
    · rintro i x T' σ H' hi ⟨⟨y, z, rfl⟩, sm⟩ hT
      obtain ⟨d, hd, hdp⟩ := dpAll_getV ha hi
      rw [List.getElem?_map] at hd
      obtain ⟨qq, hq, rfl⟩ := Option.map_eq_some_iff.mp hd
      have sm2 : Same H (upd H' T' (.tup [.int (i : Nat), x])) := sm.trans (same_upd hT)
      refine ⟨T', _, rfl, SqT.of upd_same, rfl, _, _, rfl, _, _, rfl, rfl, ?_⟩
      refine ⟨_, rfl, _, qq, rfl, Dp.same sm2 hdp, ok qq (List.mem_of_getElem? hq), _, rfl, ifF rfl ?_⟩
      exact ⟨⟨_, _, rfl⟩, sm2⟩
    · rintro σ H' ⟨_, sm⟩
      exact q H' sm
abbrev s_check_row : Stmt := topS 21
abbrev N_check_row : List Str := ["row", "size", "wrong"]
theorem sc_check_row : FnScope N_check_row ["row", "size"] (defScope s_check_row) := ⟨rfl, rfl, rfl, by decide +kernel, rfl, by decide +kernel, by decide +kernel⟩
def spCheckRow (K : PySem.W.Frag) : Sp := fun vs H Q _ => ∃ v qs, vs = [v, .int (List.length qs : Nat)] ∧ Dp K H v (rowD qs) ∧ (∀ q ∈ qs, Nf q) ∧ ∀ H', Same H H' → Q .non H'
theorem ok_check_row (D1 : Df P w K mg base "is_tuple_of" 1 ["value", "size"] (spTupOf K)) (D2 : Df P w K mg base "first_unlike_fraction" 3 ["values"] (spFirst K)) (F : At K mg "check_row" s_check_row) :
    Df P w K mg base "check_row" 4 ["row", "size"] (spCheckRow K) := by
  have sc := sc_check_row
  refine Df.mk' F sc (fun vs H Q E h => ?_) (fun _ _ _ _ _ _ us hl => match us, hl with | [_, _], _ => rfl) (fun f cdv A outer s H vs Q E hr h => ?_)
  · obtain ⟨a, q, rfl, _⟩ := h
    rfl
  · obtain ⟨v, qs, rfl, hx, ok, q⟩ := h
    obtain ⟨p, xs, rfl, hp, ha⟩ := dpTup hx
    have hl : xs.length = qs.length := by rw [dpAll_len ha, List.length_map]
    refine ⟨_, (pss_cons (ps_if (pt_not (pt_val (pe_fn D1 (by decide) hr (pa_cons (pv 0) (pa_cons (pv 1) pa_nil)))))
   (pss_one ps_never)
   pss_nil)
  (pss_cons (ps_set (i := 2) sc.nd rfl (Or.inl rfl) (pe_fn D2 (by decide) hr (pa_cons (pv 0) pa_nil)))
  (pss_one (ps_if (pt_cmpR op_notN (pv 2) pe_non (nomark _))
   (pss_one ps_never)
   pss_nil)))), ?_⟩
    refine ⟨_, rfl, _, rfl, p, xs, _, rfl, hp, _, rfl, ifF ?_ ?_⟩
    · rw [hl]
      simp
    · refine ⟨_, rfl, _, qs, rfl, hx, ok, fun H' sm => ?_⟩
      refine ⟨_, rfl, rfl, _, rfl, ifF (by decide) ?_⟩
      exact q H' sm
end
end V3
namespace V3
open PySem.Spec PySem L2 PyProof.Rows
/-- a is not below b -/
def Dn (a b : Int × Int) : Prop := b.1 * a.2 ≤ a.1 * b.2
def Desc (qs : List (Int × Int)) : Prop := ∀ i a b, qs[i]? = some a → qs[i + 1]? = some b → Dn a b
theorem take_more {α : Type} : ∀ {l : List α} {i : Nat} {x : α}, l[i]? = some x → (l.take (i + 1) = l.take i ++ [x])
  | [], i, x, h => by simp at h
  | a :: l, 0, x, h => by
    (have e : a = x := Option.some.inj h)
    subst e
    rfl
  | a :: l, i + 1, x, h => by
    (have ih := take_more (l := l) (i := i) (x := x) h)
    (show a :: l.take (i + 1) = a :: l.take i ++ [x])
    rw [ih]
    rfl
/-! ### the shared denominator -/
def lcmRow (u : Nat) (row : List (Int × Int)) : Nat := row.foldl (fun u q => Nat.lcm u q.2.natAbs) u
def lcmAll (rows : List (List (Int × Int))) : Nat := rows.foldl lcmRow 1
theorem lcmRow_dvd : ∀ (row : List (Int × Int)) (u : Nat), u ∣ lcmRow u row
  | [], u => Nat.dvd_refl u
  | q :: r, u => Nat.dvd_trans (Nat.dvd_lcm_left u q.2.natAbs) (lcmRow_dvd r _)
theorem lcmRow_mem : ∀ (row : List (Int × Int)) (u : Nat) (q : Int × Int), q ∈ row → q.2.natAbs ∣ lcmRow u row
  | x :: r, u, q, h => by
    (rcases List.mem_cons.mp h with rfl | h)
    · exact Nat.dvd_trans (Nat.dvd_lcm_right u q.2.natAbs) (lcmRow_dvd r _)
    · exact lcmRow_mem r _ q h
theorem lcmRow_pos : ∀ (row : List (Int × Int)) (u : Nat), 0 < u → (∀ q ∈ row, 0 < q.2) → 0 < lcmRow u row
  | [], u, h, _ => h
  | q :: r, u, h, k => by
    have h1 : 0 < q.2 := k q List.mem_cons_self
    have h2 : 0 < q.2.natAbs := by omega
    exact lcmRow_pos r _ (Nat.lcm_pos h h2) fun x hx => k x (List.mem_cons_of_mem _ hx)
theorem lcmAll_fold_dvd : ∀ (rows : List (List (Int × Int))) (u : Nat), u ∣ rows.foldl lcmRow u
  | [], u => Nat.dvd_refl u
  | r :: rs, u => Nat.dvd_trans (lcmRow_dvd r u) (lcmAll_fold_dvd rs _)
theorem lcmAll_fold_pos : ∀ (rows : List (List (Int × Int))) (u : Nat), 0 < u → (∀ r ∈ rows, ∀ q ∈ r, 0 < q.2) → 0 < rows.foldl lcmRow u
  | [], u, h, _ => h
  | r :: rs, u, h, k => lcmAll_fold_pos rs _ (lcmRow_pos r u h (k r List.mem_cons_self)) fun x hx => k x (List.mem_cons_of_mem _ hx)
theorem lcmAll_fold_mem : ∀ (rows : List (List (Int × Int))) (u : Nat) (r : List (Int × Int)), r ∈ rows → ∀ q ∈ r, q.2.natAbs ∣ rows.foldl lcmRow u
  | x :: rs, u, r, h, q, hq => by
    (rcases List.mem_cons.mp h with rfl | h)
    · exact Nat.dvd_trans (lcmRow_mem r u q hq) (lcmAll_fold_dvd rs _)
    · exact lcmAll_fold_mem rs _ r h q hq
theorem lcmAll_pos (rows : List (List (Int × Int))) (k : ∀ r ∈ rows, ∀ q ∈ r, 0 < q.2) : 0 < lcmAll rows := lcmAll_fold_pos rows 1 (by decide) k
theorem lcmAll_mem {rows : List (List (Int × Int))} {r : List (Int × Int)} (h : r ∈ rows) {q : Int × Int} (hq : q ∈ r) : q.2.natAbs ∣ lcmAll rows := lcmAll_fold_mem rows 1 r h q hq
theorem lcmAll_take_more {rows : List (List (Int × Int))} {i : Nat} {r : List (Int × Int)} (h : rows[i]? = some r) : lcmAll (rows.take (i + 1)) = lcmRow (lcmAll (rows.take i)) r := by
  unfold lcmAll
  (rw [take_more h, List.foldl_append])
  rfl
theorem lcmRow_take_more {u : Nat} {r : List (Int × Int)} {i : Nat} {q : Int × Int} (h : r[i]? = some q) : lcmRow u (r.take (i + 1)) = Nat.lcm (lcmRow u (r.take i)) q.2.natAbs := by
  unfold lcmRow
  (rw [take_more h, List.foldl_append])
  rfl
/-- what is on the way divides the end -/
theorem lcm_way {rows : List (List (Int × Int))} {i j : Nat} {r : List (Int × Int)} (h : rows[i]? = some r) : lcmRow (lcmAll (rows.take i)) (r.take j) ∣ lcmAll rows := by
  have e1 : lcmAll rows = (rows.drop (i + 1)).foldl lcmRow (lcmAll (rows.take (i + 1))) := by
    unfold lcmAll
    rw [← List.foldl_append, List.take_append_drop]
  rw [e1, lcmAll_take_more h]
  refine Nat.dvd_trans ?_ (lcmAll_fold_dvd _ _)
  have e2 : lcmRow (lcmAll (rows.take i)) r = lcmRow (lcmRow (lcmAll (rows.take i)) (r.take j)) (r.drop j) := by
    unfold lcmRow
    rw [← List.foldl_append, List.take_append_drop]
  rw [e2]
  exact lcmRow_dvd _ _
def wholeRow (u : Int) (r : List (Int × Int)) : List Int := r.map fun q => q.1 * (u / q.2)
section
variable {mg : Str → Option Value} {base : Heap} {K : PySem.W.Frag} {P : Program} {w : World}
abbrev s_check_roots_of : Stmt := topS 24
abbrev N_check_roots_of : List Str := ["roots", "least", "most", "index", "root"]
theorem sc_check_roots_of : FnScope N_check_roots_of ["roots", "least", "most"] (defScope s_check_roots_of) := ⟨rfl, rfl, rfl, by decide +kernel, rfl, by decide +kernel, by decide +kernel⟩
def spCheckRootsOf (K : PySem.W.Frag) : Sp := fun vs H Q _ => ∃ v qs, vs = [v, .int 1, .int 6] ∧ Dp K H v (rowD qs) ∧ (∀ q ∈ qs, Nf q) ∧ (∀ q ∈ qs, Sf q) ∧ 1 ≤ qs.length ∧ qs.length ≤ 6 ∧ Desc qs ∧ ∀ H', Same H H' → Q .non H'
theorem ok_check_roots_of (T : Gs mg) (D1 : Df P w K mg base "is_fraction" 2 ["value"] (spIsFr K)) (D2 : Df P w K mg base "is_above" 1 ["one", "other"] (spF2b K fun x y => decide (y.1 * x.2 < x.1 * y.2))) (F : At K mg "check_roots_of" s_check_roots_of) :
    Df P w K mg base "check_roots_of" 3 ["roots", "least", "most"] (spCheckRootsOf K) := by
  have sc := sc_check_roots_of
  refine Df.mk' F sc (fun vs H Q E h => ?_) (fun _ _ _ _ _ _ us hl => match us, hl with | [_, _, _], _ => rfl) (fun f cdv A outer s H vs Q E hr h => ?_)
  · obtain ⟨a, q, rfl, _⟩ := h
    rfl
  · obtain ⟨v, qs, rfl, hx, ok, sf, l1, l6, hd, q⟩ := h
    obtain ⟨p, xs, rfl, hp, ha⟩ := dpTup hx
    have hl : xs.length = qs.length := by rw [dpAll_len ha, List.length_map]
    refine ⟨_, (pss_cons (ps_if (PW.pt (pw_or (pt_cmpR op_notTyB (pe_callTy call_type1 (by rfl) T.type_ (by decide +kernel) (pa_cons (pv 0) pa_nil)) (pe_bltn (v := .ty "tuple") (by rfl) T.tuple_ (by decide +kernel) rfl) (nomark _)) (pw_or1 (pt_not (pt_chain op_le op_le (pe_callB (call_max2 rfl) (by rfl) T.max (by decide +kernel) (pa_cons pe_int (pa_cons (pv 1) pa_nil))) (pe_callB call_len_seq (by rfl) T.len PySem.boot_len (pa_cons (pv 0) pa_nil)) (pv 2)))))) (pss_one ps_never) pss_nil) (pss_one (ps_for PassesOwn.never rfl (pi_enumT (by rfl) T.enumerate (pa_cons (pv 0) pa_nil)) (pg_tup rfl (pgs_cons (pg_name (i := 3) sc.nd rfl (.inl rfl)) (pgs_cons (pg_name (i := 4) sc.nd rfl (.inl rfl)) pgs_nil))) (pss_one (ps_if (PW.pt (pw_or (pt_not (pt_val (pe_fn D1 (by decide) hr (pa_cons (pv 4) pa_nil)))) (pw_or1 (PW.pt (pw_and (pt_cmpR op_gt (pv 3) pe_int (nomark _)) (pw_and1 (pt_val (pe_fn D2 (by decide) hr (pa_cons (pv 4) (pa_cons (pe_ix ix_tup (pv 0) (pe_op op_sub (pv 3) pe_int) (fun _ _ => rfl)) pa_nil)))))))))) (pss_one ps_never) pss_nil))))), ?_⟩
    refine ⟨_, rfl, _, _, rfl, .tup hp, _, _, rfl, rfl, _, rfl, ifF (by decide) ?_⟩
    refine ⟨_, rfl, _, _, rfl, ?_⟩
    refine ⟨_, rfl, _, _, rfl, .inr hp, _, _, rfl, rfl, _, rfl, ifT (decide_eq_true (by split <;> omega)) ?_⟩
    refine ⟨_, rfl, _, _, rfl, rfl, _, rfl, ifF (by rw [hl]; simp; omega) ?_⟩
    refine ⟨_, rfl, p, xs, rfl, hp, for_enumT (K := K) (a := p) (xs := xs) (fun i σ H' => (∃ y z, σ = [some (.ref p), some (.int 1), some (.int 6), y, z]) ∧ Same H H') ⟨⟨none, none, rfl⟩, Same.refl _⟩ (fun i σ H' _ h => sameT h.2 hp) ?_ ?_⟩
    · rintro i x T' σ H' hi ⟨⟨y, z, rfl⟩, sm⟩ hT
      obtain ⟨d, hd', hdp⟩ := dpAll_getV ha hi
      rw [List.getElem?_map] at hd'
      obtain ⟨qq, hq, rfl⟩ := Option.map_eq_some_iff.mp hd'
      have sm2 : Same H (upd H' T' (.tup [.int (i : Nat), x])) := sm.trans (same_upd hT)
      refine ⟨T', _, rfl, SqT.of upd_same, rfl, _, _, rfl, _, _, rfl, rfl, ?_⟩
      refine ⟨_, rfl, _, qq, rfl, Dp.same sm2 hdp, ok qq (List.mem_of_getElem? hq), _, rfl, ifF rfl ?_⟩
      refine ⟨_, rfl, _, _, rfl, rfl, _, rfl, if2 (fun e => ?_) (fun e => ?_)⟩
      · have e0 : 0 < i := by
          have := of_decide_eq_true e
          omega
        obtain ⟨j, rfl⟩ : ∃ j, i = j + 1 := ⟨i - 1, by omega⟩
        have hj : j < qs.length := by
          have := (List.getElem?_eq_some_iff.mp hq).1
          omega
        obtain ⟨v', hv', dv'⟩ := dpAll_get ha (show (qs.map frD)[j]? = some (frD qs[j]) by rw [List.getElem?_map, List.getElem?_eq_getElem hj]; rfl)
        refine ⟨_, rfl, _, rfl, _, rfl, _, _, rfl, rfl, _, _, _, _, rfl, rfl, sameT sm2 hp, at_of (j := j) (by omega) hv', ?_⟩
        refine ⟨_, _, qq, qs[j], rfl, Dp.same sm2 hdp, Dp.same sm2 dv', sf _ (List.mem_of_getElem? hq), sf _ (List.getElem_mem hj), _, rfl, ifF ?_ ?_⟩
        · have := hd j qs[j] qq (List.getElem?_eq_getElem hj) hq
          unfold Dn at this
          (exact decide_eq_false (by omega))
        · exact ⟨⟨_, _, rfl⟩, sm2⟩
      · exact iteF ⟨⟨_, _, rfl⟩, sm2⟩
    · rintro σ H' ⟨_, sm⟩
      exact q H' sm
abbrev s_check_roots : Stmt := topS 23
abbrev N_check_roots : List Str := ["roots"]
theorem sc_check_roots : FnScope N_check_roots ["roots"] (defScope s_check_roots) := ⟨rfl, rfl, rfl, by decide +kernel, rfl, by decide +kernel, by decide +kernel⟩
def spCheckRoots (K : PySem.W.Frag) : Sp := fun vs H Q _ => ∃ v qs, vs = [v] ∧ Dp K H v (rowD qs) ∧ (∀ q ∈ qs, Nf q) ∧ (∀ q ∈ qs, Sf q) ∧ 1 ≤ qs.length ∧ qs.length ≤ 6 ∧ Desc qs ∧ ∀ H', Same H H' → Q .non H'
theorem ok_check_roots (T : Gs mg) (D1 : Df P w K mg base "check_roots_of" 3 ["roots", "least", "most"] (spCheckRootsOf K)) (F : At K mg "check_roots" s_check_roots) : Df P w K mg base "check_roots" 4 ["roots"] (spCheckRoots K) := by
  have sc := sc_check_roots
  obtain ⟨tk, hM⟩ := T.MOST
  refine Df.mk' F sc (fun vs H Q E h => ?_) (fun _ _ _ _ _ _ us hl => match us, hl with | [_], _ => rfl) (fun f cdv A outer s H vs Q E hr h => ?_)
  · obtain ⟨v, qs, rfl, _⟩ := h
    rfl
  · obtain ⟨v, qs, rfl, hx, ok, sf, l1, l6, hd, q⟩ := h
    refine ⟨_, (pss_one (ps_expr (pe_fn D1 (by decide) hr (pa_cons (pv 0) (pa_cons pe_int (pa_cons (pe_glob (v := .int 6) (by rfl) hM ⟨_, rfl⟩) pa_nil)))))), ?_⟩
    exact ⟨_, rfl, _, qs, rfl, hx, ok, sf, l1, l6, hd, q⟩
abbrev s_shared : Stmt := topS 12
abbrev N_shared : List Str := ["rows", "under", "row", "number"]
theorem sc_shared : FnScope N_shared ["rows"] (defScope s_shared) := ⟨rfl, rfl, rfl, by decide +kernel, rfl, by decide +kernel, by decide +kernel⟩
def rowsD (rows : List (List (Int × Int))) : PyData := .tuple (rows.map rowD)
def spShared (K : PySem.W.Frag) : Sp := fun vs H Q _ => ∃ v rows, vs = [v] ∧ Dp K H v (rowsD rows) ∧ (∀ r ∈ rows, ∀ q ∈ r, 0 < q.2) ∧ lcmAll rows < 2 ^ 9000 ∧ Q (.int (lcmAll rows)) H
theorem ok_shared (T : Gs mg) (F : At K mg "shared_under" s_shared) : Df P w K mg base "shared_under" 1 ["rows"] (spShared K) := by
  have sc := sc_shared
  refine Df.mk' F sc (fun vs H Q E h => ?_) (fun _ _ _ _ _ _ us hl => match us, hl with | [_], _ => rfl) (fun f cdv A outer s H vs Q E hr h => ?_)
  · obtain ⟨a, q, rfl, _⟩ := h
    rfl
  · obtain ⟨v, rows, rfl, hx, pos, sz, q⟩ := h
    obtain ⟨p, xs, rfl, hp, ha⟩ := dpTup hx
    have hl : xs.length = rows.length := by rw [dpAll_len ha, List.length_map]
    have tot := lcmAll_pos rows pos
    refine ⟨_, (pss_cons (ps_set (i := 1) sc.nd rfl (Or.inl rfl) pe_int)
  (pss_cons (ps_for PassesOwn.never rfl (pi_tup (pv 0)) (pg_name (i := 2) sc.nd rfl (Or.inl rfl))
   (pss_one (ps_for PassesOwn.never rfl (pi_tup (pv 2)) (pg_name (i := 3) sc.nd rfl (Or.inl rfl))
   (pss_one (ps_set (i := 1) sc.nd rfl (Or.inl rfl) (pe_callBfun cr_lcm (by rfl) T.lcm (pa_cons (pv 1) (pa_cons (pe_ix ix_tup (pv 3) pe_int (fun _ _ => rfl)) pa_nil))))))))
  (pss_one (ps_ret (pv 1))))), ?_⟩
    refine ⟨_, rfl, p, rfl, ⟨_, hp⟩, for_tup (K := K) (a := p) (xs := xs) (fun i σ H' => (∃ y z, σ = [some (.ref p), some (.int (lcmAll (rows.take i))), y, z]) ∧ H' = H) ⟨⟨none, none, rfl⟩, rfl⟩ (fun i σ H' _ h => by rw [h.2]; exact hp) ?_ ?_⟩
    · rintro i x σ H' hi ⟨⟨y, z, rfl⟩, rfl⟩
      obtain ⟨d, hd', hdp⟩ := dpAll_getV ha hi
      rw [List.getElem?_map] at hd'
      obtain ⟨r, hr', rfl⟩ := Option.map_eq_some_iff.mp hd'
      obtain ⟨p2, ys, rfl, hp2, ha2⟩ := dpTup hdp
      have hl2 : ys.length = r.length := by rw [dpAll_len ha2, List.length_map]
      refine ⟨_, rfl, p2, rfl, ⟨_, hp2⟩, for_tup (K := K) (a := p2) (xs := ys) (fun j σ H2 => (∃ z, σ = [some (.ref p), some (.int (lcmRow (lcmAll (rows.take i)) (r.take j))), some (.ref p2), z]) ∧ H2 = H') ⟨⟨_, rfl⟩, rfl⟩ (fun i σ H' _ h => by rw [h.2]; exact hp2) ?_ ?_⟩
      · rintro j x2 σ H2 hj ⟨⟨z2, rfl⟩, rfl⟩
        obtain ⟨d2, hd2, hdp2⟩ := dpAll_getV ha2 hj
        rw [List.getElem?_map] at hd2
        obtain ⟨qq, hq, rfl⟩ := Option.map_eq_some_iff.mp hd2
        obtain ⟨p3, rfl, hp3⟩ := dpFr hdp2
        have mr : r ∈ rows := List.mem_of_getElem? hr'
        have mq : qq ∈ r := List.mem_of_getElem? hq
        have b1 : lcmRow (lcmAll (rows.take i)) (r.take j) < 2 ^ 9000 := Nat.lt_of_le_of_lt (Nat.le_of_dvd tot (lcm_way hr')) sz
        have b2 : qq.2.natAbs < 2 ^ 9000 := Nat.lt_of_le_of_lt (Nat.le_of_dvd tot (lcmAll_mem mr mq)) sz
        refine ⟨_, rfl, _, rfl, _, _, _, _, rfl, rfl, hp3, at1, ?_⟩
        refine ⟨_, _, rfl, by rw [Int.natAbs_natCast]; exact b1, b2, ⟨some (.ref p3), ?_⟩, rfl⟩
        rw [lcmRow_take_more hq, Int.natAbs_natCast]
        rfl
      · rintro σ H2 ⟨⟨z2, rfl⟩, rfl⟩
        refine ⟨⟨some (.ref p2), z2, ?_⟩, rfl⟩
        rw [lcmAll_take_more hr', hl2, List.take_length]
    · rintro σ H' ⟨⟨y, z, rfl⟩, rfl⟩
      refine ⟨_, rfl, ?_⟩
      rw [hl, List.take_length]
      exact q
abbrev s_whole_rows : Stmt := topS 13
abbrev N_whole_rows : List Str := ["rows", "under", "row", "number"]
theorem sc_whole_rows : FnScope N_whole_rows ["rows", "under"] (defScope s_whole_rows) := ⟨rfl, rfl, rfl, by decide +kernel, rfl, by decide +kernel, by decide +kernel⟩
/-- rows of whole numbers, in lists -/
def listsD (rows : List (List Int)) : PyData := .list (rows.map fun r => .list (r.map PyData.int))
/-- new lists of ints at D -/
def RowsAt (H : Hp) (D : Addr) (rows : List (List Int)) : Prop := ∃ as : List Addr, H D = some (.lst (as.map V.ref)) ∧ as.length = rows.length ∧ ∀ (i : Nat) a r, as[i]? = some a → rows[i]? = some r → H a = some (.lst (r.map V.int))
def spWholeRows (K : PySem.W.Frag) : Sp := fun vs H Q _ => ∃ v rows u, vs = [v, .int u] ∧ Dp K H v (rowsD rows) ∧ rows.length ≤ 100 ∧ (∀ r ∈ rows, r.length ≤ 100 ∧ ∀ q ∈ r, Sf q) ∧ 0 < u ∧ u.natAbs < 2 ^ 9000 ∧
  ∀ H' D, Same H H' → H D = none → RowsAt H' D (rows.map (wholeRow u)) → Q (.ref D) H'
theorem divLe {u m : Int} (h : 0 < u) (hm : 0 < m) : (u / m).natAbs ≤ u.natAbs := by
  have h1 : 0 ≤ u / m := Int.ediv_nonneg (by omega) (by omega)
  have h2 : u / m ≤ u := Int.ediv_le_self m (by omega)
  omega
theorem ok_whole_rows (T : Gs mg) (F : At K mg "whole_rows" s_whole_rows) : Df P w K mg base "whole_rows" 1 ["rows", "under"] (spWholeRows K) := by
  have sc := sc_whole_rows
  refine Df.mk' F sc (fun vs H Q E h => ?_) (fun _ _ _ _ _ _ us hl => match us, hl with | [_, _], _ => rfl) (fun f cdv A outer s H vs Q E hr h => ?_)
  · obtain ⟨a, q, u, rfl, _⟩ := h
    rfl
  · obtain ⟨v, rows, u, rfl, hx, l100, ok, hu, su, q⟩ := h
    obtain ⟨p, xs, rfl, hp, ha⟩ := dpTup hx
    have hl : xs.length = rows.length := by rw [dpAll_len ha, List.length_map]
    refine ⟨_, (pss_one (ps_ret (pe_lc (own := [("row", 2)]) (g := gName 2) rfl sc.nd (pi_tup (pv 0)) (blkOk_by (own := [("row", 2)]) (N := N_whole_rows) (sc := defScope s_whole_rows) (by decide +kernel)) (fun _ _ _ _ _ => (pg_name (i := 2) sc.nd rfl (Or.inl rfl))) (fun _ _ _ _ _ => pts_nil) (fun _ _ _ _ _ => by
      refine pe_lc (own := [("number", 3)]) (g := gName 3) (wi := iTup K (tVar 2)) (tt := tYes) (te := tOp (rI CMulW fun i j => .int (i * j)) (tOp (rIxT K) (tVar 3) (tC (.int 0))) (tOp (rI CDivW fun i j => .int (i / j)) (tVar 1) (tOp (rIxT K) (tVar 3) (tC (.int 1))))) rfl ?_ ?_ ?_ ?_ ?_ ?_
      · exact sc.nd
      · exact pi_tup (pv 2)
      · exact blkOk_by (by exact rfl)
      · exact fun _ _ _ _ _ => pg_name (i := 3) sc.nd rfl (Or.inl rfl)
      · exact fun _ _ _ _ _ => pts_nil
      · exact fun _ _ _ _ _ => pe_op op_mulW (pe_ix ix_tup (pv 3) pe_int (fun _ _ => rfl)) (pe_op op_fdivW (pv 1) (pe_ix ix_tup (pv 3) pe_int (fun _ _ => rfl))))))), ?_⟩
    refine ⟨_, rfl, p, rfl, ⟨_, hp⟩, fun D hD => lc_tup (K := K) (a := p) (xs := xs) (fun i H' => Same H H' ∧ RowsAt H' D ((rows.take i).map (wholeRow u))) ?_ (fun i H' _ h => sameT h.1 hp) ?_ ?_⟩
    · exact ⟨same_upd hD, [], upd_same, rfl, fun i a r h => by simp at h⟩
    · rintro i x H' hi ⟨sm, as, hDl, hal, has⟩
      obtain ⟨d, hd', hdp⟩ := dpAll_getV ha hi
      rw [List.getElem?_map] at hd'
      obtain ⟨r, hr', rfl⟩ := Option.map_eq_some_iff.mp hd'
      obtain ⟨p2, ys, rfl, hp2, ha2⟩ := dpTup (Dp.same sm hdp)
      have hl2 : ys.length = r.length := by rw [dpAll_len ha2, List.length_map]
      have okr := ok r (List.mem_of_getElem? hr')
      refine ⟨rfl, yesIf ?_⟩
      refine ⟨_, rfl, p2, rfl, ⟨_, hp2⟩, fun D2 hD2 => lc_tup (K := K) (a := p2) (xs := ys) (fun j H2 => Same H' H2 ∧ H2 D2 = some (.lst ((wholeRow u (r.take j)).map V.int))) ⟨same_upd hD2, upd_same⟩ (fun j H2 _ h => sameT h.1 hp2) ?_ ?_⟩
      · rintro j x2 H2 hj ⟨sm2, hl3⟩
        obtain ⟨d2, hd2, hdp2⟩ := dpAll_getV ha2 hj
        rw [List.getElem?_map] at hd2
        obtain ⟨qq, hq, rfl⟩ := Option.map_eq_some_iff.mp hd2
        obtain ⟨p3, rfl, hp3⟩ := dpFr (Dp.same sm2 hdp2)
        have sq := okr.2 qq (List.mem_of_getElem? hq)
        have s9 : qq.2.natAbs < 2 ^ 9000 := Nat.lt_of_lt_of_le sq.s2 (pow_le_pow' (by decide))
        refine ⟨rfl, yesIf ?_⟩
        refine ⟨_, rfl, _, _, _, _, rfl, rfl, hp3, at0, _, rfl, _, rfl, _, _, _, _, rfl, rfl, hp3, at1, _, _, rfl, rfl, wide_div sq.pos s9 (by decide) (by decide), _, _, rfl, rfl, ?_, ?_⟩
        · exact wide_mul sq.s1 (Nat.lt_of_le_of_lt (divLe hu sq.pos) su) (by decide) (by decide) (by decide)
        · refine ⟨_, hl3, ?_, fun b o hb => ?_, ?_⟩
          · rw [List.length_map, wholeRow, List.length_map, List.length_take]
            exact small1000 (by omega)
          · rw [upd_ne (ne_of_none hb hD2)]
            exact sm2 b o hb
          · rw [upd_same, wholeRow, wholeRow, take_more hq, List.map_append, List.map_append]
            rfl
      · rintro H2 ⟨sm2, hl3⟩
        rw [hl2, List.take_length] at hl3
        have hDl2 : H2 D = some (.lst (as.map V.ref)) := sm2 _ _ hDl
        have hne : D2 ≠ D := fun e => by
          rw [e, hDl] at hD2
          cases hD2
        refine ⟨_, hDl2, ?_, fun b o hb => ?_, as ++ [D2], ?_, ?_, fun k a rr h1 h2 => ?_⟩
        · rw [List.length_map, hal, List.length_map, List.length_take]
          exact small1000 (by omega)
        · rw [upd_ne (ne_of_none hb hD)]
          exact sm2 b o (sm b o hb)
        · rw [upd_same, List.map_append]
          rfl
        · rw [List.length_append, hal, take_more hr', List.length_map, List.length_map, List.length_append]
          rfl
        · rw [take_more hr', List.map_append] at h2
          by_cases hk : k < as.length
          · rw [List.getElem?_append_left hk] at h1
            rw [List.getElem?_append_left (by rw [← hal]; exact hk)] at h2
            have hA := has k a rr h1 h2
            have na : a ≠ D := fun e => by
              subst e
              rw [hDl] at hA
              have hA' := Option.some.inj hA
              injection hA' with hA''
              have : (as.map V.ref)[k]? = (rr.map V.int)[k]? := by rw [hA'']
              rw [List.getElem?_map, h1, List.getElem?_map] at this
              cases e3 : rr[k]? with
              | none => rw [e3] at this; cases this
              | some z => rw [e3] at this; cases this
            rw [upd_ne na]
            exact sm2 _ _ hA
          · rw [List.getElem?_append_right (by omega)] at h1
            rw [List.getElem?_append_right (by rw [← hal]; omega)] at h2
            have k0 : k - as.length = 0 := by
              have := (List.getElem?_eq_some_iff.mp h1).1
              simp at this
              omega
            rw [k0] at h1
            rw [← hal, k0] at h2
            have e1 : D2 = a := Option.some.inj h1
            have e2 : wholeRow u r = rr := Option.some.inj h2
            subst e1
            subst e2
            rw [upd_ne hne]
            exact hl3
    · rintro H' ⟨sm, hR⟩
      rw [hl, List.take_length] at hR
      exact q H' D sm hD hR
end
end V3
namespace V3
open PySem.Spec PySem L2 PyProof.Rows RZ
def sprd : Int → List Int → List Int → Bool
  | a, x :: xs, y :: ys => if a + x - y < 0 then false else sprd (a + x - y) xs ys
  | a, _, _ => decide (a = 0)
section
variable {mg : Str → Option Value} {base : Heap} {K : PySem.W.Frag} {P : Program} {w : World}
abbrev s_are_spread : Stmt := topS 27
abbrev N_are_spread : List Str := ["greatest", "others", "ahead", "one", "other"]
theorem sc_are_spread : FnScope N_are_spread ["greatest", "others"] (defScope s_are_spread) := ⟨rfl, rfl, rfl, by decide +kernel, rfl, by decide +kernel, by decide +kernel⟩
def spAreSpread (K : PySem.W.Frag) : Sp := fun vs H Q _ => ∃ (a b : Addr) (g l : List Int), vs = [.ref a, .ref b] ∧ SqL K H a (g.map V.int) ∧ SqL K H b (l.map V.int) ∧ g.length = l.length ∧ ∀ H', Same H H' → Q (.bl (sprd 0 g l)) H'
theorem map_int_get {xs : List Int} {i : Nat} {x : V} (h : (xs.map V.int)[i]? = some x) : ∃ n, xs[i]? = some n ∧ x = .int n := by
  rw [List.getElem?_map] at h
  obtain ⟨n, h1, h2⟩ := Option.map_eq_some_iff.mp h
  exact ⟨n, h1, h2.symm⟩
theorem drop_get {α : Type} {xs : List α} {i : Nat} {x : α} (h : xs[i]? = some x) : xs.drop i = x :: xs.drop (i + 1) := by
  obtain ⟨h1, h2⟩ := List.getElem?_eq_some_iff.mp h
  (rw [List.drop_eq_getElem_cons h1, h2])
theorem ok_are_spread (T : Gs mg) (F : At K mg "are_spread" s_are_spread) : Df P w K mg base "are_spread" 1 ["greatest", "others"] (spAreSpread K) := by
  have sc := sc_are_spread
  refine Df.mk' F sc (fun vs H Q E h => ?_) (fun _ _ _ _ _ _ us hl => match us, hl with | [_, _], _ => rfl) (fun f cdv A outer s H vs Q E hr h => ?_)
  · obtain ⟨a, q, u, l, rfl, _⟩ := h
    rfl
  · obtain ⟨a, b, g, l, rfl, ha, hb, hl, q⟩ := h
    refine ⟨_, (pss_cons (ps_set (i := 2) sc.nd rfl (Or.inl rfl) pe_int)
  (pss_cons (ps_for PassesOwn.never rfl (pi_zipA (by rfl) T.zip (pa_cons (pv 0) (pa_cons (pv 1) pa_nil))) (pg_tup rfl (pgs_cons (pg_name (i := 3) sc.nd rfl (Or.inl rfl)) (pgs_cons (pg_name (i := 4) sc.nd rfl (Or.inl rfl)) pgs_nil)))
   (pss_cons (ps_set (i := 2) sc.nd rfl (Or.inl rfl) (pe_op op_sub (pe_op op_add (pv 2) (pv 3)) (pv 4)))
  (pss_one (ps_if (pt_cmpR op_lt (pv 2) pe_int (nomark _))
   (pss_one (ps_ret pe_bl))
   pss_nil))))
  (pss_one (ps_ret (pe_cmpR op_eq (pv 2) pe_int (nomark _)))))), ?_⟩
    refine ⟨_, rfl, _, rfl, a, b, _, _, rfl, .inl ⟨ha, hb, for_zipL (K := K) (a := a) (b := b) (xs := g.map V.int) (ys := l.map V.int) (by simp [hl])
      (fun i σ H' => ∃ (c : Int) (y z : Option V), σ = [some (.ref a), some (.ref b), some (.int c), y, z] ∧ Same H H' ∧ sprd 0 g l = sprd c (g.drop i) (l.drop i)) ⟨0, none, none, rfl, Same.refl _, rfl⟩
      (fun i σ H' ⟨c, y, z, e, sm, _⟩ => ⟨sm.seq ha, sm.seq hb⟩) ?_ ?_⟩⟩
    · rintro i x y T' σ H' hx hy ⟨c, y', z, rfl, sm, e⟩ hT
      obtain ⟨n, hn, rfl⟩ := map_int_get hx
      obtain ⟨m, hm, rfl⟩ := map_int_get hy
      have sm2 : Same H (upd H' T' (.tup [.int n, .int m])) := sm.trans (same_upd hT)
      rw [drop_get hn, drop_get hm] at e
      refine ⟨T', _, rfl, SqT.of upd_same, rfl, _, _, rfl, _, _, rfl, rfl, ?_⟩
      refine ⟨_, rfl, _, rfl, _, _, rfl, rfl, _, rfl, _, _, rfl, rfl, ?_⟩
      refine ⟨_, rfl, _, _, rfl, rfl, _, rfl, if2 (fun e1 => ?_) (fun e1 => ?_)⟩
      · have e2 := of_decide_eq_true e1
        have e3 : sprd 0 g l = false := by
          rw [e]
          show (if c + n - m < 0 then false else _) = false
          rw [if_pos e2]
        rw [e3] at q
        exact q _ sm2
      · have e2 := of_decide_eq_false e1
        refine ⟨_, _, _, rfl, sm2, ?_⟩
        rw [e]
        show (if c + n - m < 0 then false else _) = _
        rw [if_neg e2]
    · rintro σ H' ⟨c, y, z, rfl, sm, e⟩
      refine ⟨_, rfl, rfl, ?_⟩
      have e3 : sprd 0 g l = decide (c = 0) := by
        rw [e, List.length_map, List.drop_length]
        unfold sprd
        rfl
      have e4 : decide (V.int c = V.int 0) = decide (c = 0) := by simp
      rw [e4, ← e3]
      exact q H' sm
abbrev s_is_spread : Stmt := topS 26
abbrev N_is_spread : List Str := ["roots", "diagonal", "greatest", "others"]
theorem sc_is_spread : FnScope N_is_spread ["roots", "diagonal"] (defScope s_is_spread) := ⟨rfl, rfl, rfl, by decide +kernel, rfl, by decide +kernel, by decide +kernel⟩
/-- the arguments of the module's functions: told roots, a row of as many -/
structure Pair (tops slant : List (Int × Int)) : Prop where
  nf1 : ∀ q ∈ tops, Nf q
  nf2 : ∀ q ∈ slant, Nf q
  sf1 : ∀ q ∈ tops, Sf q
  sf2 : ∀ q ∈ slant, Sf q
  l1 : 1 ≤ tops.length
  l6 : tops.length ≤ 6
  len : slant.length = tops.length
  desc : Desc tops
  big : lcmAll [tops, slant] < 2 ^ 3000
def common (tops slant : List (Int × Int)) : Int := (lcmAll [tops, slant] : Nat)
theorem Pair.pos {tops slant : List (Int × Int)} (p : Pair tops slant) : 0 < common tops slant := by
  have := lcmAll_pos [tops, slant] (fun r hr q hq => by
    (rcases List.mem_cons.mp hr with rfl | hr)
    · exact (p.nf1 q hq).pos
    · rcases List.mem_cons.mp hr with rfl | hr
      · exact (p.nf2 q hq).pos
      · cases hr)
  unfold common
  omega
def spIsSpread (K : PySem.W.Frag) : Sp := fun vs H Q _ => ∃ (v w : V) (tops slant : List (Int × Int)) (b : Bool), vs = [v, w] ∧ Dp K H v (rowD tops) ∧ Dp K H w (rowD slant) ∧ Pair tops slant ∧
  (∀ ns : List Int, ns.Perm (wholeRow (common tops slant) slant) → ns.Pairwise (· ≥ ·) → sprd 0 (wholeRow (common tops slant) tops) ns = b) ∧ ∀ H', Same H H' → Q (.bl b) H'
theorem two_rows {K : PySem.W.Frag} {H : Hp} {T : Addr} {v w : V} {tops slant : List (Int × Int)} (h : H T = some (.tup [v, w])) (h1 : Dp K H v (rowD tops)) (h2 : Dp K H w (rowD slant)) : Dp K H (.ref T) (rowsD [tops, slant]) :=
  .tup (SqT.of h) (.cons h1 (.cons h2 .nil))
theorem rowsAt_two {H : Hp} {D : Addr} {r1 r2 : List Int} (h : RowsAt H D [r1, r2]) : ∃ a b, H D = some (.lst [.ref a, .ref b]) ∧ H a = some (.lst (r1.map V.int)) ∧ H b = some (.lst (r2.map V.int)) := by
  obtain ⟨as, h1, h2, h3⟩ := h
  match as, h2, h1, h3 with
  | [a, b], _, h1, h3 => exact ⟨a, b, h1, h3 0 a r1 rfl rfl, h3 1 b r2 rfl rfl⟩
theorem ok_is_spread (T : Gs mg) (D1 : Df P w K mg base "check_roots" 4 ["roots"] (spCheckRoots K)) (D2 : Df P w K mg base "check_row" 4 ["row", "size"] (spCheckRow K)) (D3 : Df P w K mg base "shared_under" 1 ["rows"] (spShared K))
    (D4 : Df P w K mg base "whole_rows" 1 ["rows", "under"] (spWholeRows K)) (D5 : Df P w K mg base "are_spread" 1 ["greatest", "others"] (spAreSpread K)) (F : At K mg "is_spread" s_is_spread) :
    Df P w K mg base "is_spread" 5 ["roots", "diagonal"] (spIsSpread K) := by
  have sc := sc_is_spread
  refine Df.mk' F sc (fun vs H Q E h => ?_) (fun _ _ _ _ _ _ us hl => match us, hl with | [_, _], _ => rfl) (fun f cdv A outer s H vs Q E hr h => ?_)
  · obtain ⟨a, q, u, l, b, rfl, _⟩ := h
    rfl
  · obtain ⟨v, w', tops, slant, b, rfl, hv, hw, p, hb, q⟩ := h
    refine ⟨_, (pss_cons (ps_expr (pe_fn D1 (by decide) hr (pa_cons (pv 0) pa_nil)))
  (pss_cons (ps_expr (pe_fn D2 (by decide) hr (pa_cons (pv 1) (pa_cons (pe_callB call_len_seq (by rfl) T.len PySem.boot_len (pa_cons (pv 0) pa_nil)) pa_nil))))
  (pss_cons (ps_asg (pe_fn D4 (by decide) hr (pa_cons (pe_tup (pa_cons (pv 0) (pa_cons (pv 1) pa_nil))) (pa_cons (pe_fn D3 (by decide) hr (pa_cons (pe_tup (pa_cons (pv 0) (pa_cons (pv 1) pa_nil))) pa_nil)) pa_nil))) (pg_unl rfl (pgs_cons (pg_name (i := 2) sc.nd rfl (Or.inl rfl)) (pgs_cons (pg_name (i := 3) sc.nd rfl (Or.inl rfl)) pgs_nil))))
  (pss_one (ps_ret (pe_fn D5 (by decide) hr (pa_cons (pv 2) (pa_cons (pe_callBK (cr_sortedRev (b := true)) (by rfl) T.sorted (by decide +kernel) (pa_cons (pv 3) pa_nil) (pk_cons pe_bl pk_nil)) pa_nil)))))))), ?_⟩
    refine ⟨_, rfl, _, tops, rfl, hv, p.nf1, p.sf1, p.l1, p.l6, p.desc, fun H1 s1 => ?_⟩
    obtain ⟨pa, xs, rfl, hp, hA⟩ := dpTup (Dp.same s1 hv)
    have hl : (xs.length : Int) = (slant.length : Nat) := by rw [dpAll_len hA, List.length_map, p.len]
    refine ⟨_, rfl, _, rfl, pa, _, rfl, .inr hp, ?_⟩
    rw [hl]
    refine ⟨_, slant, rfl, Dp.same s1 hw, p.nf2, fun H2 s2 => ?_⟩
    have s12 := s1.trans s2
    -- whole_rows((roots, diagonal), shared_under((roots, diagonal)))
    refine ⟨_, rfl, _, rfl, by show 2 ≤ sizeLine; decide, fun T1 hT1 => ?_⟩
    have s3 := s12.trans (same_upd (o := .tup [.ref pa, w']) hT1)
    refine ⟨_, rfl, _, rfl, by show 2 ≤ sizeLine; decide, fun T2 hT2 => ?_⟩
    have s4 := s3.trans (same_upd (o := .tup [.ref pa, w']) hT2)
    have hr2 := two_rows (K := K) (H := upd (upd H2 T1 (.tup [.ref pa, w'])) T2 (.tup [.ref pa, w'])) upd_same (Dp.same s4 hv) (Dp.same s4 hw)
    have pos : ∀ r ∈ [tops, slant], ∀ q ∈ r, 0 < q.2 := fun r hr q hq => by
      (rcases List.mem_cons.mp hr with rfl | hr)
      · exact (p.nf1 q hq).pos
      · rcases List.mem_cons.mp hr with rfl | hr
        · exact (p.nf2 q hq).pos
        · cases hr
    refine ⟨_, [tops, slant], rfl, hr2, pos, Nat.lt_of_lt_of_le p.big (pow_le_pow' (by decide)), ?_⟩
    have n12 : T1 ≠ T2 := fun e => by
      rw [← e, upd_same] at hT2
      cases hT2
    have hr1 := two_rows (K := K) (H := upd (upd H2 T1 (.tup [.ref pa, w'])) T2 (.tup [.ref pa, w'])) (T := T1) (by rw [upd_ne n12, upd_same]) (Dp.same s4 hv) (Dp.same s4 hw)
    refine ⟨_, [tops, slant], common tops slant, rfl, hr1, by simp, ?_, p.pos, ?_, fun H3 D s5 hD hR => ?_⟩
    · intro r hr
      (rcases List.mem_cons.mp hr with rfl | hr)
      · exact ⟨by have := p.l6; omega, p.sf1⟩
      · rcases List.mem_cons.mp hr with rfl | hr
        · exact ⟨by have := p.l6; have := p.len; omega, p.sf2⟩
        · cases hr
    · unfold common
      rw [Int.natAbs_natCast]
      exact Nat.lt_of_lt_of_le p.big (pow_le_pow' (by decide))
    · obtain ⟨a1, a2, r0, r1, r2⟩ := rowsAt_two hR
      refine ⟨D, _, rfl, SqL.of r0, rfl, _, _, rfl, _, _, rfl, rfl, ?_⟩
      refine ⟨_, rfl, _, rfl, a2, _, rfl, rfl, SqL.of r2, fun ns pn pm od hpn => ?_⟩
      have s6 : Same H3 (upd H3 pn (.lst (ns.map V.int))) := same_upd hpn
      refine ⟨a1, pn, _, ns, rfl, s6.seq (SqL.of r1), SqL.of upd_same, ?_, fun H4 s7 => ?_⟩
      · rw [pm.length_eq, wholeRow, wholeRow, List.length_map, List.length_map, p.len]
      · rw [hb ns pm od]
        exact q H4 (((s4.trans s5).trans s6).trans s7)
end
end V3
/-! Rows of whole numbers, one spread beside the other: levelling. -/
namespace V3
theorem getD_some {xs : List Int} {i : Nat} {x : Int} (h : xs[i]? = some x) : i < xs.length := (List.getElem?_eq_some_iff.mp h).1
theorem pre_set : ∀ (xs : List Int) (i : Nat) (x v : Int) (k : Nat), xs[i]? = some x → ((xs.set i v).take k).sum = (xs.take k).sum + (if i < k then v - x else 0)
  | [], i, x, v, k, h => by simp at h
  | a :: r, 0, x, v, 0, h => by simp
  | a :: r, 0, x, v, k + 1, h => by
    (have e : a = x := Option.some.inj h)
    subst e
    show (v :: r.take k).sum = (a :: r.take k).sum + _
    rw [List.sum_cons, List.sum_cons, if_pos (Nat.succ_pos k)]
    omega
  | a :: r, i + 1, x, v, 0, h => by simp
  | a :: r, i + 1, x, v, k + 1, h => by
    have ih := pre_set r i x v k h
    show (a :: (r.set i v).take k).sum = (a :: r.take k).sum + _
    (rw [List.sum_cons, List.sum_cons, ih])
    by_cases c : i < k
    · rw [if_pos c, if_pos (by omega)]
      omega
    · rw [if_neg c, if_neg (by omega)]
      omega
theorem sum_set' (xs : List Int) (i : Nat) (x v : Int) (h : xs[i]? = some x) : (xs.set i v).sum = xs.sum + (v - x) := by
  have q := pre_set xs i x v xs.length h
  rw [List.take_of_length_le (by simp), List.take_length, if_pos (getD_some h)] at q
  exact q
theorem pre_succ : ∀ (xs : List Int) (i : Nat) (x : Int), xs[i]? = some x → (xs.take (i + 1)).sum = (xs.take i).sum + x
  | [], i, x, h => by simp at h
  | a :: r, 0, x, h => by
    (have e : a = x := Option.some.inj h)
    subst e
    simp
  | a :: r, i + 1, x, h => by
    have ih := pre_succ r i x h
    show (a :: r.take (i + 1)).sum = (a :: r.take i).sum + x
    (rw [List.sum_cons, List.sum_cons, ih])
    omega
theorem sum_split (xs : List Int) (k : Nat) : xs.sum = (xs.take k).sum + (xs.drop k).sum := by
  rw [← List.sum_append, List.take_append_drop]
/-- a is over b: each sum of the first ones is no less, the whole the same -/
structure Maj (a b : List Int) : Prop where
  len : a.length = b.length
  pre : ∀ k, (b.take k).sum ≤ (a.take k).sum
  all : a.sum = b.sum
theorem sum_le : ∀ (a b : List Int), a.length = b.length → (∀ (i : Nat) (x y : Int), a[i]? = some x → b[i]? = some y → x ≤ y) → a.sum ≤ b.sum
  | [], [], _, _ => Int.le_refl _
  | x :: a, y :: b, hl, h => by
    have h0 := h 0 x y rfl rfl
    have ih := sum_le a b (by simpa using hl) fun i u v h1 h2 => h (i + 1) u v h1 h2
    (rw [List.sum_cons, List.sum_cons])
    omega
  | [], _ :: _, long, _ => by simp at long
  | _ :: _, [], long, _ => by simp at long
theorem eq_of_le : ∀ (a b : List Int), a.length = b.length → (∀ (i : Nat) (x y : Int), a[i]? = some x → b[i]? = some y → x ≤ y) → a.sum = b.sum → a = b
  | [], [], _, _, _ => rfl
  | x :: a, y :: b, hl, h, hs => by
    have h0 := h 0 x y rfl rfl
    have h1 := sum_le a b (by simpa using hl) fun i u v h1 h2 => h (i + 1) u v h1 h2
    rw [List.sum_cons, List.sum_cons] at hs
    have e : x = y := by omega
    have ih := eq_of_le a b (by simpa using hl) (fun i u v h1 h2 => h (i + 1) u v h1 h2) (by omega)
    rw [e, ih]
  | [], _ :: _, hl, _, _ => by simp at hl
  | _ :: _, [], hl, _, _ => by simp at hl
theorem get_of {a b : List Int} (hl : a.length = b.length) {i : Nat} {x : Int} (h : a[i]? = some x) : ∃ y, b[i]? = some y := by
  have := getD_some h
  exact ⟨b[i]'(by omega), List.getElem?_eq_getElem (by omega)⟩
theorem Maj.above {a b : List Int} (h : Maj a b) (ne : a ≠ b) : ∃ (i : Nat) (x y : Int), a[i]? = some x ∧ b[i]? = some y ∧ y < x := by
  apply Classical.byContradiction
  intro c
  refine ne (eq_of_le a b h.len (fun i x y h1 h2 => ?_) h.all)
  apply Classical.byContradiction
  intro z
  exact c ⟨i, x, y, h1, h2, by omega⟩
theorem Maj.below {a b : List Int} (h : Maj a b) {i : Nat} {x y : Int} (h1 : a[i]? = some x) (h2 : b[i]? = some y) (hxy : y < x) : ∃ (j : Nat) (u v : Int), i < j ∧ a[j]? = some u ∧ b[j]? = some v ∧ u < v := by
  apply Classical.byContradiction
  intro c
  have k1 := pre_succ a i x h1
  have k2 := pre_succ b i y h2
  have k3 := h.pre i
  have k4 := h.all
  have k5 := sum_split a (i + 1)
  have k6 := sum_split b (i + 1)
  have k7 : (b.drop (i + 1)).sum ≤ (a.drop (i + 1)).sum := by
    refine sum_le _ _ (by rw [List.length_drop, List.length_drop, h.len]) fun m u v e1 e2 => ?_
    rw [List.getElem?_drop] at e1 e2
    apply Classical.byContradiction
    intro z
    exact c ⟨i + 1 + m, v, u, by omega, e2, e1, by omega⟩
  omega
/-- how many places differ -/
def ncount : List Int → List Int → Nat
  | x :: xs, y :: ys => (if x = y then 0 else 1) + ncount xs ys
  | _, _ => 0
theorem ncount_le : ∀ (a b : List Int), ncount a b ≤ a.length
  | [], _ => Nat.le_refl 0
  | x :: a, [] => Nat.zero_le _
  | x :: a, y :: b => by
    have ih := ncount_le a b
    show (if x = y then 0 else 1) + ncount a b ≤ a.length + 1
    split <;> omega
theorem ncount_zero : ∀ (a b : List Int), a.length = b.length → ncount a b = 0 → a = b
  | [], [], _, _ => rfl
  | x :: a, y :: b, hl, h => by
    have h' : (if x = y then 0 else 1) + ncount a b = 0 := h
    by_cases e : x = y
    · rw [if_pos e] at h'
      rw [e, ncount_zero a b (by simpa using hl) (by omega)]
    · rw [if_neg e] at h'
      omega
  | [], _ :: _, long, _ => by simp at long
  | _ :: _, [], long, _ => by simp at long
theorem ncount_self : ∀ (a : List Int), ncount a a = 0
  | [] => rfl
  | x :: a => by
    show (if x = x then 0 else 1) + ncount a a = 0
    rw [if_pos rfl, ncount_self a]
theorem ncount_set : ∀ (a b : List Int) (i : Nat) (x y v : Int), a[i]? = some x → b[i]? = some y → ncount (a.set i v) b + (if x = y then 0 else 1) = ncount a b + (if v = y then 0 else 1)
  | [], b, i, x, y, v, h, _ => by simp at h
  | _ :: _, [], i, x, y, v, _, h => by simp at h
  | p :: a, q :: b, 0, x, y, v, h1, h2 => by
    have e1 : p = x := Option.some.inj h1
    have e2 : q = y := Option.some.inj h2
    subst e1
    subst e2
    show (if v = q then 0 else 1) + ncount a b + _ = (if p = q then 0 else 1) + ncount a b + _
    omega
  | p :: a, q :: b, i + 1, x, y, v, h1, h2 => by
    have ih := ncount_set a b i x y v h1 h2
    show (if p = q then 0 else 1) + ncount (a.set i v) b + _ = (if p = q then 0 else 1) + ncount a b + _
    omega
/-- one turn: from place i to place j, step -/
def moveTo (a : List Int) (i j : Nat) (x y s : Int) : List Int := (a.set i (x - s)).set j (y + s)
theorem moveTo_len (a : List Int) (i j : Nat) (x y s : Int) : (moveTo a i j x y s).length = a.length := by simp [moveTo]
theorem set_other {a : List Int} {i j : Nat} {v : Int} (h : i ≠ j) : (a.set i v)[j]? = a[j]? := List.getElem?_set_ne h
/-- what a levelling turn finds -/
structure Lv (a b : List Int) (i j : Nat) (x y p q : Int) : Prop where
  ai : a[i]? = some x
  aj : a[j]? = some y
  bi : b[i]? = some p
  bj : b[j]? = some q
  ij : i < j
  up : p < x
  dn : y < q
  lastUp : ∀ (k : Nat) (u v : Int), i < k → a[k]? = some u → b[k]? = some v → u ≤ v
  firstDn : ∀ (k : Nat) (u v : Int), i < k → k < j → a[k]? = some u → b[k]? = some v → v ≤ u
theorem Lv.gap {a b : List Int} {i j : Nat} {x y p q : Int} (h : Lv a b i j x y p q) (hb : b.Pairwise (· ≥ ·)) : p ≥ q := by
  obtain ⟨h1, e1⟩ := List.getElem?_eq_some_iff.mp h.bi
  obtain ⟨h2, e2⟩ := List.getElem?_eq_some_iff.mp h.bj
  have := List.pairwise_iff_getElem.mp hb i j h1 h2 h.ij
  rw [e1, e2] at this
  exact this
/-- the sums of the first ones at the places between -/
theorem Lv.between {a b : List Int} {i j : Nat} {x y p q : Int} (h : Lv a b i j x y p q) (hm : Maj a b) : ∀ k, i < k → k ≤ j → (b.take k).sum + (x - p) ≤ (a.take k).sum := by
  intro k h1 h2
  induction k with
  | zero => omega
  | succ k ih =>
    by_cases c : i = k
    · subst c
      have k1 := pre_succ a i x h.ai
      have k2 := pre_succ b i p h.bi
      have k3 := hm.pre i
      omega
    · have ih' := ih (by omega) (by omega)
      have hk : k < a.length := by
        have := getD_some h.aj
        omega
      have hk2 : k < b.length := by rw [← hm.len]; exact hk
      have e1 : a[k]? = some a[k] := List.getElem?_eq_getElem hk
      have e2 : b[k]? = some b[k] := List.getElem?_eq_getElem hk2
      have k1 := pre_succ a k _ e1
      have k2 := pre_succ b k _ e2
      have k3 := h.lastUp k _ _ (by omega) e1 e2
      have k4 := h.firstDn k _ _ (by omega) (by omega) e1 e2
      omega
theorem Lv.maj {a b : List Int} {i j : Nat} {x y p q s : Int} (h : Lv a b i j x y p q) (hm : Maj a b) (h0 : 0 ≤ s) (h1 : s ≤ x - p) : Maj (moveTo a i j x y s) b := by
  have aj' : (a.set i (x - s))[j]? = some y := by rw [set_other (by have := h.ij; omega)]; exact h.aj
  refine ⟨by rw [moveTo_len, hm.len], fun k => ?_, ?_⟩
  · unfold moveTo
    rw [pre_set _ j y (y + s) k aj', pre_set _ i x (x - s) k h.ai]
    have k0 := hm.pre k
    have k1 := h.between hm k
    have ij := h.ij
    by_cases c1 : i < k
    · by_cases c2 : j < k
      · rw [if_pos c1, if_pos c2]
        omega
      · rw [if_pos c1, if_neg c2]
        have := k1 c1 (by omega)
        omega
    · rw [if_neg c1, if_neg (by omega)]
      omega
  · unfold moveTo
    rw [sum_set' _ j y (y + s) aj', sum_set' _ i x (x - s) h.ai, hm.all]
    omega
theorem Lv.count {a b : List Int} {i j : Nat} {x y p q s : Int} (h : Lv a b i j x y p q) (hs : x - s = p ∨ y + s = q) : ncount (moveTo a i j x y s) b + 1 ≤ ncount a b ∧ 2 ≤ ncount a b := by
  have ij := h.ij
  have up := h.up
  have dn := h.dn
  have aj' : (a.set i (x - s))[j]? = some y := by rw [set_other (by omega)]; exact h.aj
  have k1 := ncount_set a b i x p (x - s) h.ai h.bi
  have k2 := ncount_set (a.set i (x - s)) b j y q (y + s) aj' h.bj
  rw [if_neg (by omega)] at k1
  rw [if_neg (by omega)] at k2
  -- both places differ
  have k3 := ncount_set a b i x p p h.ai h.bi
  have aj2 : (a.set i p)[j]? = some y := by rw [set_other (by omega)]; exact h.aj
  have k4 := ncount_set (a.set i p) b j y q q aj2 h.bj
  rw [if_neg (by omega), if_pos rfl] at k3
  rw [if_neg (by omega), if_pos rfl] at k4
  unfold moveTo
  rcases hs with hs | hs
  · rw [if_pos hs] at k1
    split at k2 <;> omega
  · rw [if_pos hs] at k2
    split at k1 <;> omega
end V3
/-! Rows of whole numbers: one put in the order of the other by exchanges. -/
namespace V3
theorem perm_set : ∀ (xs : List Int) (i : Nat) (x v : Int), xs[i]? = some x → (x :: xs.set i v).Perm (v :: xs)
  | [], i, x, v, h => by simp at h
  | a :: r, 0, x, v, h => by
    (have e : a = x := Option.some.inj h)
    subst e
    exact List.Perm.swap _ _ _
  | a :: r, i + 1, x, v, h => by
    have ih := perm_set r i x v h
    show (x :: a :: r.set i v).Perm (v :: a :: r)
    exact ((List.Perm.swap _ _ _).trans (ih.cons a)).trans (List.Perm.swap _ _ _)
def swapIn (a : List Int) (i j : Nat) (x y : Int) : List Int := (a.set i y).set j x
theorem swap_perm {a : List Int} {i j : Nat} {x y : Int} (hx : a[i]? = some x) (hy : a[j]? = some y) (hij : i ≠ j) : (swapIn a i j x y).Perm a := by
  have h1 := perm_set a i x y hx
  have h2 := perm_set (a.set i y) j y x (by rw [set_other hij]; exact hy)
  exact (h2.trans h1).cons_inv
theorem swap_len (a : List Int) (i j : Nat) (x y : Int) : (swapIn a i j x y).length = a.length := by simp [swapIn]
/-- the first i agree -/
def Agree (a b : List Int) (i : Nat) : Prop := a.take i = b.take i
theorem drop_perm {a b : List Int} {i : Nat} (h : a.Perm b) (e : Agree a b i) : (a.drop i).Perm (b.drop i) := by
  have h1 : (a.take i ++ a.drop i).Perm (b.take i ++ b.drop i) := by rw [List.take_append_drop, List.take_append_drop]; exact h
  rw [e] at h1
  exact (List.perm_append_left_iff _).mp h1
theorem find_behind {a b : List Int} {i : Nat} {x g : Int} (h : a.Perm b) (e : Agree a b i) (hx : a[i]? = some x) (hg : b[i]? = some g) (ne : x ≠ g) : ∃ j, i < j ∧ a[j]? = some g := by
  have hp := drop_perm h e
  have hm : g ∈ b.drop i := by
    have : (b.drop i)[0]? = some g := by rw [List.getElem?_drop]; simpa using hg
    exact List.mem_of_getElem? this
  have hm2 : g ∈ a.drop i := hp.mem_iff.mpr hm
  obtain ⟨k, hk⟩ := List.getElem?_of_mem hm2
  rw [List.getElem?_drop] at hk
  refine ⟨i + k, ?_, hk⟩
  apply Classical.byContradiction
  intro c
  have k0 : k = 0 := by omega
  rw [k0, Nat.add_zero, hx] at hk
  exact ne (Option.some.inj hk)
theorem take_set_le {a : List Int} {i k : Nat} {v : Int} (h : k ≤ i) : (a.set i v).take k = a.take k := by
  rw [List.take_set, List.set_eq_of_length_le]
  rw [List.length_take]
  omega
theorem agree_swap {a b : List Int} {i j : Nat} {x g : Int} (e : Agree a b i) (hx : a[i]? = some x) (hg : b[i]? = some g) (hij : i < j) : Agree (swapIn a i j x g) b (i + 1) := by
  unfold Agree swapIn
  rw [take_set_le (by omega)]
  have h1 : (a.set i g)[i]? = some g := by
    rw [List.getElem?_set_self (getD_some hx)]
  have t1 : (a.set i g).take (i + 1) = (a.set i g).take i ++ [g] := by
    rw [List.take_add_one, h1]
    rfl
  have t2 : b.take (i + 1) = b.take i ++ [g] := by
    rw [List.take_add_one, hg]
    rfl
  rw [t1, t2, take_set_le (Nat.le_refl i), e]
theorem agree_same {a b : List Int} {i : Nat} {x : Int} (e : Agree a b i) (hx : a[i]? = some x) (hg : b[i]? = some x) : Agree a b (i + 1) := by
  unfold Agree
  rw [List.take_add_one, List.take_add_one, hx, hg, e]
/-- the last one agrees by itself -/
theorem last_agrees {a b : List Int} {i : Nat} {x g : Int} (h : a.Perm b) (e : Agree a b i) (hx : a[i]? = some x) (hg : b[i]? = some g) (hi : i + 1 = a.length) : x = g := by
  apply Classical.byContradiction
  intro c
  obtain ⟨j, hj, hj2⟩ := find_behind h e hx hg c
  have := getD_some hj2
  omega
end V3
set_option maxHeartbeats 8000000
namespace V3
open PySem.Spec PySem L2 PyProof.Rows RZ GxR
abbrev TurnI := Nat × Nat × (Int × Int)
def turnD (t : TurnI) : PyData := .tuple [.int t.1, .int t.2.1, frD t.2.2]
/-- the turns T lead g to now -/
inductive LevTo (g : List Int) : List Int → List TurnI → Prop
  | nil : LevTo g g []
  | snoc {now : List Int} {T : List TurnI} {i j : Nat} {x y s : Int} : LevTo g now T → now[i]? = some x → now[j]? = some y → i < j → y < x → 0 ≤ s → s ≤ x - y → LevTo g (moveTo now i j x y s) (T ++ [(i, j, nf (x - y - s) (x - y))])
theorem LevTo.len {g now : List Int} {T : List TurnI} (h : LevTo g now T) : now.length = g.length := by
  induction h with
  | nil => rfl
  | snoc _ _ _ _ _ _ _ ih => rw [moveTo_len, ih]
/-- what stands at p holds the turn -/
def tTurn {K : PySem.W.Frag} {H : Hp} {p p1 : Addr} {i j : Nat} {q : Int × Int} (h : H p = some (.tup [.int i, .int j, .ref p1])) (h1 : H p1 = some (.tup [.int q.1, .int q.2])) : DpT K H (.ref p) (turnD (i, j, q)) :=
  .tup (SqT.of h) (.cons (.int i) (.cons (.int j) (.cons (tFrU h1) .nil)))
section
variable {mg : Str → Option Value} {base : Heap} {K : PySem.W.Frag} {P : Program} {w : World}
abbrev s_lev : Stmt := topS 29
abbrev N_lev : List Str := ["greatest", "levels", "now", "turns", "i", "j", "step", "gap"]
theorem sc_lev : FnScope N_lev ["greatest", "levels"] (defScope s_lev) := ⟨rfl, rfl, rfl, by decide +kernel, rfl, by decide +kernel, by decide +kernel⟩
def spLev (K : PySem.W.Frag) (Pt : Addr) : Sp := fun vs H Q _ => ∃ (a b : Addr) (g l : List Int) (B : Nat), vs = [.ref a, .ref b] ∧ SqL K H a (g.map V.int) ∧ SqL K H b (l.map V.int) ∧ g.length ≤ 100 ∧ Maj g l ∧ l.Pairwise (· ≥ ·) ∧
  (∀ x ∈ g, x.natAbs ≤ B) ∧ (∀ x ∈ l, x.natAbs ≤ B) ∧ B < 2 ^ 8000 ∧ TabG H Pt ∧
  ∀ H' D tv T, But Pt H H' → TabG H' Pt → H D = none → H' D = some (.lst tv) → DpTAll K H' tv (T.map turnD) → LevTo g l T → T.length ≤ g.length - 1 → Q (.ref D) H'
theorem at_len {xs : List Int} {i : Nat} (h : i < xs.length) : ((xs.map V.int))[i]? = some (.int xs[i]) := by
  rw [List.getElem?_map, List.getElem?_eq_getElem h]
  rfl
theorem atI_int {xs : List Int} {k : Int} {i : Nat} {x : Int} (e : k = (i : Int)) (h : xs[i]? = some x) : atI (xs.map V.int) k = some (.int x) := at_of e (by rw [List.getElem?_map, h]; rfl)
theorem ixN_nat {n : Nat} {k : Int} {i : Nat} (e : k = (i : Int)) (h : i < n) : ixN n k = some i := by
  subst e
  unfold ixN
  (rw [if_pos (by omega), if_pos (by omega)])
  simp
theorem map_set_int (xs : List Int) (i : Nat) (x : Int) : (xs.map V.int).set i (.int x) = (xs.set i x).map V.int := by rw [List.map_set]
set_option maxHeartbeats 16000000 in
theorem ok_lev (T : Gs mg) {c Pt : Addr} (TB : TabB base mg c Pt) (DF : Df P w K mg base "fraction" 1 ["number", "under"] spFraction) (F : AtC K mg "levelling_turns" s_lev c) : Df P w K mg base "levelling_turns" 2 ["greatest", "levels"] (spLev K Pt) := by
  have sc := sc_lev
  refine Df.mkC F sc (fun vs H Q E h => ?_) (fun _ _ _ _ _ _ us hl => match us, hl with | [_, _], _ => rfl) (fun f A outer s H vs Q E hr h => ?_)
  · obtain ⟨a, q, u, l, B, rfl, _⟩ := h
    rfl
  · obtain ⟨a, b, g, l, B, rfl, ha, hb, l100, maj, hdesc, hgB, hlB, hB, htab, q⟩ := h
    refine ⟨_, (pss_cons (ps_set (i := 2) sc.nd rfl (Or.inr rfl) (pe_callTy call_list_of (by rfl) T.list_ (by decide +kernel) (pa_cons (pv 0) pa_nil)))
  (pss_cons (ps_set (i := 3) sc.nd rfl (Or.inl rfl) (pe_lst pa_nil))
  (pss_cons (ps_while PassesOwn.never (pt_cmpR (op_neD hr.units) (pv 2) (pv 1) (nomark _))
   (pss_cons (ps_set (i := 4) sc.nd rfl (Or.inl rfl) (pe_maxR (P := Pt) hr (by rfl) T.max TB rfl ⟨rfl, rfl, by decide +kernel, rfl, rfl, by
        intro y hy e
        simp only [List.mem_cons, List.not_mem_nil, or_false] at hy
        rcases hy with rfl | rfl | rfl | rfl <;> first | exact ⟨_, rfl⟩ | cases e⟩ (prg_1 (by rfl) T.range (pe_callB call_len_seq (by rfl) T.len PySem.boot_len (pa_cons (pv 2) pa_nil)))
        (test_xx (ia := 2) (ib := 1) (cmp := fun u v => decide (v < u)) rfl rfl (by decide) ⟨rfl, rfl, rfl, fun _ => rfl, by decide, by decide⟩ ⟨rfl, rfl, rfl, fun _ => rfl, by decide, by decide⟩ (fun _ _ _ _ _ _ _ _ q => gt_int q) (nomark _)) (by decide) (fun _ => rfl)))
  (pss_cons (ps_set (i := 5) sc.nd rfl (Or.inl rfl) (pe_minR (P := Pt) hr (by rfl) T.min TB rfl ⟨rfl, rfl, by decide +kernel, rfl, rfl, by
        intro y hy e
        simp only [List.mem_cons, List.not_mem_nil, or_false] at hy
        rcases hy with rfl | rfl | rfl | rfl <;> first | exact ⟨_, rfl⟩ | cases e⟩ (prg_2 (by rfl) T.range (pv 4) (pe_callB call_len_seq (by rfl) T.len PySem.boot_len (pa_cons (pv 2) pa_nil)))
        (test_xx (ia := 2) (ib := 1) (cmp := fun u v => decide (u < v)) rfl rfl (by decide) ⟨rfl, rfl, rfl, fun _ => rfl, by decide, by decide⟩ ⟨rfl, rfl, rfl, fun _ => rfl, by decide, by decide⟩ (fun _ _ _ _ _ _ _ _ q => lt_int q) (nomark _)) (by decide) (fun _ => rfl)))
  (pss_cons (ps_set (i := 6) sc.nd rfl (Or.inl rfl) (pe_callB (call_min2 rfl) (by rfl) T.min (by decide +kernel) (pa_cons (pe_op op_sub (pe_ix ix_list (pv 2) (pv 4) (fun _ _ => rfl)) (pe_ix ix_list (pv 1) (pv 4) (fun _ _ => rfl))) (pa_cons (pe_op op_sub (pe_ix ix_list (pv 1) (pv 5) (fun _ _ => rfl)) (pe_ix ix_list (pv 2) (pv 5) (fun _ _ => rfl))) pa_nil))))
  (pss_cons (ps_set (i := 7) sc.nd rfl (Or.inl rfl) (pe_op op_sub (pe_ix ix_list (pv 2) (pv 4) (fun _ _ => rfl)) (pe_ix ix_list (pv 2) (pv 5) (fun _ _ => rfl))))
  (pss_cons (ps_expr (pe_bm PySem.F.plainAttrs_list PySem.F.slot_list_append PySem.F.type_list_append mt_append (pv 3) (pa_cons (pe_tup (pa_cons (pv 4) (pa_cons (pv 5) (pa_cons (pe_fn DF (by decide) hr (pa_cons (pe_op op_sub (pv 7) (pv 6)) (pa_cons (pv 7) pa_nil))) pa_nil)))) pa_nil)))
  (pss_cons (ps_augS (pv 2) (pv 4) pget_list (pv 6) ip_sub set_list)
  (pss_one (ps_augS (pv 2) (pv 5) pget_list (pv 6) ip_add set_list)))))))))
  (pss_one (ps_ret (pv 3)))))), ?_⟩
    have hlen := maj.len
    refine ⟨_, rfl, a, _, rfl, .inl ha, fun n hn0 => ?_⟩
    refine ⟨Nat.zero_le _, fun t ht0 => ?_⟩
    have hnt : n ≠ t := fun e => by
      rw [← e, upd_same] at ht0
      cases ht0
    have hsame0 : Same H (upd (upd H n (.lst (g.map V.int))) t (.lst [])) := (same_upd hn0).trans (same_upd ht0)
    refine ⟨fun m σ H' => ∃ (now : List Int) (Tt : List TurnI) (tv : List V) (o4 o5 o6 o7 : Option V), σ = [some (.ref a), some (.ref b), some (.ref n), some (.ref t), o4, o5, o6, o7] ∧ H' n = some (.lst (now.map V.int)) ∧ H' t = some (.lst tv) ∧
        DpTAll K H' tv (Tt.map turnD) ∧ LevTo g now Tt ∧ Maj now l ∧ Tt.length + ncount now l ≤ g.length ∧ (now = l → Tt.length ≤ g.length - 1) ∧ (∀ x ∈ now, x.natAbs ≤ B) ∧ But Pt H H' ∧ TabG H' Pt ∧ m = ncount now l,
      ⟨_, g, [], [], none, none, none, none, rfl, ?_, upd_same, .nil, .nil, maj, ?_, fun _ => Nat.zero_le _, hgB, Same.but hsame0, TabG.same htab hsame0, rfl⟩, ?_⟩
    · rw [upd_ne hnt, upd_same]
    · have := ncount_le g l
      simp
      omega
    rintro m σ H1 ⟨now, Tt, tv, o4, o5, o6, o7, rfl, hn, ht, hT, hto, mj, hcnt, hfin, hnB, hbut, htab1, rfl⟩
    have hb1 : SqL K H1 b (l.map V.int) := hbut.seq htab hb
    have lnow : now.length = g.length := hto.len
    have htl : Tt.length ≤ 100 := by omega
    have htv : tv.length = Tt.length := by rw [dtAll_len hT, List.length_map]
    refine ⟨_, rfl, _, rfl, .list (now.map PyData.int), .list (l.map PyData.int), .lst (SqL.of hn) (dpAll_ints _), .lst hb1 (dpAll_ints _), shaped_ints _, shaped_ints _, _, rfl, ?_⟩
    rw [eqv_ints]
    refine if2 (fun e => ?_) (fun e => ?_)
    · have ne : now ≠ l := fun z => by rw [z] at e; simp at e
      -- a place above, the last one; behind it a place below, the first one
      obtain ⟨ia, xa, ya, hxa, hya, hlt⟩ := mj.above ne
      have hia : ia < now.length := getD_some hxa
      refine ⟨fun σ' H' => ∃ m', m' < ncount now l ∧ ∃ (now' : List Int) (Tt : List TurnI) (tv : List V) (o4 o5 o6 o7 : Option V), σ' = [some (.ref a), some (.ref b), some (.ref n), some (.ref t), o4, o5, o6, o7] ∧ H' n = some (.lst (now'.map V.int)) ∧ H' t = some (.lst tv) ∧
        DpTAll K H' tv (Tt.map turnD) ∧ LevTo g now' Tt ∧ Maj now' l ∧ Tt.length + ncount now' l ≤ g.length ∧ (now' = l → Tt.length ≤ g.length - 1) ∧ (∀ x ∈ now', x.natAbs ≤ B) ∧ But Pt H H' ∧ TabG H' Pt ∧ m' = ncount now' l, fun σ' H' z => z, ?_⟩
      -- i = max(..)
      have nl : ((now.map V.int).length : Int) = (now.length : Int) := by rw [List.length_map]
      refine ⟨_, rfl, n, _, rfl, .inl (SqL.of hn), _, rfl, by omega, by omega, by omega, by rw [nl]; omega, htab1, fun i => decide (l.getD i 0 < now.getD i 0), ?_, ?_, fun i H2 hT2 hi hpi hmaxi => ?_⟩
      · refine ⟨n, b, now, l, rfl, rfl, SqL.of hn, hb1, by omega, by rw [nl]; omega, fun i hi => ?_⟩
        rw [nl] at hi
        have h1 : i < now.length := by omega
        have h2 : i < l.length := by rw [← mj.len]; exact h1
        exact ⟨now[i], l[i], by simp [h1], by simp [h2], by simp [List.getD_eq_getElem?_getD, h1, h2]⟩
      · refine ⟨ia, by rw [nl]; omega, ?_⟩
        simp [List.getD_eq_getElem?_getD, hxa, hya, hlt]
      rw [nl] at hi
      have hi' : i < now.length := by omega
      have hil : i < l.length := by rw [← mj.len]; exact hi'
      obtain ⟨x, hx⟩ : ∃ x, now[i]? = some x := ⟨_, List.getElem?_eq_getElem hi'⟩
      obtain ⟨p, hp⟩ : ∃ p, l[i]? = some p := ⟨_, List.getElem?_eq_getElem hil⟩
      have hup : p < x := by
        have := of_decide_eq_true hpi
        simpa [List.getD_eq_getElem?_getD, hx, hp] using this
      have hlast : ∀ (k : Nat) (u v : Int), i < k → now[k]? = some u → l[k]? = some v → u ≤ v := fun k u v hk hu hv => by
        apply Classical.byContradiction
        intro c
        have hkn : k < now.length := getD_some hu
        have := hmaxi k (by rw [nl]; omega) (by simp [List.getD_eq_getElem?_getD, hu, hv]; omega)
        omega
      have hb2 : But Pt H1 H2 := tab_but hT2
      have htab2 : TabG H2 Pt := hT2.1
      obtain ⟨ps1, hPt1, _⟩ := htab1
      have nPn : n ≠ Pt := fun z => by rw [z, hPt1] at hn; cases hn
      have nPt : t ≠ Pt := fun z => by rw [z, hPt1] at ht; cases ht
      have hn2 := hb2 n _ nPn hn
      have ht2 := hb2 t _ nPt ht
      have hbl2 : SqL K H2 b (l.map V.int) := hb2.seq ⟨ps1, hPt1, ‹_›⟩ hb1
      -- j = min(..)
      obtain ⟨ja, xj, yj, hija, hxj, hyj, hltj⟩ := mj.below hx hp hup
      have hja : ja < now.length := getD_some hxj
      refine ⟨_, rfl, _, rfl, n, _, rfl, .inl (SqL.of hn2), _, _, rfl, rfl, by omega, by omega, by omega, by rw [nl]; omega, htab2, fun k => decide (now.getD (i + k) 0 < l.getD (i + k) 0), ?_, ?_, fun j0 H3 hT3 hj hpj hminj => ?_⟩
      · refine ⟨n, b, now, l, rfl, rfl, SqL.of hn2, hbl2, by omega, by rw [nl]; omega, fun k hk => ?_⟩
        rw [nl] at hk
        have h1 : i + k < now.length := by omega
        have h2 : i + k < l.length := by rw [← mj.len]; exact h1
        have e0 : ((0 : Int) + (i : Int)).toNat + k = i + k := by omega
        refine ⟨now[i + k], l[i + k], ?_, ?_, ?_⟩
        · rw [e0]
          exact List.getElem?_eq_getElem h1
        · rw [e0]
          exact List.getElem?_eq_getElem h2
        · simp [List.getD_eq_getElem?_getD, h1, h2]
      · refine ⟨ja - i, by rw [nl]; omega, ?_⟩
        have e0 : i + (ja - i) = ja := by omega
        show decide (now.getD (i + (ja - i)) 0 < l.getD (i + (ja - i)) 0) = true
        rw [e0]
        simp [List.getD_eq_getElem?_getD, hxj, hyj, hltj]
      rw [nl] at hj
      obtain ⟨j, hjj⟩ : ∃ j, j = i + j0 := ⟨_, rfl⟩
      have hj' : j < now.length := by omega
      have hjl : j < l.length := by rw [← mj.len]; exact hj'
      obtain ⟨y, hy⟩ : ∃ y, now[j]? = some y := ⟨_, List.getElem?_eq_getElem hj'⟩
      obtain ⟨q', hq'⟩ : ∃ q', l[j]? = some q' := ⟨_, List.getElem?_eq_getElem hjl⟩
      have hdn : y < q' := by
        have := of_decide_eq_true hpj
        rw [← hjj] at this
        simpa [List.getD_eq_getElem?_getD, hy, hq'] using this
      have hij : i < j := by
        apply Classical.byContradiction
        intro c
        have : i = j := by omega
        subst this
        rw [hx] at hy
        rw [hp] at hq'
        cases hy
        cases hq'
        omega
      have hfirst : ∀ (k : Nat) (u v : Int), i < k → k < j → now[k]? = some u → l[k]? = some v → v ≤ u := fun k u v h1 h2 hu hv => by
        apply Classical.byContradiction
        intro c
        have hkn : k < now.length := getD_some hu
        have e0 : i + (k - i) = k := by omega
        have := hminj (k - i) (by rw [nl]; omega) (by
          show decide (now.getD (i + (k - i)) 0 < l.getD (i + (k - i)) 0) = true
          rw [e0]
          simp [List.getD_eq_getElem?_getD, hu, hv]
          omega)
        omega
      have LV : Lv now l i j x y p q' := ⟨hx, hy, hp, hq', hij, hup, hdn, hlast, hfirst⟩
      have hgap := LV.gap hdesc
      have hb3 : But Pt H2 H3 := tab_but hT3
      have htab3 : TabG H3 Pt := hT3.1
      obtain ⟨ps2, hPt2, _⟩ := htab2
      have hn3 := hb3 n _ nPn hn2
      have ht3 := hb3 t _ nPt ht2
      have hbl3 : SqL K H3 b (l.map V.int) := hb3.seq ⟨ps2, hPt2, ‹_›⟩ hbl2
      have hT3' : DpTAll K H3 tv (Tt.map turnD) := (hT.keep (hb2.kt ⟨ps1, hPt1, ‹_›⟩)).keep (hb3.kt ⟨ps2, hPt2, ‹_›⟩)
      have ei : (0 : Int) + (i : Int) = ((i : Nat) : Int) := by omega
      have ej : (0 : Int) + (i : Int) + (j0 : Int) = ((j : Nat) : Int) := by omega
      rw [ej]
      rw [ei]
      -- step = min(..)
      refine ⟨_, rfl, _, rfl, _, _, _, _, rfl, rfl, SqL.of hn3, atI_int rfl hx, _, rfl, _, rfl, _, _, _, _, rfl, rfl, hbl3, atI_int rfl hp, _, _, rfl, rfl, ?_⟩
      refine ⟨_, rfl, _, rfl, _, _, _, _, rfl, rfl, hbl3, atI_int rfl hq', _, rfl, _, rfl, _, _, _, _, rfl, rfl, SqL.of hn3, atI_int rfl hy, _, _, rfl, rfl, ?_⟩
      refine ⟨_, _, rfl, ?_⟩
      obtain ⟨s, hs⟩ : ∃ s, s = (if q' - y < x - p then q' - y else x - p) := ⟨_, rfl⟩
      rw [← hs]
      have hs0 : 0 ≤ s := by rw [hs]; split <;> omega
      have hs1 : s ≤ x - p := by rw [hs]; split <;> omega
      have hs2 : s ≤ q' - y := by rw [hs]; split <;> omega
      have hs3 : x - s = p ∨ y + s = q' := by
        rw [hs]
        split
        · right; omega
        · left; omega
      -- gap
      refine ⟨_, rfl, _, rfl, _, _, _, _, rfl, rfl, SqL.of hn3, atI_int rfl hx, _, rfl, _, rfl, _, _, _, _, rfl, rfl, SqL.of hn3, atI_int rfl hy, _, _, rfl, rfl, ?_⟩
      -- turns.append((i, j, fraction(gap - step, gap)))
      have bx : x.natAbs ≤ B := hnB x (List.mem_of_getElem? hx)
      have by' : y.natAbs ≤ B := hnB y (List.mem_of_getElem? hy)
      have bp : p.natAbs ≤ B := hlB p (List.mem_of_getElem? hp)
      have bq : q'.natAbs ≤ B := hlB q' (List.mem_of_getElem? hq')
      have sgap : Sz (x - y) := by
        have h1 : (x - y).natAbs ≤ B + B := by omega
        have h2 : B + B < 2 ^ 9000 := by
          have h3 : (2 : Nat) ^ 8000 + 2 ^ 8000 ≤ 2 ^ 9000 := by
            rw [show (2 : Nat) ^ 8000 + 2 ^ 8000 = 2 ^ 8001 by rw [Nat.pow_succ]; omega]
            exact pow_le_pow' (by decide)
          omega
        exact Nat.lt_of_le_of_lt h1 h2
      refine ⟨_, rfl, .inl ⟨rfl, _, SqL.of ht3⟩, _, rfl, _, rfl, _, rfl, _, rfl, _, _, rfl, rfl, _, rfl, ?_⟩
      refine ⟨_, _, rfl, by omega, sgap, fun H4 p1 s4 hp1 => ?_⟩
      refine ⟨by show 3 ≤ sizeLine; decide, fun p2 hp2 => ?_⟩
      have s5 : Same H3 (upd H4 p2 (.tup [.int (i : Nat), .int (j : Nat), .ref p1])) := s4.trans (same_upd hp2)
      have ht5 := s5 _ _ ht3
      have hn5 := s5 _ _ hn3
      refine ⟨t, tv, _, rfl, rfl, ht5, small1000 (by omega), ?_⟩
      generalize hH5 : upd H4 p2 (.tup [.int (i : Nat), .int (j : Nat), .ref p1]) = H5 at s5 ht5 hn5
      have k6 : KeepT H5 (upd H5 t (.lst (tv ++ [.ref p2]))) := kt_lst ht5
      have hn6 : (upd H5 t (.lst (tv ++ [.ref p2]))) n = some (.lst (now.map V.int)) := by
        rw [upd_ne hnt]
        exact hn5
      -- now[i] -= step
      refine ⟨_, rfl, _, rfl, _, _, _, _, rfl, rfl, SqL.of hn6, atI_int rfl hx, _, rfl, _, _, rfl, rfl, n, _, _, i, rfl, rfl, hn6, ixN_nat rfl (by rw [List.length_map]; exact hi'), ?_⟩
      rw [map_set_int]
      -- now[j] += step
      have hyj2 : (now.set i (x - s))[j]? = some y := by rw [set_other (by omega)]; exact hy
      refine ⟨_, rfl, _, rfl, _, _, _, _, rfl, rfl, SqL.of upd_same, atI_int rfl hyj2, _, rfl, _, _, rfl, rfl, n, _, _, j, rfl, rfl, upd_same, ixN_nat rfl (by rw [List.length_map, List.length_set]; exact hj'), ?_⟩
      rw [map_set_int]
      have hcm := LV.count hs3
      have mj' := LV.maj mj hs0 hs1
      refine ⟨_, ?_, moveTo now i j x y s, Tt ++ [(i, j, nf (x - y - s) (x - y))], tv ++ [.ref p2], _, _, _, _, rfl, upd_same, ?_, ?_, .snoc hto hx hy hij (by omega) hs0 (by omega), mj', ?_, ?_, ?_, ?_, ?_, rfl⟩
      · omega
      · rw [upd_ne (Ne.symm hnt), upd_ne (Ne.symm hnt), upd_same]
      · rw [List.map_append]
        have k7 : KeepT H3 (upd (upd (upd H5 t (.lst (tv ++ [.ref p2]))) n (.lst ((now.set i (x - s)).map V.int))) n (.lst ((moveTo now i j x y s).map V.int))) :=
          (((Same.kt s5).trans k6).trans (kt_lst hn6)).trans (kt_lst upd_same)
        have k8 : KeepT H5 (upd (upd (upd H5 t (.lst (tv ++ [.ref p2]))) n (.lst ((now.set i (x - s)).map V.int))) n (.lst ((moveTo now i j x y s).map V.int))) :=
          (k6.trans (kt_lst hn6)).trans (kt_lst upd_same)
        refine dtAll_app (hT3'.keep k7) (.cons (DpT.keep k8 ?_) .nil)
        have e5 : H5 p2 = some (.tup [.int (i : Nat), .int (j : Nat), .ref p1]) := by rw [← hH5, upd_same]
        have e6 : H5 p1 = some (.tup [.int (nf (x - y - s) (x - y)).1, .int (nf (x - y - s) (x - y)).2]) := by
          rw [← hH5, upd_ne (ne_of_none hp1 hp2)]
          exact hp1
        exact tTurn e5 e6
      · rw [List.length_append]
        simp
        omega
      · intro e
        rw [List.length_append]
        have : ncount (moveTo now i j x y s) l = 0 := by rw [e]; exact ncount_self l
        simp
        omega
      · intro z hz
        unfold moveTo at hz
        rcases List.mem_or_eq_of_mem_set hz with hz | hz
        · rcases List.mem_or_eq_of_mem_set hz with hz | hz
          · exact hnB z hz
          · omega
        · omega
      · intro bb o nb ho
        have h5 : H5 bb = some o := s5 _ _ (hb3 _ _ nb (hb2 _ _ nb (hbut _ _ nb ho)))
        have n1 : bb ≠ n := fun z => by rw [z, hn0] at ho; cases ho
        have n2 : bb ≠ t := fun z => by
          rw [z] at ho
          have hne : H t = none := by
            have := ht0
            rw [upd_ne (Ne.symm hnt)] at this
            exact this
          rw [hne] at ho
          cases ho
        rw [upd_ne n1, upd_ne n1, upd_ne n2]
        exact h5
      · exact TabG.lst (TabG.lst (TabG.lst (TabG.same htab3 s5) ht5) hn6) upd_same
    · have e2 : now = l := by simpa using e
      refine ⟨_, rfl, ?_⟩
      have hD : H t = none := by
        have := ht0
        rw [upd_ne (Ne.symm hnt)] at this
        exact this
      exact q H1 t tv Tt hbut htab1 hD ht hT (by rw [← e2]; exact hto) (hfin e2)
end
end V3
namespace V3
open PySem.Spec PySem L2 PyProof.Rows RZ GxR
/-- the exchanges T lead g to now -/
inductive ExTo (g : List Int) : List Int → List TurnI → Prop
  | nil : ExTo g g []
  | snoc {now : List Int} {T : List TurnI} {i j : Nat} {x y : Int} : ExTo g now T → now[i]? = some x → now[j]? = some y → i < j → ExTo g (swapIn now i j x y) (T ++ [(i, j, (0, 1))])
theorem ExTo.len {g now : List Int} {T : List TurnI} (h : ExTo g now T) : now.length = g.length := by
  induction h with
  | nil => rfl
  | snoc _ _ _ _ ih => rw [swap_len, ih]
section
variable {mg : Str → Option Value} {base : Heap} {K : PySem.W.Frag} {P : Program} {w : World}
abbrev s_exc : Stmt := topS 30
abbrev N_exc : List Str := ["levels", "goal", "now", "turns", "i", "j"]
theorem sc_exc : FnScope N_exc ["levels", "goal"] (defScope s_exc) := ⟨rfl, rfl, rfl, by decide +kernel, rfl, by decide +kernel, by decide +kernel⟩
def spExc (K : PySem.W.Frag) (Pt : Addr) : Sp := fun vs H Q _ => ∃ (a b : Addr) (l g : List Int), vs = [.ref a, .ref b] ∧ SqL K H a (l.map V.int) ∧ SqL K H b (g.map V.int) ∧ l.length ≤ 100 ∧ l.Perm g ∧ TabG H Pt ∧
  ∀ H' D tv T, But Pt H H' → TabG H' Pt → H D = none → H' D = some (.lst tv) → DpTAll K H' tv (T.map turnD) → ExTo l g T → T.length ≤ l.length - 1 → Q (.ref D) H'
set_option maxHeartbeats 16000000 in
theorem ok_exc (T : Gs mg) {c Pt : Addr} (TB : TabB base mg c Pt) (F : AtC K mg "exchanging_turns" s_exc c) : Df P w K mg base "exchanging_turns" 2 ["levels", "goal"] (spExc K Pt) := by
  have sc := sc_exc
  refine Df.mkC F sc (fun vs H Q E h => ?_) (fun _ _ _ _ _ _ us hl => match us, hl with | [_, _], _ => rfl) (fun f A outer s H vs Q E hr h => ?_)
  · obtain ⟨a, q, u, l, rfl, _⟩ := h
    rfl
  · obtain ⟨a, b, l, g, rfl, ha, hb, l100, perm, htab, q⟩ := h
    refine ⟨_, (pss_cons (ps_set (i := 2) sc.nd rfl (Or.inr rfl) (pe_callTy call_list_of (by rfl) T.list_ (by decide +kernel) (pa_cons (pv 0) pa_nil)))
  (pss_cons (ps_set (i := 3) sc.nd rfl (Or.inl rfl) (pe_lst pa_nil))
  (pss_cons (ps_for PassesOwn.never rfl (pi_range1 rfl T.range (pa_cons (pe_callB call_len_seq (by rfl) T.len PySem.boot_len (pa_cons (pv 2) pa_nil)) pa_nil)) (pg_name (i := 4) sc.nd rfl (Or.inr rfl))
   (pss_one (ps_if (pt_cmpR op_ne (pe_ix ix_list (pv 2) (pv 4) (fun _ _ => rfl)) (pe_ix ix_list (pv 1) (pv 4) (fun _ _ => rfl)) (nomark _))
   (pss_cons (ps_set (i := 5) sc.nd rfl (Or.inl rfl) (pe_minR (P := Pt) hr (by rfl) T.min TB rfl ⟨rfl, rfl, by decide +kernel, rfl, rfl, by
        intro y hy e
        simp only [List.mem_cons, List.not_mem_nil, or_false] at hy
        rcases hy with rfl | rfl | rfl | rfl | rfl <;> first | exact ⟨_, rfl⟩ | cases e⟩ (prg_2 (by rfl) T.range (pe_op op_add (pv 4) pe_int) (pe_callB call_len_seq (by rfl) T.len PySem.boot_len (pa_cons (pv 2) pa_nil)))
        (test_xy (ia := 2) (ib := 1) (iy := 4) (cmp := fun u v => u == v) rfl rfl (by decide) ⟨rfl, rfl, rfl, fun _ => rfl, by decide, by decide⟩ ⟨rfl, rfl, rfl, fun _ => rfl, by decide, by decide⟩ ⟨rfl, rfl, rfl, fun _ => rfl, by decide, by decide⟩ (fun _ _ _ _ _ _ _ _ q => eq_int q) (nomark _)) (by decide) (fun _ => rfl)))
  (pss_cons (ps_expr (pe_bm PySem.F.plainAttrs_list PySem.F.slot_list_append PySem.F.type_list_append mt_append (pv 3) (pa_cons (pe_tup (pa_cons (pv 4) (pa_cons (pv 5) (pa_cons (pe_tup (pa_cons pe_int (pa_cons pe_int pa_nil))) pa_nil)))) pa_nil)))
  (pss_one (ps_asg (pe_tup (pa_cons (pe_ix ix_list (pv 2) (pv 5) (fun _ _ => rfl)) (pa_cons (pe_ix ix_list (pv 2) (pv 4) (fun _ _ => rfl)) pa_nil))) (pg_tup rfl (pgs_cons (pg_sub (pv 2) (pv 4) set_list) (pgs_cons (pg_sub (pv 2) (pv 5) set_list) pgs_nil)))))))
   pss_nil)))
  (pss_one (ps_ret (pv 3)))))), ?_⟩
    refine ⟨_, rfl, a, _, rfl, .inl ha, fun n hn0 => ?_⟩
    refine ⟨Nat.zero_le _, fun t ht0 => ?_⟩
    have hnt : n ≠ t := fun e => by
      rw [← e, upd_same] at ht0
      cases ht0
    have hDt : H t = none := by
      have := ht0
      rw [upd_ne (Ne.symm hnt)] at this
      exact this
    have hsame0 : Same H (upd (upd H n (.lst (l.map V.int))) t (.lst [])) := (same_upd hn0).trans (same_upd ht0)
    have hn1 : (upd (upd H n (.lst (l.map V.int))) t (.lst [])) n = some (.lst (l.map V.int)) := by rw [upd_ne hnt, upd_same]
    have nl0 : ((l.map V.int).length : Int) = (l.length : Int) := by rw [List.length_map]
    refine ⟨_, rfl, n, _, rfl, .inl (SqL.of hn1), _, rfl, by omega, by rw [nl0]; omega, for_range (lo := 0) (n := ((l.map V.int).length : Int).toNat)
      (fun i σ H' => ∃ (now : List Int) (Tt : List TurnI) (tv : List V) (o4 o5 : Option V), σ = [some (.ref a), some (.ref b), some (.ref n), some (.ref t), o4, o5] ∧ H' n = some (.lst (now.map V.int)) ∧ H' t = some (.lst tv) ∧
        DpTAll K H' tv (Tt.map turnD) ∧ ExTo l now Tt ∧ now.Perm g ∧ Agree now g i ∧ Tt.length ≤ i ∧ Tt.length ≤ l.length - 1 ∧ But Pt H H' ∧ TabG H' Pt)
      ⟨l, [], [], none, none, rfl, hn1, upd_same, .nil, .nil, perm, rfl, Nat.le_refl _, Nat.zero_le _, Same.but hsame0, TabG.same htab hsame0⟩ ?_ ?_⟩
    · rintro i σ H1 hi ⟨now, Tt, tv, o4, o5, rfl, hn, ht, hT, hto, pm, ag, hci, hcl, hbut, htab1⟩
      rw [nl0] at hi
      have hb1 : SqL K H1 b (g.map V.int) := hbut.seq htab hb
      have lnow : now.length = l.length := hto.len
      have lg : g.length = l.length := by rw [← pm.length_eq, lnow]
      have hi' : i < now.length := by omega
      have hig : i < g.length := by omega
      obtain ⟨x, hx⟩ : ∃ x, now[i]? = some x := ⟨_, List.getElem?_eq_getElem hi'⟩
      obtain ⟨y, hy⟩ : ∃ y, g[i]? = some y := ⟨_, List.getElem?_eq_getElem hig⟩
      have htv : tv.length = Tt.length := by rw [dtAll_len hT, List.length_map]
      have ei : (0 : Int) + (i : Int) = ((i : Nat) : Int) := by omega
      have nl : ((now.map V.int).length : Int) = (now.length : Int) := by rw [List.length_map]
      rw [ei]
      refine ⟨_, rfl, _, rfl, _, _, _, _, rfl, rfl, SqL.of hn, atI_int rfl hx, _, rfl, _, rfl, _, _, _, _, rfl, rfl, hb1, atI_int rfl hy, rfl, _, rfl, if2 (fun e => ?_) (fun e => ?_)⟩
      · have ne : x ≠ y := fun z => by rw [z] at e; simp at e
        obtain ⟨jj, hjj, hjx⟩ := find_behind pm ag hx hy ne
        have hjl : jj < now.length := getD_some hjx
        refine ⟨_, rfl, _, _, rfl, rfl, _, rfl, n, _, rfl, .inl (SqL.of hn), _, _, rfl, rfl, by omega, by omega, by omega, by rw [nl]; omega, htab1, fun k => now.getD (i + 1 + k) 0 == y, ?_, ?_, fun j0 H2 hT2 hj hpj hminj => ?_⟩
        · refine ⟨n, b, now, g, (i : Nat), y, rfl, rfl, rfl, SqL.of hn, hb1, by omega, by rw [nl]; omega, by omega, by omega, by simpa using hy, fun k hk => ?_⟩
          rw [nl] at hk
          have h1 : i + 1 + k < now.length := by omega
          have e0 : ((i : Int) + 1).toNat + k = i + 1 + k := by omega
          refine ⟨now[i + 1 + k], ?_, ?_⟩
          · rw [e0]
            exact List.getElem?_eq_getElem h1
          · simp [List.getD_eq_getElem?_getD, h1]
        · refine ⟨jj - (i + 1), by rw [nl]; omega, ?_⟩
          have e0 : i + 1 + (jj - (i + 1)) = jj := by omega
          show (now.getD (i + 1 + (jj - (i + 1))) 0 == y) = true
          rw [e0]
          simp [List.getD_eq_getElem?_getD, hjx]
        rw [nl] at hj
        obtain ⟨j, hjd⟩ : ∃ j, j = i + 1 + j0 := ⟨_, rfl⟩
        have hj' : j < now.length := by omega
        have hyj : now[j]? = some y := by
          have h1 : (now.getD (i + 1 + j0) 0 == y) = true := hpj
          rw [← hjd] at h1
          rw [List.getElem?_eq_getElem hj']
          simp [List.getD_eq_getElem?_getD, hj'] at h1
          rw [h1]
        have ej : (i : Int) + 1 + (j0 : Int) = ((j : Nat) : Int) := by omega
        rw [ej]
        have hb2 : But Pt H1 H2 := tab_but hT2
        have htab2 : TabG H2 Pt := hT2.1
        obtain ⟨ps1, hPt1, _⟩ := htab1
        have nPn : n ≠ Pt := fun z => by rw [z, hPt1] at hn; cases hn
        have nPt : t ≠ Pt := fun z => by rw [z, hPt1] at ht; cases ht
        have hn2 := hb2 n _ nPn hn
        have ht2 := hb2 t _ nPt ht
        have hT2' : DpTAll K H2 tv (Tt.map turnD) := hT.keep (hb2.kt ⟨ps1, hPt1, ‹_›⟩)
        refine ⟨_, rfl, .inl ⟨rfl, _, SqL.of ht2⟩, _, rfl, _, rfl, by show 2 ≤ sizeLine; decide, fun p1 hp1 => ?_⟩
        refine ⟨by show 3 ≤ sizeLine; decide, fun p2 hp2 => ?_⟩
        have s5 : Same H2 (upd (upd H2 p1 (.tup [.int 0, .int 1])) p2 (.tup [.int (i : Nat), .int (j : Nat), .ref p1])) := (same_upd hp1).trans (same_upd hp2)
        have ht5 := s5 _ _ ht2
        have hn5 := s5 _ _ hn2
        refine ⟨t, tv, _, rfl, rfl, ht5, small1000 (by omega), ?_⟩
        have e5 : (upd (upd H2 p1 (.tup [.int 0, .int 1])) p2 (.tup [.int (i : Nat), .int (j : Nat), .ref p1])) p2 = some (.tup [.int (i : Nat), .int (j : Nat), .ref p1]) := upd_same
        have e6 : (upd (upd H2 p1 (.tup [.int 0, .int 1])) p2 (.tup [.int (i : Nat), .int (j : Nat), .ref p1])) p1 = some (.tup [.int ((0, 1) : Int × Int).1, .int ((0, 1) : Int × Int).2]) := by
          rw [upd_ne (fun z => by rw [← z, upd_same] at hp2; cases hp2), upd_same]
        generalize hH5 : upd (upd H2 p1 (.tup [.int 0, .int 1])) p2 (.tup [.int (i : Nat), .int (j : Nat), .ref p1]) = H5 at s5 ht5 hn5 e5 e6
        have k6 : KeepT H5 (upd H5 t (.lst (tv ++ [.ref p2]))) := kt_lst ht5
        have hn6 : (upd H5 t (.lst (tv ++ [.ref p2]))) n = some (.lst (now.map V.int)) := by
          rw [upd_ne hnt]
          exact hn5
        have ht6 : (upd H5 t (.lst (tv ++ [.ref p2]))) t = some (.lst (tv ++ [.ref p2])) := upd_same
        generalize hH6 : upd H5 t (.lst (tv ++ [.ref p2])) = H6 at k6 hn6 ht6
        -- now[i], now[j] = now[j], now[i]
        refine ⟨_, rfl, _, rfl, _, _, _, _, rfl, rfl, SqL.of hn6, atI_int rfl hyj, _, rfl, _, rfl, _, _, _, _, rfl, rfl, SqL.of hn6, atI_int rfl hx, by show 2 ≤ sizeLine; decide, fun p3 hp3 => ?_⟩
        have s7 : Same H6 (upd H6 p3 (.tup [.int y, .int x])) := same_upd hp3
        have hn7 := s7 _ _ hn6
        have ht7 := s7 _ _ ht6
        have e7 : (upd H6 p3 (.tup [.int y, .int x])) p3 = some (.tup [.int y, .int x]) := upd_same
        generalize hH7 : upd H6 p3 (.tup [.int y, .int x]) = H7 at s7 hn7 ht7 e7
        refine ⟨p3, _, rfl, SqT.of e7, rfl, _, _, rfl, _, rfl, _, rfl, n, _, _, i, rfl, rfl, hn7, ixN_nat rfl (by rw [List.length_map]; exact hi'), ?_⟩
        rw [map_set_int]
        refine ⟨_, _, rfl, _, rfl, _, rfl, n, _, _, j, rfl, rfl, upd_same, ixN_nat rfl (by rw [List.length_map, List.length_set]; exact hj'), rfl, ?_⟩
        rw [map_set_int]
        have ij : i < j := by omega
        have k7 : KeepT H5 (upd (upd H7 n (.lst ((now.set i y).map V.int))) n (.lst ((swapIn now i j x y).map V.int))) := ((k6.trans (Same.kt s7)).trans (kt_lst hn7)).trans (kt_lst upd_same)
        refine ⟨swapIn now i j x y, Tt ++ [(i, j, (0, 1))], tv ++ [.ref p2], _, _, rfl, upd_same, ?_, ?_, .snoc hto hx hyj ij, (swap_perm hx hyj (by omega)).trans pm, agree_swap ag hx hy ij, ?_, ?_, ?_, ?_⟩
        · rw [upd_ne (Ne.symm hnt), upd_ne (Ne.symm hnt)]
          exact ht7
        · rw [List.map_append]
          exact dtAll_app (hT2'.keep ((Same.kt s5).trans k7)) (.cons (DpT.keep k7 (tTurn e5 e6)) .nil)
        · rw [List.length_append]
          simp
          omega
        · rw [List.length_append]
          have : i + 1 ≠ now.length := fun z => ne (last_agrees pm ag hx hy z)
          simp
          omega
        · intro bb o nb ho
          have h2 : H2 bb = some o := hb2 _ _ nb (hbut _ _ nb ho)
          have n1 : bb ≠ n := fun z => by rw [z, hn0] at ho; cases ho
          have n2 : bb ≠ t := fun z => by rw [z, hDt] at ho; cases ho
          rw [upd_ne n1, upd_ne n1]
          refine s7 _ _ ?_
          rw [← hH6, upd_ne n2]
          exact s5 _ _ h2
        · refine TabG.lst (TabG.lst (TabG.same ?_ s7) hn7) upd_same
          rw [← hH6]
          exact TabG.lst (TabG.same htab2 s5) ht5
      · have e2 : x = y := by simpa using e
        subst e2
        exact ⟨now, Tt, tv, _, _, rfl, hn, ht, hT, hto, pm, agree_same ag hx hy, by omega, hcl, hbut, htab1⟩
    · rintro σ H1 ⟨now, Tt, tv, o4, o5, rfl, hn, ht, hT, hto, pm, ag, hci, hcl, hbut, htab1⟩
      have lnow : now.length = l.length := hto.len
      have lg : g.length = l.length := by rw [← pm.length_eq, lnow]
      have e : now = g := by
        unfold Agree at ag
        rw [nl0] at ag
        rw [List.take_of_length_le (by omega), List.take_of_length_le (by omega)] at ag
        exact ag
      refine ⟨_, rfl, ?_⟩
      exact q H1 t tv Tt hbut htab1 hDt ht hT (by rw [← e]; exact hto) hcl
end
end V3
set_option maxHeartbeats 2100000
/-! Fractions in lowest terms as scaled whole numbers. -/
namespace V3
theorem mmmc (a b c d : Int) : (a * b) * (c * d) = (a * c) * (b * d) := by
  rw [Int.mul_assoc, Int.mul_assoc, ← Int.mul_assoc b, ← Int.mul_assoc c, Int.mul_comm b c]
theorem gcd_posI {n u : Int} (h : 0 < u) : 0 < (Int.gcd n u : Int) := gcd_pos_r h
theorem nf_cross {n u : Int} (h : 0 < u) : (nf n u).1 * u = n * (nf n u).2 := by
  have g0 := gcd_posI (n := n) h
  obtain ⟨a, ha⟩ : (Int.gcd n u : Int) ∣ n := Int.gcd_dvd_left ..
  obtain ⟨b, hb⟩ : (Int.gcd n u : Int) ∣ u := Int.gcd_dvd_right ..
  show n / (Int.gcd n u : Int) * u = n * (u / (Int.gcd n u : Int))
  generalize (Int.gcd n u : Int) = g at *
  subst ha hb
  rw [Int.mul_ediv_cancel_left _ (by omega), Int.mul_ediv_cancel_left _ (by omega)]
  rw [← Int.mul_assoc, Int.mul_comm a g]
theorem nf_pos2 {n u : Int} (h : 0 < u) : 0 < (nf n u).2 := by
  have g0 := gcd_posI (n := n) h
  have g1 := gcd_le_r (n := n) h
  exact Int.ediv_pos_of_pos_of_dvd h (by omega) (Int.gcd_dvd_right ..)
theorem nf_Nf {n u : Int} (h : 0 < u) : Nf (nf n u) := by
  refine ⟨nf_pos2 h, ?_⟩
  have g0 : 0 < Int.gcd n u := by have := gcd_posI (n := n) h; omega
  exact Int.gcd_ediv_gcd_ediv_gcd g0
theorem Nf.dvd_of {q r : Int × Int} (hq : Nf q) (e : q.1 * r.2 = r.1 * q.2) : q.2 ∣ r.2 := by
  have h1 : q.2 ∣ q.1 * r.2 := ⟨r.1, by rw [e, Int.mul_comm]⟩
  have h2 : q.2.natAbs ∣ q.1.natAbs * r.2.natAbs := by
    rw [← Int.natAbs_mul]
    exact Int.natAbs_dvd_natAbs.mpr h1
  have c : Nat.Coprime q.2.natAbs q.1.natAbs := by
    have := hq.one
    unfold Int.gcd at this
    exact Nat.Coprime.symm this
  exact Int.natAbs_dvd_natAbs.mp (c.dvd_of_dvd_mul_left h2)
theorem Nf.ext {q r : Int × Int} (hq : Nf q) (hr : Nf r) (e : q.1 * r.2 = r.1 * q.2) : q = r := by
  have d1 := hq.dvd_of e
  have d2 := hr.dvd_of e.symm
  have e2 : q.2 = r.2 := Int.dvd_antisymm (Int.le_of_lt hq.pos) (Int.le_of_lt hr.pos) d1 d2
  have p := hq.pos
  rw [e2] at e p
  have e1 : q.1 = r.1 := Int.eq_of_mul_eq_mul_right (by omega) e
  exact Prod.ext e1 e2
theorem nf_eq {n u m v : Int} (hu : 0 < u) (hv : 0 < v) (e : n * v = m * u) : nf n u = nf m v := by
  refine (nf_Nf hu).ext (nf_Nf hv) ?_
  have a := nf_cross (n := n) hu
  have b := nf_cross (n := m) hv
  generalize (nf n u).1 = x1 at *
  generalize (nf n u).2 = x2 at *
  generalize (nf m v).1 = y1 at *
  generalize (nf m v).2 = y2 at *
  -- x1 u = n x2, y1 v = m y2, n v = m u
  have h : (x1 * y2) * (u * v) = (y1 * x2) * (u * v) := by
    calc (x1 * y2) * (u * v) = (x1 * u) * (y2 * v) := by rw [mmmc]
      _ = (n * x2) * (y2 * v) := by rw [a]
      _ = (n * v) * (x2 * y2) := by rw [Int.mul_comm y2 v, mmmc]
      _ = (m * u) * (x2 * y2) := by rw [e]
      _ = (m * y2) * (x2 * u) := by rw [Int.mul_comm x2 y2, mmmc, Int.mul_comm u x2]
      _ = (y1 * v) * (x2 * u) := by rw [b]
      _ = (y1 * x2) * (u * v) := by rw [mmmc, Int.mul_comm v u]
  have p := Int.mul_pos hu hv
  exact Int.eq_of_mul_eq_mul_right (by omega) h
theorem Nf.self {q : Int × Int} (h : Nf q) : nf q.1 q.2 = q := by
  refine (nf_Nf h.pos).ext h ?_
  have := nf_cross (n := q.1) h.pos
  exact this
theorem Nf.scaled {q : Int × Int} {D : Int} (h : Nf q) (hD : 0 < D) (d : q.2 ∣ D) : nf (q.1 * (D / q.2)) D = q := by
  rw [← h.self]
  obtain ⟨k, rfl⟩ := d
  have hq := h.pos
  have e : nf q.1 q.2 = q := h.self
  rw [e]
  rw [Int.mul_ediv_cancel_left _ (by omega)]
  refine Eq.trans (nf_eq hD hq ?_) e
  rw [Int.mul_assoc, Int.mul_comm k]
theorem nf_scale {a D k : Int} (hD : 0 < D) (hk : 0 < k) : nf (k * a) (k * D) = nf a D := by
  refine nf_eq (Int.mul_pos hk hD) hD ?_
  rw [Int.mul_comm k a, Int.mul_assoc]
theorem nf_den_dvd {a D : Int} : (nf a D).2 ∣ D := by
  refine ⟨(Int.gcd a D : Int), ?_⟩
  show D = D / (Int.gcd a D : Int) * (Int.gcd a D : Int)
  rw [Int.ediv_mul_cancel (Int.gcd_dvd_right ..)]
theorem nf_num_dvd {a D : Int} : (nf a D).1 ∣ a := by
  refine ⟨(Int.gcd a D : Int), ?_⟩
  show a = a / (Int.gcd a D : Int) * (Int.gcd a D : Int)
  rw [Int.ediv_mul_cancel (Int.gcd_dvd_left ..)]
theorem cross_add {x1 x2 y1 y2 a b D E : Int} (ha : x1 * D = a * x2) (hb : y1 * E = b * y2) : (x1 * y2 + y1 * x2) * (D * E) = (a * E + b * D) * (x2 * y2) := by
  rw [Int.add_mul, Int.add_mul]
  congr 1
  · calc x1 * y2 * (D * E) = (x1 * D) * (y2 * E) := by rw [mmmc]
      _ = (a * x2) * (y2 * E) := by rw [ha]
      _ = (a * E) * (x2 * y2) := by rw [Int.mul_comm y2 E, mmmc]
  · calc y1 * x2 * (D * E) = (y1 * E) * (x2 * D) := by rw [Int.mul_comm D E, mmmc]
      _ = (b * y2) * (x2 * D) := by rw [hb]
      _ = (b * D) * (x2 * y2) := by rw [Int.mul_comm x2 D, mmmc, Int.mul_comm y2 x2]
theorem qadd_nf2 {a b D E : Int} (hD : 0 < D) (hE : 0 < E) : qadd (nf a D) (nf b E) = nf (a * E + b * D) (D * E) := by
  unfold qadd
  refine nf_eq (Int.mul_pos (nf_pos2 hD) (nf_pos2 hE)) (Int.mul_pos hD hE) ?_
  exact cross_add (nf_cross hD) (nf_cross hE)
theorem qsub_nf2 {a b D E : Int} (hD : 0 < D) (hE : 0 < E) : qsub (nf a D) (nf b E) = nf (a * E - b * D) (D * E) := by
  unfold qsub
  refine nf_eq (Int.mul_pos (nf_pos2 hD) (nf_pos2 hE)) (Int.mul_pos hD hE) ?_
  have h := cross_add (y1 := -(nf b E).1) (b := -b) (nf_cross (n := a) hD) (by rw [Int.neg_mul, Int.neg_mul, nf_cross hE])
  simp only [Int.neg_mul] at h
  rw [Int.sub_eq_add_neg, Int.sub_eq_add_neg]
  exact h
theorem qmul_nf2 {a b D E : Int} (hD : 0 < D) (hE : 0 < E) : qmul (nf a D) (nf b E) = nf (a * b) (D * E) := by
  unfold qmul
  refine nf_eq (Int.mul_pos (nf_pos2 hD) (nf_pos2 hE)) (Int.mul_pos hD hE) ?_
  have ha := nf_cross (n := a) hD
  have hb := nf_cross (n := b) hE
  rw [mmmc, ha, hb, mmmc]
theorem qadd_nf {a b D : Int} (hD : 0 < D) : qadd (nf a D) (nf b D) = nf (a + b) D := by
  rw [qadd_nf2 hD hD]
  refine nf_eq (Int.mul_pos hD hD) hD ?_
  rw [← Int.add_mul, Int.mul_assoc]
theorem qsub_nf {a b D : Int} (hD : 0 < D) : qsub (nf a D) (nf b D) = nf (a - b) D := by
  rw [qsub_nf2 hD hD]
  refine nf_eq (Int.mul_pos hD hD) hD ?_
  rw [← Int.sub_mul, Int.mul_assoc]
/-- a < b, looked at in lowest terms -/
theorem nf_lt {a b D : Int} (hD : 0 < D) : (nf a D).1 * (nf b D).2 < (nf b D).1 * (nf a D).2 ↔ a < b := by
  have ca := nf_cross (n := a) hD
  have cb := nf_cross (n := b) hD
  have pa := nf_pos2 (n := a) hD
  have pb := nf_pos2 (n := b) hD
  generalize (nf a D).1 = x1 at *
  generalize (nf a D).2 = x2 at *
  generalize (nf b D).1 = y1 at *
  generalize (nf b D).2 = y2 at *
  have p := Int.mul_pos pa pb
  have e1 : (x1 * y2) * D = a * (x2 * y2) := by rw [Int.mul_right_comm, ca, Int.mul_assoc]
  have e2 : (y1 * x2) * D = b * (x2 * y2) := by rw [Int.mul_right_comm, cb, Int.mul_assoc, Int.mul_comm y2 x2]
  constructor
  · intro h
    have h2 : (x1 * y2) * D < (y1 * x2) * D := Int.mul_lt_mul_of_pos_right h hD
    rw [e1, e2] at h2
    exact Int.lt_of_mul_lt_mul_right h2 (Int.le_of_lt p)
  · intro h
    have h2 : a * (x2 * y2) < b * (x2 * y2) := Int.mul_lt_mul_of_pos_right h p
    rw [← e1, ← e2] at h2
    exact Int.lt_of_mul_lt_mul_right h2 (Int.le_of_lt hD)
theorem nf_inj {a b D : Int} (hD : 0 < D) (e : nf a D = nf b D) : a = b := by
  have ca := nf_cross (n := a) hD
  have cb := nf_cross (n := b) hD
  rw [← e] at cb
  have := nf_pos2 (n := a) hD
  rw [ca] at cb
  exact Int.eq_of_mul_eq_mul_right (by omega) cb
theorem nf_whole {k D : Int} (hD : 0 < D) : nf (k * D) D = (k, 1) := by
  have h : Nf (k, 1) := ⟨Int.one_pos, by simp⟩
  have e := h.scaled hD (Int.one_dvd D)
  simpa using e
theorem nf_num_le {a D : Int} (h : 0 < D) : (nf a D).1.natAbs ≤ a.natAbs := by
  by_cases e : a = 0
  · subst e
    show (0 / _ : Int).natAbs ≤ _
    simp
  · exact Nat.le_of_dvd (by omega) (Int.natAbs_dvd_natAbs.mpr nf_num_dvd)
theorem nf_den_le {a D : Int} (h : 0 < D) : (nf a D).2.natAbs ≤ D.natAbs :=
  Nat.le_of_dvd (by omega) (Int.natAbs_dvd_natAbs.mpr nf_den_dvd)
theorem nf_sf {a D : Int} (h : 0 < D) (s1 : a.natAbs < 2 ^ 4000) (s2 : D.natAbs < 2 ^ 4000) : Sf (nf a D) :=
  ⟨nf_pos2 h, Nat.lt_of_le_of_lt (nf_num_le h) s1, Nat.lt_of_le_of_lt (nf_den_le h) s2⟩
end V3
set_option maxHeartbeats 4100000
/-! Rows led by turns, as scaled whole numbers. -/
namespace V3
def fr (D : Int) (as : List Int) : List (Int × Int) := as.map fun a => nf a D
structure TurnOk (n : Nat) (G : Int) (t : TurnI) : Prop where
  i : t.1 < n
  j : t.2.1 < n
  ne : t.1 ≠ t.2.1
  nf : Nf t.2.2
  p0 : 0 ≤ t.2.2.1
  pg : t.2.2.1 ≤ t.2.2.2
  g : t.2.2.2 ≤ G
def ledOne (s : Int × List Int) (t : TurnI) : Int × List Int :=
  (t.2.2.2 * s.1, ((s.2.map (t.2.2.2 * ·)).set t.1 (t.2.2.1 * s.2.getD t.1 0 + (t.2.2.2 - t.2.2.1) * s.2.getD t.2.1 0)).set t.2.1 (t.2.2.1 * s.2.getD t.2.1 0 + (t.2.2.2 - t.2.2.1) * s.2.getD t.1 0))
def ledAll (s : Int × List Int) (T : List TurnI) : Int × List Int := T.foldl ledOne s
theorem ledAll_snoc (s : Int × List Int) (T : List TurnI) (t : TurnI) : ledAll s (T ++ [t]) = ledOne (ledAll s T) t := by
  unfold ledAll
  rw [List.foldl_append]
  rfl
theorem ledAll_app (s : Int × List Int) (T U : List TurnI) : ledAll s (T ++ U) = ledAll (ledAll s T) U := by
  unfold ledAll
  rw [List.foldl_append]
theorem ledOne_len (s : Int × List Int) (t : TurnI) : (ledOne s t).2.length = s.2.length := by simp [ledOne]
theorem ledAll_len : ∀ (T : List TurnI) (s : Int × List Int), (ledAll s T).2.length = s.2.length
  | [], s => rfl
  | t :: T, s => by
    show (ledAll (ledOne s t) T).2.length = _
    rw [ledAll_len T, ledOne_len]
/-- how great the numbers may be: denominator up to X, numbers up to M times it -/
structure Led (n : Nat) (M X : Int) (s : Int × List Int) : Prop where
  len : s.2.length = n
  pos : 0 < s.1
  le : s.1 ≤ X
  num : ∀ a ∈ s.2, a ≤ M * s.1 ∧ -(M * s.1) ≤ a
theorem led_bound {p q a b M D : Int} (p0 : 0 ≤ p) (pq : p ≤ q) (ha : a ≤ M * D ∧ -(M * D) ≤ a) (hb : b ≤ M * D ∧ -(M * D) ≤ b) : p * a + (q - p) * b ≤ M * (q * D) ∧ -(M * (q * D)) ≤ p * a + (q - p) * b := by
  have e : M * (q * D) = p * (M * D) + (q - p) * (M * D) := by grind
  have q0 : 0 ≤ q - p := by omega
  rw [e]
  generalize M * D = Z at *
  have h1 := Int.mul_le_mul_of_nonneg_left ha.1 p0
  have h2 := Int.mul_le_mul_of_nonneg_left hb.1 q0
  have h3 := Int.mul_le_mul_of_nonneg_left ha.2 p0
  have h4 := Int.mul_le_mul_of_nonneg_left hb.2 q0
  rw [Int.mul_neg] at h3 h4
  constructor
  · omega
  · omega
theorem getD_mem {xs : List Int} {i : Nat} (h : i < xs.length) : xs.getD i 0 ∈ xs := by
  rw [List.getD_eq_getElem?_getD, List.getElem?_eq_getElem h]
  exact List.getElem_mem h
theorem mem_set2 {xs : List Int} {i j : Nat} {x y z : Int} (h : z ∈ (xs.set i x).set j y) : z = x ∨ z = y ∨ z ∈ xs := by
  rcases List.mem_or_eq_of_mem_set h with h | h
  · rcases List.mem_or_eq_of_mem_set h with h | h
    · exact .inr (.inr h)
    · exact .inl h
  · exact .inr (.inl h)
theorem Led.one {n : Nat} {M X G : Int} {s : Int × List Int} {t : TurnI} (h : Led n M X s) (ok : TurnOk n G t) (hG : 0 < G) : Led n M (G * X) (ledOne s t) := by
  have q0 := ok.nf.pos
  have hn := h.len
  have hi := ok.i
  have hj := ok.j
  refine ⟨by rw [ledOne_len]; exact hn, Int.mul_pos q0 h.pos, ?_, fun z hz => ?_⟩
  · show t.2.2.2 * s.1 ≤ G * X
    have h1 := Int.mul_le_mul_of_nonneg_right ok.g (Int.le_of_lt h.pos)
    have h2 := Int.mul_le_mul_of_nonneg_left h.le (Int.le_of_lt hG)
    omega
  · have ma := h.num _ (getD_mem (show t.1 < s.2.length by omega))
    have mb := h.num _ (getD_mem (show t.2.1 < s.2.length by omega))
    show z ≤ M * (t.2.2.2 * s.1) ∧ -(M * (t.2.2.2 * s.1)) ≤ z
    rcases mem_set2 hz with e | e | e
    · rw [e]
      exact led_bound ok.p0 ok.pg ma mb
    · rw [e]
      exact led_bound ok.p0 ok.pg mb ma
    · obtain ⟨a, ha, rfl⟩ := List.mem_map.mp e
      have m := h.num a ha
      have e2 : M * (t.2.2.2 * s.1) = t.2.2.2 * (M * s.1) := by grind
      rw [e2]
      have h1 := Int.mul_le_mul_of_nonneg_left m.1 (Int.le_of_lt q0)
      have h2 := Int.mul_le_mul_of_nonneg_left m.2 (Int.le_of_lt q0)
      rw [Int.mul_neg] at h2
      exact ⟨h1, h2⟩
theorem Led.all {n : Nat} {M G : Int} (hG : 0 < G) : ∀ (T : List TurnI) {X : Int} {s : Int × List Int}, Led n M X s → (∀ t ∈ T, TurnOk n G t) → Led n M (G ^ T.length * X) (ledAll s T)
  | [], X, s, h, _ => by
    show Led n M (G ^ 0 * X) s
    rw [Int.pow_zero, Int.one_mul]
    exact h
  | t :: T, X, s, h, ok => by
    have h1 := Led.all hG T (h.one (ok t List.mem_cons_self) hG) fun u hu => ok u (List.mem_cons_of_mem _ hu)
    show Led n M (G ^ (T.length + 1) * X) (ledAll (ledOne s t) T)
    rw [Int.pow_succ, Int.mul_assoc]
    exact h1
/-! one turn, as the program and as the law reckon it -/
theorem fr_get {D : Int} {as : List Int} {i : Nat} (h : i < as.length) : (fr D as)[i]? = some (nf (as.getD i 0) D) := by
  unfold fr
  rw [List.getElem?_map, List.getD_eq_getElem?_getD, List.getElem?_eq_getElem h]
  rfl
theorem fr_led {D : Int} {as : List Int} {t : TurnI} (hD : 0 < D) (q0 : 0 < t.2.2.2) : fr (ledOne (D, as) t).1 (ledOne (D, as) t).2 =
    ((fr D as).set t.1 (nf (t.2.2.1 * as.getD t.1 0 + (t.2.2.2 - t.2.2.1) * as.getD t.2.1 0) (t.2.2.2 * D))).set t.2.1 (nf (t.2.2.1 * as.getD t.2.1 0 + (t.2.2.2 - t.2.2.1) * as.getD t.1 0) (t.2.2.2 * D)) := by
  unfold fr ledOne
  simp only [List.map_set, List.map_map]
  congr 2
  refine List.map_congr_left fun a _ => ?_
  exact nf_scale hD q0
theorem prog_step {p g a b D : Int} (hD : 0 < D) (hg : 0 < g) : qmul (qsub (1, 1) (nf p g)) (qsub (nf b D) (nf a D)) = nf ((g - p) * (b - a)) (g * D) := by
  have e : ((1, 1) : Int × Int) = nf (1 * g) g := (nf_whole hg).symm
  rw [e, qsub_nf hg, qsub_nf hD, qmul_nf2 hg hD, Int.one_mul]
theorem prog_one {p g a b D : Int} (hD : 0 < D) (hg : 0 < g) : qadd (nf a D) (nf ((g - p) * (b - a)) (g * D)) = nf (p * a + (g - p) * b) (g * D) := by
  rw [← nf_scale hD hg (a := a), qadd_nf (Int.mul_pos hg hD)]
  congr 1
  grind
theorem prog_two {p g a b D : Int} (hD : 0 < D) (hg : 0 < g) : qsub (nf b D) (nf ((g - p) * (b - a)) (g * D)) = nf (p * b + (g - p) * a) (g * D) := by
  rw [← nf_scale hD hg (a := b), qsub_nf (Int.mul_pos hg hD)]
  congr 1
  grind
theorem law_one {p g a b D : Int} (hD : 0 < D) (hg : 0 < g) : qadd (qmul (nf p g) (nf a D)) (qmul (qsub (1, 1) (nf p g)) (nf b D)) = nf (p * a + (g - p) * b) (g * D) := by
  have e : ((1, 1) : Int × Int) = nf (1 * g) g := (nf_whole hg).symm
  rw [e, qsub_nf hg, qmul_nf2 hg hD, qmul_nf2 hg hD, qadd_nf (Int.mul_pos hg hD), Int.one_mul]
/-! sizes -/
theorem abs_lt {a Z : Int} {k : Nat} (h : a ≤ Z ∧ -Z ≤ a) (hz : Z < 2 ^ k) : a.natAbs < 2 ^ k := by
  have : ((a.natAbs : Nat) : Int) < 2 ^ k := by omega
  have e : ((2 ^ k : Nat) : Int) = 2 ^ k := by norm_cast
  rw [← e] at this
  exact Int.ofNat_lt.mp this
end V3
/-! Fractions put in order, the greatest first. -/
namespace V3
abbrev Fr := Int × Int
/-- x is not below e -/
def geB (e x : Fr) : Bool := !decide (x.1 * e.2 < e.1 * x.2)
theorem geB_Dn {e x : Fr} : geB e x = true ↔ Dn x e := by
  unfold geB Dn
  simp
theorem Dn.trans {a b c : Fr} (hb : 0 < b.2) (ha : 0 < a.2) (hc : 0 < c.2) (h1 : Dn a b) (h2 : Dn b c) : Dn a c := by
  unfold Dn at *
  have e1 := Int.mul_le_mul_of_nonneg_right h1 (Int.le_of_lt hc)
  have e2 := Int.mul_le_mul_of_nonneg_right h2 (Int.le_of_lt ha)
  have r1 : b.1 * a.2 * c.2 = b.1 * c.2 * a.2 := by grind
  have r2 : c.1 * b.2 * a.2 = (c.1 * a.2) * b.2 := by grind
  have r3 : a.1 * b.2 * c.2 = (a.1 * c.2) * b.2 := by grind
  rw [r1, r3] at e1
  rw [r2] at e2
  exact Int.le_of_mul_le_mul_right (Int.le_trans e2 e1) hb
theorem Dn.total (a b : Fr) : Dn a b ∨ Dn b a := by
  unfold Dn
  omega
def insS : List Fr → Fr → List Fr
  | [], e => [e]
  | a :: r, e => if geB e a = true then a :: insS r e else e :: a :: r
def insAt (l : List Fr) (e : Fr) : List Fr := l.take (l.filter (geB e)).length ++ [e] ++ l.drop (l.filter (geB e)).length
abbrev Srt (l : List Fr) : Prop := l.Pairwise Dn
theorem insAt_insS : ∀ {l : List Fr} {e : Fr}, Srt l → (∀ x ∈ l, 0 < x.2) → 0 < e.2 → insAt l e = insS l e
  | [], e, _, _, _ => rfl
  | a :: r, e, h, p, pe => by
    (obtain ⟨h1, h2⟩ := List.pairwise_cons.mp h)
    have ih := insAt_insS (e := e) h2 (fun x hx => p x (List.mem_cons_of_mem _ hx)) pe
    cases g : geB e a with
    | true =>
      unfold insAt insS
      rw [List.filter_cons_of_pos g, if_pos g, ← ih]
      rfl
    | false =>
      have hn : r.filter (geB e) = [] := by
        rw [List.filter_eq_nil_iff]
        intro x hx c
        have c1 := geB_Dn.mp c
        have := (h1 x hx).trans (p x (List.mem_cons_of_mem _ hx)) (p a List.mem_cons_self) pe c1
        rw [← geB_Dn, g] at this
        cases this
      unfold insAt insS
      rw [List.filter_cons_of_neg (by rw [g]; simp), hn, if_neg (by rw [g]; simp)]
      rfl
theorem insS_perm : ∀ (l : List Fr) (e : Fr), (insS l e).Perm (e :: l)
  | [], e => .refl _
  | a :: r, e => by
    unfold insS
    split
    · exact ((insS_perm r e).cons a).trans (.swap _ _ _)
    · exact .refl _
theorem insS_srt : ∀ {l : List Fr} {e : Fr}, Srt l → (∀ x ∈ l, 0 < x.2) → 0 < e.2 → Srt (insS l e)
  | [], e, _, _, _ => List.pairwise_singleton _ _
  | a :: r, e, h, p, pe => by
    (obtain ⟨h1, h2⟩ := List.pairwise_cons.mp h)
    unfold insS
    split
    · rename_i g
      refine List.pairwise_cons.mpr ⟨fun x hx => ?_, insS_srt h2 (fun x hx => p x (List.mem_cons_of_mem _ hx)) pe⟩
      rcases List.mem_cons.mp ((insS_perm r e).mem_iff.mp hx) with rfl | hx
      · exact geB_Dn.mp g
      · exact h1 x hx
    · rename_i g
      have d : Dn e a := by
        rcases Dn.total e a with d | d
        · exact d
        · exact absurd (geB_Dn.mpr d) g
      refine List.pairwise_cons.mpr ⟨fun x hx => ?_, h⟩
      (rcases List.mem_cons.mp hx with rfl | hx)
      · exact d
      · exact d.trans (p a List.mem_cons_self) pe (p x (List.mem_cons_of_mem _ hx)) (h1 x hx)
def downR (qs : List Fr) : List Fr := qs.foldl insAt []
theorem downR_more {qs : List Fr} {i : Nat} {q : Fr} (h : qs[i]? = some q) : downR (qs.take (i + 1)) = insAt (downR (qs.take i)) q := by
  unfold downR
  (rw [take_more h, List.foldl_append])
  rfl
theorem down_fold : ∀ (qs : List Fr) (l : List Fr), Srt l → (∀ x ∈ l, 0 < x.2) → (∀ x ∈ qs, 0 < x.2) → (qs.foldl insAt l).Perm (l ++ qs) ∧ Srt (qs.foldl insAt l)
  | [], l, h, _, _ => by
    rw [List.append_nil]
    exact ⟨.refl _, h⟩
  | q :: qs, l, h, p, p2 => by
    have pq := p2 q List.mem_cons_self
    have e := insAt_insS h p pq
    have hp : ∀ x ∈ insAt l q, 0 < x.2 := fun x hx => by
      rw [e] at hx
      rcases List.mem_cons.mp ((insS_perm l q).mem_iff.mp hx) with rfl | hx
      · exact pq
      · exact p x hx
    obtain ⟨k1, k2⟩ := down_fold qs (insAt l q) (by rw [e]; exact insS_srt h p pq) hp fun x hx => p2 x (List.mem_cons_of_mem _ hx)
    refine ⟨k1.trans ?_, k2⟩
    rw [e]
    exact ((insS_perm l q).append_right qs).trans (List.perm_middle.symm)
theorem down_perm {qs : List Fr} (h : ∀ x ∈ qs, 0 < x.2) : (downR qs).Perm qs := (down_fold qs [] .nil (fun x hx => by cases hx) h).1
theorem down_srt {qs : List Fr} (h : ∀ x ∈ qs, 0 < x.2) : Srt (downR qs) := (down_fold qs [] .nil (fun x hx => by cases hx) h).2
theorem Srt.desc {qs : List Fr} (h : Srt qs) : Desc qs := fun i a b ha hb => by
  have hi := (List.getElem?_eq_some_iff.mp hb).1
  have hi' : i < qs.length := by omega
  have := List.pairwise_iff_getElem.mp h i (i + 1) hi' hi (Nat.lt_succ_self i)
  obtain ⟨_, ea⟩ := List.getElem?_eq_some_iff.mp ha
  obtain ⟨_, eb⟩ := List.getElem?_eq_some_iff.mp hb
  rw [ea, eb] at this
  exact this
end V3
set_option maxHeartbeats 8000000
namespace V3
open PySem.Spec PySem L2 PyProof.Rows RZ GxR
theorem sprd_ge : ∀ (xs ys : List Int) (c : Int), xs.length = ys.length → 0 ≤ c → sprd c xs ys = true → (∀ k, (ys.take k).sum ≤ c + (xs.take k).sum) ∧ c + xs.sum = ys.sum
  | [], [], c, _, h0, h => by
    have e : c = 0 := of_decide_eq_true h
    subst e
    exact ⟨fun k => by simp, by simp⟩
  | x :: xs, y :: ys, c, hl, h0, h => by
    have h' : (if c + x - y < 0 then false else sprd (c + x - y) xs ys) = true := h
    by_cases e : c + x - y < 0
    · rw [if_pos e] at h'
      cases h'
    · rw [if_neg e] at h'
      obtain ⟨k1, k2⟩ := sprd_ge xs ys (c + x - y) (by simpa using hl) (by omega) h'
      refine ⟨fun k => ?_, ?_⟩
      · cases k with
        | zero => simpa using h0
        | succ k =>
          have := k1 k
          show (y :: ys.take k).sum ≤ c + (x :: xs.take k).sum
          (rw [List.sum_cons, List.sum_cons])
          omega
      · rw [List.sum_cons, List.sum_cons]
        omega
  | [], _ :: _, _, hl, _, _ => by simp at hl
  | _ :: _, [], _, hl, _, _ => by simp at hl
theorem sprd_maj {g l : List Int} (hl : g.length = l.length) (h : sprd 0 g l = true) : Maj g l := by
  obtain ⟨k1, k2⟩ := sprd_ge g l 0 hl (Int.le_refl 0) h
  exact ⟨hl, fun k => by have := k1 k; omega, by omega⟩
theorem whole_bound {u : Int} {r : List (Int × Int)} (hu : 0 < u) (su : u.natAbs < 2 ^ 3000) (sf : ∀ q ∈ r, Sf q) : ∀ x ∈ wholeRow u r, x.natAbs ≤ 2 ^ 7000 := by
  intro x hx
  obtain ⟨q, hq, rfl⟩ := List.mem_map.mp hx
  have s := sf q hq
  have h1 : (u / q.2).natAbs < 2 ^ 3000 := Nat.lt_of_le_of_lt (divLe hu s.pos) su
  have h2 := wide_lt s.s1 h1
  exact Nat.le_of_lt h2
def But2 (P1 P2 : Addr) (H H' : Hp) : Prop := ∀ b o, b ≠ P1 → b ≠ P2 → H b = some o → H' b = some o
theorem Same.but2 {P1 P2 : Addr} {H H' : Hp} (e : Same H H') : But2 P1 P2 H H' := fun b o _ _ h => e b o h
section
variable {mg : Str → Option Value} {base : Heap} {K : PySem.W.Frag} {P : Program} {w : World}
abbrev s_turns_to : Stmt := topS 28
abbrev N_turns_to : List Str := ["roots", "diagonal", "greatest", "goal", "levels"]
theorem sc_turns_to : FnScope N_turns_to ["roots", "diagonal"] (defScope s_turns_to) := ⟨rfl, rfl, rfl, by decide +kernel, rfl, by decide +kernel, by decide +kernel⟩
def spTurnsTo (K : PySem.W.Frag) (Pl Pe : Addr) : Sp := fun vs H Q _ => ∃ (v w : V) (tops slant : List (Int × Int)) (b : Bool), vs = [v, w] ∧ Dp K H v (rowD tops) ∧ Dp K H w (rowD slant) ∧ Pair tops slant ∧ TabG H Pl ∧ TabG H Pe ∧ Pl ≠ Pe ∧
  (∀ ns : List Int, ns.Perm (wholeRow (common tops slant) slant) → ns.Pairwise (· ≥ ·) → sprd 0 (wholeRow (common tops slant) tops) ns = b) ∧
  (b = false → ∀ H', But2 Pl Pe H H' → TabG H' Pl → TabG H' Pe → Q .non H') ∧
  (b = true → ∀ H' D tv L T1 T2, But2 Pl Pe H H' → TabG H' Pl → TabG H' Pe → H' D = some (.tup tv) → DpTAll K H' tv ((T1 ++ T2).map turnD) → LevTo (wholeRow (common tops slant) tops) L T1 → ExTo L (wholeRow (common tops slant) slant) T2 →
    T1.length ≤ tops.length - 1 → T2.length ≤ tops.length - 1 → Q (.ref D) H')
theorem ok_turns_to (T : Gs mg) {Pl Pe : Addr} (D1 : Df P w K mg base "check_roots" 4 ["roots"] (spCheckRoots K)) (D2 : Df P w K mg base "check_row" 4 ["row", "size"] (spCheckRow K)) (D3 : Df P w K mg base "shared_under" 1 ["rows"] (spShared K))
    (D4 : Df P w K mg base "whole_rows" 1 ["rows", "under"] (spWholeRows K)) (D5 : Df P w K mg base "are_spread" 1 ["greatest", "others"] (spAreSpread K)) (D6 : Df P w K mg base "levelling_turns" 2 ["greatest", "levels"] (spLev K Pl))
    (D7 : Df P w K mg base "exchanging_turns" 2 ["levels", "goal"] (spExc K Pe)) (F : At K mg "turns_to" s_turns_to) :
    Df P w K mg base "turns_to" 5 ["roots", "diagonal"] (spTurnsTo K Pl Pe) := by
  have sc := sc_turns_to
  refine Df.mk' F sc (fun vs H Q E h => ?_) (fun _ _ _ _ _ _ us hl => match us, hl with | [_, _], _ => rfl) (fun f cdv A outer s H vs Q E hr h => ?_)
  · obtain ⟨a, q, u, l, b, rfl, _⟩ := h
    rfl
  · obtain ⟨v, w', tops, slant, b, rfl, hv, hw, p, htl, hte, hPP, hb, qF, qT⟩ := h
    refine ⟨_, (pss_cons (ps_expr (pe_fn D1 (by decide) hr (pa_cons (pv 0) pa_nil)))
  (pss_cons (ps_expr (pe_fn D2 (by decide) hr (pa_cons (pv 1) (pa_cons (pe_callB call_len_seq (by rfl) T.len PySem.boot_len (pa_cons (pv 0) pa_nil)) pa_nil))))
  (pss_cons (ps_asg (pe_fn D4 (by decide) hr (pa_cons (pe_tup (pa_cons (pv 0) (pa_cons (pv 1) pa_nil))) (pa_cons (pe_fn D3 (by decide) hr (pa_cons (pe_tup (pa_cons (pv 0) (pa_cons (pv 1) pa_nil))) pa_nil)) pa_nil))) (pg_unl rfl (pgs_cons (pg_name (i := 2) sc.nd rfl (Or.inl rfl)) (pgs_cons (pg_name (i := 3) sc.nd rfl (Or.inl rfl)) pgs_nil))))
  (pss_cons (ps_set (i := 4) sc.nd rfl (Or.inl rfl) (pe_callBK (cr_sortedRev (b := true)) (by rfl) T.sorted (by decide +kernel) (pa_cons (pv 3) pa_nil) (pk_cons pe_bl pk_nil)))
  (pss_cons (ps_if (pt_not (pt_val (pe_fn D5 (by decide) hr (pa_cons (pv 2) (pa_cons (pv 4) pa_nil)))))
   (pss_one (ps_ret pe_non))
   pss_nil)
  (pss_one (ps_ret (pe_callTy call_tuple_of (by rfl) T.tuple_ (by decide +kernel) (pa_cons (pe_op op_cat (pe_fn D6 (by decide) hr (pa_cons (pv 2) (pa_cons (pv 4) pa_nil))) (pe_fn D7 (by decide) hr (pa_cons (pv 4) (pa_cons (pv 3) pa_nil)))) pa_nil))))))))), ?_⟩
    refine ⟨_, rfl, _, tops, rfl, hv, p.nf1, p.sf1, p.l1, p.l6, p.desc, fun H1 s1 => ?_⟩
    obtain ⟨pa, xs, rfl, hp, hA⟩ := dpTup (Dp.same s1 hv)
    have hl : (xs.length : Int) = (slant.length : Nat) := by rw [dpAll_len hA, List.length_map, p.len]
    refine ⟨_, rfl, _, rfl, pa, _, rfl, .inr hp, ?_⟩
    rw [hl]
    refine ⟨_, slant, rfl, Dp.same s1 hw, p.nf2, fun H2 s2 => ?_⟩
    have s12 := s1.trans s2
    refine ⟨_, rfl, _, rfl, by show 2 ≤ sizeLine; decide, fun T1 hT1 => ?_⟩
    have s3 := s12.trans (same_upd (o := .tup [.ref pa, w']) hT1)
    refine ⟨_, rfl, _, rfl, by show 2 ≤ sizeLine; decide, fun T2 hT2 => ?_⟩
    have s4 := s3.trans (same_upd (o := .tup [.ref pa, w']) hT2)
    have hr2 := two_rows (K := K) (H := upd (upd H2 T1 (.tup [.ref pa, w'])) T2 (.tup [.ref pa, w'])) upd_same (Dp.same s4 hv) (Dp.same s4 hw)
    have pos : ∀ r ∈ [tops, slant], ∀ q ∈ r, 0 < q.2 := fun r hr q hq => by
      (rcases List.mem_cons.mp hr with rfl | hr)
      · exact (p.nf1 q hq).pos
      · rcases List.mem_cons.mp hr with rfl | hr
        · exact (p.nf2 q hq).pos
        · cases hr
    refine ⟨_, [tops, slant], rfl, hr2, pos, Nat.lt_of_lt_of_le p.big (pow_le_pow' (by decide)), ?_⟩
    have n12 : T1 ≠ T2 := fun e => by
      rw [← e, upd_same] at hT2
      cases hT2
    have hr1 := two_rows (K := K) (H := upd (upd H2 T1 (.tup [.ref pa, w'])) T2 (.tup [.ref pa, w'])) (T := T1) (by rw [upd_ne n12, upd_same]) (Dp.same s4 hv) (Dp.same s4 hw)
    have scom : (common tops slant).natAbs < 2 ^ 3000 := by
      unfold common
      rw [Int.natAbs_natCast]
      exact p.big
    refine ⟨_, [tops, slant], common tops slant, rfl, hr1, by simp, ?_, p.pos, ?_, fun H3 D s5 hD hR => ?_⟩
    · intro r hr
      (rcases List.mem_cons.mp hr with rfl | hr)
      · exact ⟨by have := p.l6; omega, p.sf1⟩
      · rcases List.mem_cons.mp hr with rfl | hr
        · exact ⟨by have := p.l6; have := p.len; omega, p.sf2⟩
        · cases hr
    · exact Nat.lt_of_lt_of_le scom (pow_le_pow' (by decide))
    obtain ⟨a1, a2, r0, r1, r2⟩ := rowsAt_two hR
    refine ⟨D, _, rfl, SqL.of r0, rfl, _, _, rfl, _, _, rfl, rfl, ?_⟩
    refine ⟨_, rfl, a2, _, rfl, rfl, SqL.of r2, fun ns pn pm od hpn => ?_⟩
    have s6 : Same H3 (upd H3 pn (.lst (ns.map V.int))) := same_upd hpn
    have lnn : (wholeRow (common tops slant) tops).length = ns.length := by rw [pm.length_eq, wholeRow, wholeRow, List.length_map, List.length_map, p.len]
    have lG : (wholeRow (common tops slant) tops).length = tops.length := by rw [wholeRow, List.length_map]
    refine ⟨_, rfl, _, rfl, a1, pn, _, ns, rfl, s6.seq (SqL.of r1), SqL.of upd_same, lnn, fun H4 s7 => ?_⟩
    have hbn := hb ns pm od
    have sAll : Same H H4 := ((s4.trans s5).trans s6).trans s7
    refine ⟨_, rfl, ?_⟩
    rw [hbn]
    cases b with
    | false => exact ifT rfl (qF rfl H4 (Same.but2 sAll) (TabG.same htl sAll) (TabG.same hte sAll))
    | true =>
      refine ifF rfl ?_
      have mj := sprd_maj lnn hbn
      have r1' : SqL K H4 a1 ((wholeRow (common tops slant) tops).map V.int) := (s6.trans s7).seq (SqL.of r1)
      have r2' : H4 a2 = some (.lst ((wholeRow (common tops slant) slant).map V.int)) := (s6.trans s7) _ _ r2
      have rn' : H4 pn = some (.lst (ns.map V.int)) := s7 _ _ upd_same
      have htl4 := TabG.same htl sAll
      have hte4 := TabG.same hte sAll
      have bG := whole_bound p.pos scom p.sf1
      have bS := whole_bound p.pos scom p.sf2
      refine ⟨_, rfl, _, rfl, a1, pn, _, ns, 2 ^ 7000, rfl, r1', SqL.of rn', by have := p.l6; omega, mj, od, bG, fun x hx => bS x (pm.mem_iff.mp hx), Nat.pow_lt_pow_right (by decide) (by decide), htl4, fun H5 Dl tl Ta b5 tab5 hDl hDl5 hta lev hla => ?_⟩
      obtain ⟨psl, hPl, _⟩ := id htl4
      obtain ⟨pse, hPe, tse⟩ := id hte4
      have rn5 : SqL K H5 pn (ns.map V.int) := b5.seq htl4 (SqL.of rn')
      have r25 : SqL K H5 a2 ((wholeRow (common tops slant) slant).map V.int) := b5.seq htl4 (SqL.of r2')
      have hte5 : TabG H5 Pe := ⟨pse, b5 _ _ (Ne.symm hPP) hPe, tse⟩
      refine ⟨_, rfl, _, rfl, pn, a2, ns, _, rfl, rn5, r25, by have := p.l6; omega, pm, hte5, fun H6 De te Tb b6 tab6 hDe hDe6 htb exl hlb => ?_⟩
      have nDl : Dl ≠ Pe := fun z => by
        rw [z] at hDl5
        obtain ⟨q1, q2, _⟩ := hte5
        rw [q2] at hDl5
        cases hDl5
      have hDl6 : H6 Dl = some (.lst tl) := b6 _ _ nDl hDl5
      have hta6 : DpTAll K H6 tl (Ta.map turnD) := hta.keep (b6.kt hte5)
      have htl6 : TabG H6 Pl := by
        obtain ⟨q1, q2, q3⟩ := tab5
        exact ⟨q1, b6 _ _ hPP q2, q3⟩
      have ltl : tl.length = Ta.length := by rw [dtAll_len hta, List.length_map]
      have lte : te.length = Tb.length := by rw [dtAll_len htb, List.length_map]
      have hl6 := p.l6
      refine ⟨_, _, _, _, rfl, rfl, hDl6, hDe6, ?_, fun pc hpc => ?_⟩
      · exact Nat.le_of_lt (small1000 (by omega))
      have s8 : Same H6 (upd H6 pc (.lst (tl ++ te))) := same_upd hpc
      refine ⟨pc, _, rfl, .inl ⟨SqL.of upd_same, fun pt hpt => ?_⟩⟩
      have s9 : Same H6 (upd (upd H6 pc (.lst (tl ++ te))) pt (.tup (tl ++ te))) := s8.trans (same_upd hpt)
      refine qT rfl _ pt (tl ++ te) ns Ta Tb (fun bb o n1 n2 ho => s9 _ _ (b6 _ _ n2 (b5 _ _ n1 (sAll _ _ ho)))) (TabG.same htl6 s9) (TabG.same tab6 s9) upd_same ?_ lev exl (by rw [← lG]; exact hla) (by rw [← lG, lnn]; exact hlb)
      rw [List.map_append]
      exact dtAll_app (hta6.keep (Same.kt s9)) (htb.keep (Same.kt s9))
end
end V3
namespace V3
open PySem.Spec PySem L2 PyProof.Rows RZ GxR
theorem same_updN {H H' : Hp} {p : Addr} {o : HO} (s : Same H H') (h : H p = none) : Same H (upd H' p o) := fun b x e => by
  rw [upd_ne (ne_of_none e h)]
  exact s b x e
theorem dpTurn {K : PySem.W.Frag} {H : Hp} {v : V} {t : TurnI} (h : Dp K H v (turnD t)) : ∃ p p1, v = .ref p ∧ SqT K H p [.int t.1, .int t.2.1, .ref p1] ∧ SqT K H p1 [.int t.2.2.1, .int t.2.2.2] := by
  obtain ⟨p, xs, rfl, hs, ha⟩ := dpTup h
  cases ha with
  | cons a b =>
    cases b with
    | cons c d =>
      cases d with
      | cons e f =>
        cases f
        obtain ⟨p1, rfl, h1⟩ := dpFr e
        rw [dpInt a, dpInt c] at hs
        exact ⟨p, p1, rfl, hs, h1⟩
theorem TurnOk.sf {n : Nat} {t : TurnI} (h : TurnOk n (2 ^ 250) t) : Sf t.2.2 := by
  have h1 : t.2.2.1 ≤ 2 ^ 250 ∧ -(2 ^ 250) ≤ t.2.2.1 := by
    have := h.p0
    have := h.pg
    have := h.g
    omega
  have h2 : t.2.2.2 ≤ 2 ^ 250 ∧ -(2 ^ 250) ≤ t.2.2.2 := by
    have := h.p0
    have := h.pg
    have := h.g
    omega
  exact ⟨h.nf.pos, abs_lt h1 (by decide), abs_lt h2 (by decide)⟩
section
variable {mg : Str → Option Value} {base : Heap} {K : PySem.W.Frag} {P : Program} {w : World}
abbrev s_is_turn : Stmt := topS 33
abbrev N_is_turn : List Str := ["value", "size", "i", "j", "share"]
theorem sc_is_turn : FnScope N_is_turn ["value", "size"] (defScope s_is_turn) := ⟨rfl, rfl, rfl, by decide +kernel, rfl, by decide +kernel, by decide +kernel⟩
def spIsTurn (K : PySem.W.Frag) : Sp := fun vs H Q _ => ∃ (v : V) (t : TurnI) (n : Nat), vs = [v, .int n] ∧ Dp K H v (turnD t) ∧ TurnOk n (2 ^ 250) t ∧ ∀ H', Same H H' → Q (.bl true) H'
theorem ok_is_turn (D1 : Df P w K mg base "is_tuple_of" 1 ["value", "size"] (spTupOf K)) (D2 : Df P w K mg base "is_whole_within" 2 ["value", "least", "most"] spWithin) (D3 : Df P w K mg base "is_fraction" 2 ["value"] (spIsFr K))
    (D4 : Df P w K mg base "is_above" 1 ["one", "other"] (spF2b K fun x y => decide (y.1 * x.2 < x.1 * y.2))) (F : At K mg "is_turn" s_is_turn) : Df P w K mg base "is_turn" 3 ["value", "size"] (spIsTurn K) := by
  have sc := sc_is_turn
  refine Df.mk' F sc (fun vs H Q E h => ?_) (fun _ _ _ _ _ _ us hl => match us, hl with | [_, _], _ => rfl) (fun f cdv A outer s H vs Q E hr h => ?_)
  · obtain ⟨a, q, u, rfl, _⟩ := h
    rfl
  · obtain ⟨v, t, n, rfl, hv, ok, q⟩ := h
    obtain ⟨p, p1, rfl, hp, hp1⟩ := dpTurn hv
    have oi := ok.i
    have oj := ok.j
    have one := ok.ne
    refine ⟨_, (pss_cons (ps_if (pt_not (pt_val (pe_fn D1 (by decide) hr (pa_cons (pv 0) (pa_cons pe_int pa_nil)))))
   (pss_one (ps_ret pe_bl))
   pss_nil)
  (pss_cons (ps_asg (pv 0) (pg_tup rfl (pgs_cons (pg_name (i := 2) sc.nd rfl (Or.inl rfl)) (pgs_cons (pg_name (i := 3) sc.nd rfl (Or.inl rfl)) (pgs_cons (pg_name (i := 4) sc.nd rfl (Or.inl rfl)) pgs_nil)))))
  (pss_cons (ps_if (PW.pt (pw_or (pt_not (pt_val (pe_fn D2 (by decide) hr (pa_cons (pv 2) (pa_cons pe_int (pa_cons (pe_op op_sub (pv 1) pe_int) pa_nil)))))) (pw_or (pt_not (pt_val (pe_fn D2 (by decide) hr (pa_cons (pv 3) (pa_cons pe_int (pa_cons (pe_op op_sub (pv 1) pe_int) pa_nil)))))) (pw_or1 (pt_cmpR op_eq (pv 2) (pv 3) (nomark _))))))
   (pss_one (ps_ret pe_bl))
   pss_nil)
  (pss_one (ps_ret (pe_and (pe_fn D3 (by decide) hr (pa_cons (pv 4) pa_nil)) (pe_and (pe_cmpR op_ge (pe_ix ix_tup (pv 4) pe_int (fun _ _ => rfl)) pe_int (nomark _)) (pe_one (pe_not (pe_fn D4 (by decide) hr (pa_cons (pv 4) (pa_cons (pe_tup (pa_cons pe_int (pa_cons pe_int pa_nil))) pa_nil)))))))))))), ?_⟩
    refine ⟨_, rfl, _, _, _, rfl, hp, _, rfl, ifF rfl ?_⟩
    refine ⟨_, rfl, p, _, rfl, hp, rfl, _, _, rfl, _, _, rfl, _, _, rfl, rfl, ?_⟩
    refine ⟨_, rfl, _, rfl, _, _, rfl, rfl, _, _, _, rfl, _, rfl, ifF (by simp; omega) ?_⟩
    refine ⟨_, rfl, _, rfl, _, _, rfl, rfl, _, _, _, rfl, _, rfl, ifF (by simp; omega) ?_⟩
    refine ⟨_, rfl, _, rfl, rfl, _, rfl, ifF (by simp; omega) ?_⟩
    refine ⟨_, rfl, _, t.2.2, rfl, mkFr hp1, ok.nf, _, rfl, ifT rfl ?_⟩
    refine ⟨_, rfl, _, _, _, _, rfl, rfl, hp1, at0, _, _, rfl, rfl, _, rfl, ifT (decide_eq_true ok.p0) ?_⟩
    refine ⟨_, rfl, by show 2 ≤ sizeLine; decide, fun T1 hT1 => ?_⟩
    have s1 : Same H (upd H T1 (.tup [.int 1, .int 1])) := same_upd hT1
    refine ⟨_, _, t.2.2, (1, 1), rfl, mkFr (sameT s1 hp1), mkFrU upd_same, ok.sf, ⟨by decide, by decide, by decide⟩, _, rfl, ?_⟩
    have e : (!decide ((1 : Int) * t.2.2.2 < t.2.2.1 * 1)) = true := by
      have := ok.pg
      simp
      omega
    show Q (.bl (!decide ((1 : Int) * t.2.2.2 < t.2.2.1 * 1))) _
    rw [e]
    exact q _ s1
abbrev s_check_turns : Stmt := topS 32
abbrev N_check_turns : List Str := ["turns", "size", "index", "turn"]
theorem sc_check_turns : FnScope N_check_turns ["turns", "size"] (defScope s_check_turns) := ⟨rfl, rfl, rfl, by decide +kernel, rfl, by decide +kernel, by decide +kernel⟩
def spCheckTurns (K : PySem.W.Frag) : Sp := fun vs H Q _ => ∃ (v : V) (T : List TurnI) (n : Nat), vs = [v, .int n] ∧ Dp K H v (.tuple (T.map turnD)) ∧ (∀ t ∈ T, TurnOk n (2 ^ 250) t) ∧ ∀ H', Same H H' → Q .non H'
theorem ok_check_turns (T : Gs mg) (D1 : Df P w K mg base "is_turn" 3 ["value", "size"] (spIsTurn K)) (F : At K mg "check_turns" s_check_turns) : Df P w K mg base "check_turns" 4 ["turns", "size"] (spCheckTurns K) := by
  have sc := sc_check_turns
  refine Df.mk' F sc (fun vs H Q E h => ?_) (fun _ _ _ _ _ _ us hl => match us, hl with | [_, _], _ => rfl) (fun f cdv A outer s H vs Q E hr h => ?_)
  · obtain ⟨a, q, u, rfl, _⟩ := h
    rfl
  · obtain ⟨v, ts, n, rfl, hv, ok, q⟩ := h
    obtain ⟨p, xs, rfl, hp, ha⟩ := dpTup hv
    have hl : xs.length = ts.length := by rw [dpAll_len ha, List.length_map]
    refine ⟨_, (pss_cons (ps_if (pt_cmpR op_notTyB (pe_callTy call_type1 (by rfl) T.type_ (by decide +kernel) (pa_cons (pv 0) pa_nil)) (pe_bltn (v := .ty "tuple") (by rfl) T.tuple_ (by decide +kernel) rfl) (nomark _))
   (pss_one ps_never)
   pss_nil)
  (pss_one (ps_for PassesOwn.never rfl (pi_enumT (by rfl) T.enumerate (pa_cons (pv 0) pa_nil)) (pg_tup rfl (pgs_cons (pg_name (i := 2) sc.nd rfl (Or.inl rfl)) (pgs_cons (pg_name (i := 3) sc.nd rfl (Or.inl rfl)) pgs_nil)))
   (pss_one (ps_if (pt_not (pt_val (pe_fn D1 (by decide) hr (pa_cons (pv 3) (pa_cons (pv 1) pa_nil)))))
   (pss_one ps_never)
   pss_nil))))), ?_⟩
    refine ⟨_, rfl, _, _, rfl, .tup hp, _, _, rfl, rfl, _, rfl, ifF (by decide) ?_⟩
    refine ⟨_, rfl, p, xs, rfl, hp, for_enumT (K := K) (a := p) (xs := xs) (fun i σ H' => (∃ y z, σ = [some (.ref p), some (.int n), y, z]) ∧ Same H H') ⟨⟨none, none, rfl⟩, Same.refl _⟩ (fun i σ H' _ h => sameT h.2 hp) ?_ ?_⟩
    · rintro i x T' σ H' hi ⟨⟨y, z, rfl⟩, sm⟩ hT
      obtain ⟨d, hd', hdp⟩ := dpAll_getV ha hi
      rw [List.getElem?_map] at hd'
      obtain ⟨t, ht, rfl⟩ := Option.map_eq_some_iff.mp hd'
      have sm2 : Same H (upd H' T' (.tup [.int (i : Nat), x])) := sm.trans (same_upd hT)
      refine ⟨T', _, rfl, SqT.of upd_same, rfl, _, _, rfl, _, _, rfl, rfl, ?_⟩
      refine ⟨_, rfl, _, rfl, _, t, n, rfl, Dp.same sm2 hdp, ok t (List.mem_of_getElem? ht), fun H3 s3 => ?_⟩
      exact ⟨_, rfl, ifF rfl ⟨⟨_, _, rfl⟩, sm2.trans s3⟩⟩
    · rintro σ H' ⟨_, sm⟩
      exact q H' sm
end
end V3
namespace V3
open PySem.Spec PySem L2 PyProof.Rows RZ GxR
theorem two_pow_int (k : Nat) : ((2 ^ k : Nat) : Int) = 2 ^ k := by norm_cast
theorem pow_le_int {a b : Nat} (h : a ≤ b) : (2 : Int) ^ a ≤ 2 ^ b := by
  rw [← two_pow_int, ← two_pow_int]
  exact Int.ofNat_le.mpr (pow_le_pow' h)
/-- how great the numbers are after at most ten turns -/
structure Fine (n : Nat) (s : Int × List Int) : Prop where
  len : s.2.length = n
  pos : 0 < s.1
  den : s.1.natAbs < 2 ^ 3000
  num : ∀ a ∈ s.2, a.natAbs < 2 ^ 3100
theorem Led.fine {n k : Nat} {s : Int × List Int} (h : Led n (2 ^ 100) ((2 ^ 250) ^ k * 2 ^ 400) s) (hk : k ≤ 10) : Fine n s := by
  have e : ((2 : Int) ^ 250) ^ k * 2 ^ 400 = 2 ^ (250 * k + 400) := by rw [← Int.pow_mul, ← Int.pow_add]
  have l1 : (2 : Int) ^ (250 * k + 400) ≤ 2 ^ 2900 := pow_le_int (by omega)
  have hle := h.le
  rw [e] at hle
  have h1 : s.1 ≤ 2 ^ 2900 := Int.le_trans hle l1
  have h2 : (2 : Int) ^ 100 * s.1 ≤ 2 ^ 3000 := by
    have := Int.mul_le_mul_of_nonneg_left h1 (show (0 : Int) ≤ 2 ^ 100 by decide)
    rw [← Int.pow_add] at this
    exact this
  have p := h.pos
  refine ⟨h.len, p, abs_lt ⟨h1, by omega⟩ (by decide +kernel), fun a ha => ?_⟩
  have m := h.num a ha
  exact abs_lt m (Int.lt_of_le_of_lt h2 (by decide +kernel))
theorem Fine.sf {n : Nat} {s : Int × List Int} (h : Fine n s) {a : Int} (ha : a ∈ s.2) : Sf (nf a s.1) :=
  nf_sf h.pos (Nat.lt_of_lt_of_le (h.num a ha) (pow_le_pow' (by decide))) (Nat.lt_of_lt_of_le h.den (pow_le_pow' (by decide)))
theorem mul_lt2 {i j : Int} {a b k : Nat} (h : i.natAbs < 2 ^ a) (h' : j.natAbs < 2 ^ b) (hk : a + b ≤ k) : (i * j).natAbs < 2 ^ k := Nat.lt_of_lt_of_le (wide_lt h h') (pow_le_pow' hk)
theorem sub_lt2 {i j : Int} {a k : Nat} (h : i.natAbs < 2 ^ a) (h' : j.natAbs < 2 ^ a) (hk : a + 1 ≤ k) : (i - j).natAbs < 2 ^ k := by
  have h1 : (i - j).natAbs < 2 ^ (a + 1) := by
    rw [Nat.pow_succ]
    omega
  exact Nat.lt_of_lt_of_le h1 (pow_le_pow' hk)
theorem fr_len (D : Int) (as : List Int) : (fr D as).length = as.length := by simp [fr]
theorem fr_all {D : Int} {as : List Int} (h : 0 < D) : ∀ q ∈ fr D as, Nf q := fun q hq => by
  obtain ⟨a, _, rfl⟩ := List.mem_map.mp hq
  exact nf_Nf h
theorem dtAll_set {K : PySem.W.Frag} {H : Hp} {v : V} {d : PyData} : ∀ {vs : List V} {ds : List PyData} (i : Nat), DpTAll K H vs ds → DpT K H v d → DpTAll K H (vs.set i v) (ds.set i d)
  | _, _, _, .nil, _ => .nil
  | _, _, 0, .cons a b, h => .cons h b
  | _, _, i + 1, .cons a b, h => .cons a (dtAll_set i b h)
section
variable {mg : Str → Option Value} {base : Heap} {K : PySem.W.Frag} {P : Program} {w : World}
abbrev s_check_row_up_to : Stmt := topS 22
abbrev N_check_row_up_to : List Str := ["row", "most"]
theorem sc_check_row_up_to : FnScope N_check_row_up_to ["row", "most"] (defScope s_check_row_up_to) := ⟨rfl, rfl, rfl, by decide +kernel, rfl, by decide +kernel, by decide +kernel⟩
def spRowUp (K : PySem.W.Frag) : Sp := fun vs H Q _ => ∃ v qs, vs = [v, .int 6] ∧ Dp K H v (rowD qs) ∧ (∀ q ∈ qs, Nf q) ∧ 1 ≤ qs.length ∧ qs.length ≤ 6 ∧ ∀ H', Same H H' → Q .non H'
theorem ok_row_up (T : Gs mg) (D1 : Df P w K mg base "check_row" 4 ["row", "size"] (spCheckRow K)) (F : At K mg "check_row_up_to" s_check_row_up_to) : Df P w K mg base "check_row_up_to" 5 ["row", "most"] (spRowUp K) := by
  have sc := sc_check_row_up_to
  refine Df.mk' F sc (fun vs H Q E h => ?_) (fun _ _ _ _ _ _ us hl => match us, hl with | [_, _], _ => rfl) (fun f cdv A outer s H vs Q E hr h => ?_)
  · obtain ⟨v, qs, rfl, _⟩ := h
    rfl
  · obtain ⟨v, qs, rfl, hx, ok, l1, l6, q⟩ := h
    obtain ⟨p, xs, rfl, hp, ha⟩ := dpTup hx
    have hl : xs.length = qs.length := by rw [dpAll_len ha, List.length_map]
    refine ⟨_, (pss_cons (ps_if (PW.pt (pw_or (pt_cmpR op_notTyB (pe_callTy call_type1 (by rfl) T.type_ (by decide +kernel) (pa_cons (pv 0) pa_nil)) (pe_bltn (v := .ty "tuple") (by rfl) T.tuple_ (by decide +kernel) rfl) (nomark _)) (pw_or1 (pt_not (pt_chain op_le op_le pe_int (pe_callB call_len_seq (by rfl) T.len PySem.boot_len (pa_cons (pv 0) pa_nil)) (pv 1))))))
   (pss_one ps_never)
   pss_nil)
  (pss_one (ps_expr (pe_fn D1 (by decide) hr (pa_cons (pv 0) (pa_cons (pe_callB call_len_seq (by rfl) T.len PySem.boot_len (pa_cons (pv 0) pa_nil)) pa_nil)))))), ?_⟩
    refine ⟨_, rfl, _, _, rfl, .tup hp, _, _, rfl, rfl, _, rfl, ifF (by decide) ?_⟩
    refine ⟨_, rfl, _, _, rfl, .inr hp, _, _, rfl, rfl, _, rfl, ifT (by rw [hl]; exact decide_eq_true (by omega)) ?_⟩
    refine ⟨_, rfl, _, _, rfl, rfl, _, rfl, ifF (by rw [hl]; simp; omega) ?_⟩
    refine ⟨_, rfl, _, rfl, p, _, rfl, .inr hp, ?_⟩
    rw [hl]
    exact ⟨_, qs, rfl, hx, ok, q⟩
abbrev s_turned : Stmt := topS 31
abbrev N_turned : List Str := ["diagonal", "turns", "now", "i", "j", "share", "step"]
theorem sc_turned : FnScope N_turned ["diagonal", "turns"] (defScope s_turned) := ⟨rfl, rfl, rfl, by decide +kernel, rfl, by decide +kernel, by decide +kernel⟩
def spTurned (K : PySem.W.Frag) : Sp := fun vs H Q _ => ∃ (v w : V) (n : Nat) (s : Int × List Int) (T : List TurnI), vs = [v, w] ∧ DpT K H v (rowD (fr s.1 s.2)) ∧ DpT K H w (.tuple (T.map turnD)) ∧ 1 ≤ n ∧ n ≤ 6 ∧ T.length ≤ 10 ∧ Led n (2 ^ 100) (2 ^ 400) s ∧ (∀ t ∈ T, TurnOk n (2 ^ 250) t) ∧
  ∀ H' p xs, Same H H' → H' p = some (.tup xs) → DpTAll K H' xs ((fr (ledAll s T).1 (ledAll s T).2).map frD) → Q (.ref p) H'
theorem ok_turned (T : Gs mg) (D1 : Df P w K mg base "check_row_up_to" 5 ["row", "most"] (spRowUp K)) (D2 : Df P w K mg base "check_turns" 4 ["turns", "size"] (spCheckTurns K)) (D3 : Df P w K mg base "times" 2 ["one", "other"] (spF2 K qmul))
    (D4 : Df P w K mg base "minus" 2 ["one", "other"] (spF2 K qsub)) (D5 : Df P w K mg base "plus" 2 ["one", "other"] (spF2 K qadd)) (F : At K mg "turned" s_turned) : Df P w K mg base "turned" 6 ["diagonal", "turns"] (spTurned K) := by
  have sc := sc_turned
  obtain ⟨tk, hM⟩ := T.MOST
  refine Df.mk' F sc (fun vs H Q E h => ?_) (fun _ _ _ _ _ _ us hl => match us, hl with | [_, _], _ => rfl) (fun f cdv A outer s H vs Q E hr h => ?_)
  · obtain ⟨a, q, u, s, T, rfl, _⟩ := h
    rfl
  · obtain ⟨v, w', n, st, ts, rfl, hv, hw, n1, n6, l10, led, ok, q⟩ := h
    obtain ⟨pa, xs, rfl, hp, hA⟩ := dtTup hv
    obtain ⟨pt, ys, rfl, hpt, hB⟩ := dtTup hw
    have hl : xs.length = n := by rw [dtAll_len hA, List.length_map, fr_len, led.len]
    have hly : ys.length = ts.length := by rw [dtAll_len hB, List.length_map]
    have ledk : ∀ i, i ≤ ts.length → Fine n (ledAll st (ts.take i)) := fun i hi => by
      have h1 := Led.all (show (0 : Int) < 2 ^ 250 by decide) (ts.take i) led (fun t ht => ok t (List.mem_of_mem_take ht))
      exact h1.fine (by rw [List.length_take]; omega)
    refine ⟨_, (pss_cons (ps_expr (pe_fn D1 (by decide) hr (pa_cons (pv 0) (pa_cons (pe_glob (v := .int 6) (by rfl) hM ⟨_, rfl⟩) pa_nil))))
  (pss_cons (ps_expr (pe_fn D2 (by decide) hr (pa_cons (pv 1) (pa_cons (pe_callB call_len_seq (by rfl) T.len PySem.boot_len (pa_cons (pv 0) pa_nil)) pa_nil))))
  (pss_cons (ps_set (i := 2) sc.nd rfl (Or.inl rfl) (pe_callTy call_list_of (by rfl) T.list_ (by decide +kernel) (pa_cons (pv 0) pa_nil)))
  (pss_cons (ps_for PassesOwn.never rfl (pi_tup (pv 1)) (pg_tup rfl (pgs_cons (pg_name (i := 3) sc.nd rfl (Or.inl rfl)) (pgs_cons (pg_name (i := 4) sc.nd rfl (Or.inl rfl)) (pgs_cons (pg_name (i := 5) sc.nd rfl (Or.inl rfl)) pgs_nil))))
   (pss_cons (ps_set (i := 6) sc.nd rfl (Or.inl rfl) (pe_fn D3 (by decide) hr (pa_cons (pe_fn D4 (by decide) hr (pa_cons (pe_tup (pa_cons pe_int (pa_cons pe_int pa_nil))) (pa_cons (pv 5) pa_nil))) (pa_cons (pe_fn D4 (by decide) hr (pa_cons (pe_ix ix_list (pv 2) (pv 4) (fun _ _ => rfl)) (pa_cons (pe_ix ix_list (pv 2) (pv 3) (fun _ _ => rfl)) pa_nil))) pa_nil))))
  (pss_one (ps_asg (pe_tup (pa_cons (pe_fn D5 (by decide) hr (pa_cons (pe_ix ix_list (pv 2) (pv 3) (fun _ _ => rfl)) (pa_cons (pv 6) pa_nil))) (pa_cons (pe_fn D4 (by decide) hr (pa_cons (pe_ix ix_list (pv 2) (pv 4) (fun _ _ => rfl)) (pa_cons (pv 6) pa_nil))) pa_nil))) (pg_tup rfl (pgs_cons (pg_sub (pv 2) (pv 3) set_list) (pgs_cons (pg_sub (pv 2) (pv 4) set_list) pgs_nil)))))))
  (pss_one (ps_ret (pe_callTy call_tuple_of (by rfl) T.tuple_ (by decide +kernel) (pa_cons (pv 2) pa_nil)))))))), ?_⟩
    refine ⟨_, rfl, _, fr st.1 st.2, rfl, hv.dp, fr_all led.pos, by rw [fr_len, led.len]; omega, by rw [fr_len, led.len]; omega, fun H1 s1 => ?_⟩
    refine ⟨_, rfl, _, rfl, pa, _, rfl, .inr (sameT s1 hp), ?_⟩
    rw [hl]
    refine ⟨_, ts, n, rfl, Dp.same s1 hw.dp, ok, fun H2 s2 => ?_⟩
    have s12 := s1.trans s2
    refine ⟨_, rfl, pa, xs, rfl, .inr (sameT s12 hp), fun pn hpn => ?_⟩
    have hpn0 : H pn = none := by
      cases e : H pn with
      | none => rfl
      | some o => rw [s12 _ _ e] at hpn; cases hpn
    have s3 := s12.trans (same_upd (o := .lst xs) hpn)
    refine ⟨_, rfl, pt, rfl, ⟨_, sameT s3 hpt⟩, for_tup (K := K) (a := pt) (xs := ys) (fun i σ H' => ∃ (y3 y4 y5 y6 : Option V) (zs : List V), σ = [some (.ref pa), some (.ref pt), some (.ref pn), y3, y4, y5, y6] ∧ Same H H' ∧ H' pn = some (.lst zs) ∧
      DpTAll K H' zs ((fr (ledAll st (ts.take i)).1 (ledAll st (ts.take i)).2).map frD)) ⟨_, _, _, _, xs, rfl, s3, upd_same, hA.keep (Same.kt s3)⟩ (fun i σ H' _ ⟨_, _, _, _, _, _, h, _⟩ => sameT h hpt) ?_ ?_⟩
    · rintro i x σ H' hi ⟨y3, y4, y5, y6, zs, rfl, sm, hz, hzs⟩
      obtain ⟨d, hd', hdp⟩ := dtAll_getV hB hi
      rw [List.getElem?_map] at hd'
      obtain ⟨t, ht, rfl⟩ := Option.map_eq_some_iff.mp hd'
      have hit : i < ts.length := (List.getElem?_eq_some_iff.mp ht).1
      have tok := ok t (List.mem_of_getElem? ht)
      have fin := ledk i (by omega)
      rw [show ts.take (i + 1) = ts.take i ++ [t] from take_more ht, ledAll_snoc]
      generalize hst : ledAll st (ts.take i) = sk at hzs fin
      obtain ⟨D, as⟩ := sk
      obtain ⟨q1, q2, rfl, ht1, ht2⟩ := dpTurn (DpT.keep (Same.kt sm) hdp).dp
      have oi := tok.i
      have oj := tok.j
      have one := tok.ne
      have q0 := tok.nf.pos
      have hD : 0 < D := fin.pos
      have la : as.length = n := fin.len
      have ia : t.1 < as.length := by omega
      have ja : t.2.1 < as.length := by omega
      have lz : zs.length = as.length := by rw [dtAll_len hzs, List.length_map, fr_len]
      obtain ⟨vi, hvi, dvi⟩ := dtAll_get hzs (show ((fr D as).map frD)[t.1]? = some (frD (nf (as.getD t.1 0) D)) by rw [List.getElem?_map, fr_get ia]; rfl)
      obtain ⟨vj, hvj, dvj⟩ := dtAll_get hzs (show ((fr D as).map frD)[t.2.1]? = some (frD (nf (as.getD t.2.1 0) D)) by rw [List.getElem?_map, fr_get ja]; rfl)
      have ni := fin.num _ (getD_mem ia)
      have nj := fin.num _ (getD_mem ja)
      have sfi := fin.sf (getD_mem ia)
      have sfj := fin.sf (getD_mem ja)
      have sS := tok.sf
      have nS := tok.nf.self
      obtain ⟨i', j', p', g'⟩ := t
      simp only [] at *
      have e1 : qsub (1, 1) (p', g') = nf (g' - p') g' := by
        have h := (nf_whole (k := 1) q0).symm
        rw [← nS, h, qsub_nf q0, Int.one_mul]
      have e2 : qsub (nf (as.getD j' 0) D) (nf (as.getD i' 0) D) = nf (as.getD j' 0 - as.getD i' 0) D := qsub_nf hD
      have gl : g'.natAbs < 2 ^ 251 ∧ (g' - p').natAbs < 2 ^ 251 := by
        have h1 := tok.p0
        have h2 := tok.pg
        have h3 := tok.g
        simp only [] at h1 h2 h3
        exact ⟨abs_lt (Z := 2 ^ 250) (by omega) (by decide), abs_lt (Z := 2 ^ 250) (by omega) (by decide)⟩
      have nd : (as.getD j' 0 - as.getD i' 0).natAbs < 2 ^ 3101 := sub_lt2 nj ni (by decide)
      have sf1 : Sf (nf (g' - p') g') := nf_sf q0 (Nat.lt_of_lt_of_le gl.2 (pow_le_pow' (by decide))) (Nat.lt_of_lt_of_le gl.1 (pow_le_pow' (by decide)))
      have sf2 : Sf (nf (as.getD j' 0 - as.getD i' 0) D) := nf_sf hD (Nat.lt_of_lt_of_le nd (pow_le_pow' (by decide))) (Nat.lt_of_lt_of_le fin.den (pow_le_pow' (by decide)))
      have e3 : qmul (nf (g' - p') g') (nf (as.getD j' 0 - as.getD i' 0) D) = nf ((g' - p') * (as.getD j' 0 - as.getD i' 0)) (g' * D) := qmul_nf2 q0 hD
      have sf3 : Sf (nf ((g' - p') * (as.getD j' 0 - as.getD i' 0)) (g' * D)) := nf_sf (Int.mul_pos q0 hD) (mul_lt2 gl.2 nd (by decide)) (mul_lt2 gl.1 fin.den (by decide))
      have e4 := prog_one (p := p') (a := as.getD i' 0) (b := as.getD j' 0) hD q0
      have e5 := prog_two (p := p') (a := as.getD i' 0) (b := as.getD j' 0) hD q0
      refine ⟨q1, _, rfl, ht1, rfl, _, _, rfl, _, _, rfl, _, _, rfl, rfl, ?_⟩
      refine ⟨by show 2 ≤ sizeLine; decide, fun T1 hT1 => ?_⟩
      have sa : Same H' (upd H' T1 (.tup [.int 1, .int 1])) := same_upd hT1
      have ea : (upd H' T1 (.tup [.int 1, .int 1])) T1 = some (.tup [.int 1, .int 1]) := upd_same
      generalize upd H' T1 (.tup [.int 1, .int 1]) = Ha at sa ea
      refine ⟨_, rfl, _, _, (1, 1), (p', g'), rfl, mkFrU ea, mkFr (sameT sa ht2), ⟨by decide, by decide, by decide⟩, sS, fun Hb pb sb hb => ?_⟩
      rw [e1] at hb
      have zb := sb _ _ (sa _ _ hz)
      have sab := sa.trans sb
      refine ⟨_, rfl, _, rfl, pn, zs, _, vj, rfl, rfl, SqL.of zb, at_of rfl hvj, ?_⟩
      refine ⟨_, rfl, _, rfl, pn, zs, _, vi, rfl, rfl, SqL.of zb, at_of rfl hvi, ?_⟩
      refine ⟨_, _, _, _, rfl, Dp.same sab dvj.dp, Dp.same sab dvi.dp, sfj, sfi, fun Hc pc sc' hc => ?_⟩
      rw [e2] at hc
      refine ⟨_, _, _, _, rfl, Dp.same sc' (mkFrU hb), mkFrU hc, sf1, sf2, fun Hd pd sd hd => ?_⟩
      rw [e3] at hd
      have sabd := sab.trans (sc'.trans sd)
      have zd := sabd _ _ hz
      refine ⟨_, rfl, _, rfl, pn, zs, _, vi, rfl, rfl, SqL.of zd, at_of rfl hvi, ?_⟩
      refine ⟨_, rfl, _, _, _, _, rfl, Dp.same sabd dvi.dp, mkFrU hd, sfi, sf3, fun He pe se he => ?_⟩
      rw [e4] at he
      have sae := sabd.trans se
      have ze := sae _ _ hz
      refine ⟨_, rfl, _, rfl, pn, zs, _, vj, rfl, rfl, SqL.of ze, at_of rfl hvj, ?_⟩
      refine ⟨_, rfl, _, _, _, _, rfl, Dp.same sae dvj.dp, mkFrU (se _ _ hd), sfj, sf3, fun Hf pf sf hf => ?_⟩
      rw [e5] at hf
      refine ⟨by show 2 ≤ sizeLine; decide, fun p8 hp8 => ?_⟩
      have s8 : Same Hf (upd Hf p8 (.tup [.ref pe, .ref pf])) := same_upd hp8
      have e8 : (upd Hf p8 (.tup [.ref pe, .ref pf])) p8 = some (.tup [.ref pe, .ref pf]) := upd_same
      generalize upd Hf p8 (.tup [.ref pe, .ref pf]) = Hg at s8 e8
      have sag := (sae.trans sf).trans s8
      have zg := sag _ _ hz
      refine ⟨p8, _, rfl, SqT.of e8, rfl, _, _, rfl, _, rfl, _, rfl, pn, _, _, i', rfl, rfl, zg, ixN_nat rfl (by omega), ?_⟩
      refine ⟨_, _, rfl, _, rfl, _, rfl, pn, _, _, j', rfl, rfl, upd_same, ixN_nat rfl (by rw [List.length_set]; omega), rfl, ?_⟩
      have kt : KeepT Hg (upd (upd Hg pn (.lst (zs.set i' (.ref pe)))) pn (.lst ((zs.set i' (.ref pe)).set j' (.ref pf)))) := (kt_lst zg).trans (kt_lst upd_same)
      refine ⟨_, _, _, _, (zs.set i' (.ref pe)).set j' (.ref pf), rfl, same_updN (same_updN (sm.trans sag) hpn0) hpn0, upd_same, ?_⟩
      have efl := fr_led (D := D) (as := as) (t := (i', j', p', g')) hD q0
      rw [efl, List.map_set, List.map_set]
      exact dtAll_set _ (dtAll_set _ (hzs.keep ((Same.kt sag).trans kt)) (DpT.keep ((Same.kt (sf.trans s8)).trans kt) (tFrU he))) (DpT.keep ((Same.kt s8).trans kt) (tFrU hf))
    · rintro σ H' ⟨y3, y4, y5, y6, zs, rfl, sm, hz, hzs⟩
      refine ⟨_, rfl, pn, zs, rfl, .inl ⟨SqL.of hz, fun l hl' => ?_⟩⟩
      rw [hly, List.take_length] at hzs
      exact q _ l zs (sm.trans (same_upd hl')) upd_same (hzs.keep (Same.kt (same_upd hl')))
end
end V3
namespace V3
open PySem.Spec PySem L2 PyProof.Rows RZ GxR
def Well (H : Hp) (a : Addr) (k : Nat) : Prop := ∃ x y z : Int, H a = some (.lst [.int x, .int y, .int z]) ∧ 0 ≤ x ∧ 0 ≤ y ∧ y < 2147483423 ∧ 0 ≤ z ∧ z ≤ k
theorem Well.mono {H : Hp} {a : Addr} {k l : Nat} (h : Well H a k) (hk : k ≤ l) : Well H a l := by
  obtain ⟨x, y, z, h1, h2, h3, h4, h5, h6⟩ := h
  exact ⟨x, y, z, h1, h2, h3, h4, h5, by omega⟩
theorem Well.same {H H' : Hp} {a : Addr} {k : Nat} (h : Well H a k) (e : Same H H') : Well H' a k := by
  obtain ⟨x, y, z, h1, h2⟩ := h
  exact ⟨x, y, z, e _ _ h1, h2⟩
theorem But.upd {P : Addr} {H H' : Hp} {o : HO} (e : But P H H') : But P H (upd H' P o) := fun b x n h => by
  rw [upd_ne n]
  exact e b x n h
theorem But.updN {P p : Addr} {H H' : Hp} {o : HO} (e : But P H H') (h : H p = none) : But P H (L2.upd H' p o) := fun b x n hb => by
  rw [upd_ne (ne_of_none hb h)]
  exact e b x n hb
theorem But.ktL {P : Addr} {H H' : Hp} {xs : List V} (h : But P H H') (hP : H P = some (.lst xs)) : KeepT H H' :=
  ⟨fun b xs e => h b _ (fun z => by rw [z, hP] at e; cases e) e, fun b o u e => h b _ (fun z => by rw [z, hP] at e; cases e) e⟩
theorem Well.lst {H : Hp} {a : Addr} {k : Nat} (h : Well H a k) : ∃ xs, H a = some (.lst xs) := by
  obtain ⟨x, y, z, h1, _⟩ := h
  exact ⟨_, h1⟩
theorem But.ktW {a : Addr} {k : Nat} {H H' : Hp} (h : But a H H') (hP : Well H a k) : KeepT H H' := by
  obtain ⟨xs, e⟩ := hP.lst
  exact h.ktL e
theorem TabG.butW {P a : Addr} {k : Nat} {H H' : Hp} (t : TabG H P) (h : But a H H') (hW : Well H a k) : TabG H' P := by
  obtain ⟨ps, hp, tr⟩ := t
  obtain ⟨xs, e⟩ := hW.lst
  exact ⟨ps, h _ _ (fun z => by rw [z, e] at hp; cases hp) hp, tr⟩
theorem at2 {α : Type} {x y z : α} : atI [x, y, z] 2 = some z := atI_nat (j := 2) rfl
theorem at30 {α : Type} {x y z : α} : atI [x, y, z] 0 = some x := atI_nat (j := 0) rfl
theorem at31 {α : Type} {x y z : α} : atI [x, y, z] 1 = some y := atI_nat (j := 1) rfl
section
variable {mg : Str → Option Value} {base : Heap} {K : PySem.W.Frag} {P : Program} {w : World}
abbrev s__law_draw : Stmt := topS 36
abbrev N__law_draw : List Str := ["well", "limit", "seed", "digit"]
theorem sc__law_draw : FnScope N__law_draw ["well", "limit"] (defScope s__law_draw) := ⟨rfl, rfl, rfl, by decide +kernel, rfl, by decide +kernel, by decide +kernel⟩
def spDraw : Sp := fun vs H Q _ => ∃ (a : Addr) (n : Int) (k : Nat), vs = [.ref a, .int n] ∧ Well H a k ∧ k ≤ 1000000 ∧ 0 < n ∧ n < 1073741824 ∧ ∀ H' d, But a H H' → Well H' a (k + 1) → 0 ≤ d → d < n → Q (.int d) H'
theorem ok_draw (T : Gs mg) (F : At K mg "_law_draw" s__law_draw) : Df P w K mg base "_law_draw" 1 ["well", "limit"] spDraw := by
  have sc := sc__law_draw
  refine Df.mk' F sc (fun vs H Q E h => ?_) (fun _ _ _ _ _ _ us hl => match us, hl with | [_, _], _ => rfl) (fun f cdv A outer s H vs Q E hr h => ?_)
  · obtain ⟨a, q, u, rfl, _⟩ := h
    rfl
  · obtain ⟨a, n, k, rfl, ⟨x, y, z, hw, x0, y0, yl, z0, zl⟩, kl, n0, nl, q⟩ := h
    refine ⟨_, (pss_cons (ps_if (pt_cmpR op_gt (pe_ix ix_list (pv 0) pe_int (fun _ _ => rfl)) pe_int (nomark _))
   (pss_cons (ps_asg (pe_callB call_divmod (by rfl) T.divmod (by decide +kernel) (pa_cons (pe_ix ix_list (pv 0) pe_int (fun _ _ => rfl)) (pa_cons (pv 1) pa_nil))) (pg_tup rfl (pgs_cons (pg_sub (pv 0) pe_int set_list) (pgs_cons (pg_name (i := 3) sc.nd rfl (Or.inl rfl)) pgs_nil))))
  (pss_one (ps_ret (pv 3))))
   pss_nil)
  (pss_cons (ps_asg (pe_op op_add (pe_ix ix_list (pv 0) pe_int (fun _ _ => rfl)) pe_int) (pg_sub (pv 0) pe_int set_list))
  (pss_cons (ps_set (i := 2) sc.nd rfl (Or.inl rfl) (pe_op op_mod (pe_callTy call_int1 (by rfl) T.int_ (by decide +kernel) (pa_cons (pe_op op_add (pe_op op_mul (pe_ix ix_list (pv 0) pe_int (fun _ _ => rfl)) pe_int) (pe_op op_mul (pe_ix ix_list (pv 0) pe_int (fun _ _ => rfl)) pe_int)) pa_nil)) pe_int))
  (pss_cons (ps_asg (pe_op op_mod (pe_callTy call_int1 (by rfl) T.int_ (by decide +kernel) (pa_cons (pe_op op_add (pe_op op_mul (pv 2) (pe_op op_add (pe_op op_mod (pe_callTy call_int1 (by rfl) T.int_ (by decide +kernel) (pa_cons (pv 2) pa_nil)) pe_int) pe_int)) (pe_op op_mul (pe_ix ix_list (pv 0) pe_int (fun _ _ => rfl)) (pe_ix ix_list (pv 0) pe_int (fun _ _ => rfl)))) pa_nil)) pe_int) (pg_sub (pv 0) pe_int set_list))
  (pss_one (ps_ret (pe_op op_mod (pe_callTy call_int1 (by rfl) T.int_ (by decide +kernel) (pa_cons (pe_op op_fdiv (pe_ix ix_list (pv 0) pe_int (fun _ _ => rfl)) pe_int) pa_nil)) (pv 1)))))))), ?_⟩
    refine ⟨_, rfl, a, _, _, _, rfl, rfl, SqL.of hw, at30, _, _, rfl, rfl, _, rfl, if2 (fun e => ?_) (fun e => ?_)⟩
    · refine ⟨_, rfl, a, _, _, _, rfl, rfl, SqL.of hw, at30, _, rfl, x, n, rfl, ⟨n0, nl⟩, fun p hp => ?_⟩
      have s1 : Same H (upd H p (.tup [.int (x / n), .int (x % n)])) := same_upd hp
      refine ⟨p, _, rfl, SqT.of upd_same, rfl, _, _, rfl, _, rfl, a, _, _, 0, rfl, rfl, s1 _ _ hw, rfl, ?_⟩
      refine ⟨_, _, rfl, rfl, ?_⟩
      refine ⟨_, rfl, ?_⟩
      exact q _ _ (But.upd (Same.but s1)) ⟨_, _, _, upd_same, Int.ediv_nonneg x0 (Int.le_of_lt n0), y0, yl, z0, by omega⟩ (Int.emod_nonneg _ (by omega)) (Int.emod_lt_of_pos _ n0)
    · refine ⟨_, rfl, a, _, _, _, rfl, rfl, SqL.of hw, at2, _, _, rfl, rfl, _, rfl, a, _, _, 2, rfl, rfl, hw, rfl, ?_⟩
      have h1 : (upd H a (.lst (List.set [.int x, .int y, .int z] 2 (.int (z + 1))))) a = some (.lst [.int x, .int y, .int (z + 1)]) := upd_same
      have b1 : But a H (upd H a (.lst (List.set [.int x, .int y, .int z] 2 (.int (z + 1))))) := (But.refl a H).upd
      generalize upd H a (.lst (List.set [.int x, .int y, .int z] 2 (.int (z + 1)))) = H1 at b1 h1
      refine ⟨_, rfl, a, _, _, _, rfl, rfl, SqL.of h1, at31, _, _, rfl, rfl, Or.inr (by omega), ?_⟩
      refine ⟨_, rfl, a, _, _, _, rfl, rfl, SqL.of h1, at2, _, _, rfl, rfl, Or.inr (by omega), ?_⟩
      refine ⟨_, _, rfl, rfl, .inl ⟨_, rfl, ?_⟩⟩
      refine ⟨_, _, rfl, rfl, by show (0 : Int) < 2147483423; decide, ?_⟩
      have s0 : 0 ≤ (y * 48271 + (z + 1) * 30269) % 2147483423 := Int.emod_nonneg _ (by decide)
      have sl : (y * 48271 + (z + 1) * 30269) % 2147483423 < 2147483423 := Int.emod_lt_of_pos _ (by decide)



      refine ⟨_, rfl, _, rfl, .inl ⟨_, rfl, _, _, rfl, rfl, by show (0 : Int) < 4093; decide, _, _, rfl, rfl, ?_⟩⟩
      have t0 : 0 ≤ ((y * 48271 + (z + 1) * 30269) % 2147483423) % 4093 := Int.emod_nonneg _ (by decide)
      have tl : ((y * 48271 + (z + 1) * 30269) % 2147483423) % 4093 < 4093 := Int.emod_lt_of_pos _ (by decide)
      refine ⟨_, _, rfl, rfl, Or.inr (by omega), ?_⟩
      refine ⟨_, rfl, a, _, _, _, rfl, rfl, SqL.of h1, at2, _, rfl, a, _, _, _, rfl, rfl, SqL.of h1, at2, _, _, rfl, rfl, Or.inr (by omega), ?_⟩
      refine ⟨_, _, rfl, rfl, .inl ⟨_, rfl, ?_⟩⟩
      refine ⟨_, _, rfl, rfl, by show (0 : Int) < 2147483423; decide, ?_⟩
      have u0 : 0 ≤ (((y * 48271 + (z + 1) * 30269) % 2147483423) * (((y * 48271 + (z + 1) * 30269) % 2147483423) % 4093 + 32003) + (z + 1) * (z + 1)) % 2147483423 := Int.emod_nonneg _ (by decide)
      have ul : (((y * 48271 + (z + 1) * 30269) % 2147483423) * (((y * 48271 + (z + 1) * 30269) % 2147483423) % 4093 + 32003) + (z + 1) * (z + 1)) % 2147483423 < 2147483423 := Int.emod_lt_of_pos _ (by decide)
      refine ⟨_, rfl, a, _, _, 1, rfl, rfl, h1, rfl, ?_⟩
      have h2 : (upd H1 a (.lst (List.set [.int x, .int y, .int (z + 1)] 1 (.int ((((y * 48271 + (z + 1) * 30269) % 2147483423) * (((y * 48271 + (z + 1) * 30269) % 2147483423) % 4093 + 32003) + (z + 1) * (z + 1)) % 2147483423))))) a = some (.lst [.int x, .int ((((y * 48271 + (z + 1) * 30269) % 2147483423) * (((y * 48271 + (z + 1) * 30269) % 2147483423) % 4093 + 32003) + (z + 1) * (z + 1)) % 2147483423), .int (z + 1)]) := upd_same
      have b2 : But a H (upd H1 a (.lst (List.set [.int x, .int y, .int (z + 1)] 1 (.int ((((y * 48271 + (z + 1) * 30269) % 2147483423) * (((y * 48271 + (z + 1) * 30269) % 2147483423) % 4093 + 32003) + (z + 1) * (z + 1)) % 2147483423))))) := b1.upd
      refine ⟨_, rfl, a, _, _, _, rfl, rfl, SqL.of h2, at31, _, _, rfl, rfl, ⟨by decide, by decide⟩, .inl ⟨_, rfl, ?_⟩⟩
      refine ⟨_, rfl, _, _, rfl, rfl, n0, ?_⟩
      exact q _ _ b2 ⟨_, _, _, h2, x0, u0, ul, by omega, by omega⟩ (Int.emod_nonneg _ (by omega)) (Int.emod_lt_of_pos _ n0)
end
end V3
namespace V3
open PySem.Spec PySem L2 PyProof.Rows RZ GxR
section
variable {mg : Str → Option Value} {base : Heap} {K : PySem.W.Frag} {P : Program} {w : World}
abbrev s__law_pick : Stmt := topS 37
abbrev N__law_pick : List Str := ["well", "some"]
theorem sc__law_pick : FnScope N__law_pick ["well", "some"] (defScope s__law_pick) := ⟨rfl, rfl, rfl, by decide +kernel, rfl, by decide +kernel, by decide +kernel⟩
def spPick (K : PySem.W.Frag) : Sp := fun vs H Q _ => ∃ (a p : Addr) (xs : List V) (k : Nat), vs = [.ref a, .ref p] ∧ Well H a k ∧ k ≤ 1000000 ∧ SqT K H p xs ∧ 0 < xs.length ∧ xs.length ≤ 1000 ∧ ∀ H' (i : Nat) x, But a H H' → Well H' a (k + 1) → xs[i]? = some x → Q x H'
theorem ok_pick (T : Gs mg) (D1 : Df P w K mg base "_law_draw" 1 ["well", "limit"] spDraw) (F : At K mg "_law_pick" s__law_pick) : Df P w K mg base "_law_pick" 2 ["well", "some"] (spPick K) := by
  have sc := sc__law_pick
  refine Df.mk' F sc (fun vs H Q E h => ?_) (fun _ _ _ _ _ _ us hl => match us, hl with | [_, _], _ => rfl) (fun f cdv A outer s H vs Q E hr h => ?_)
  · obtain ⟨a, q, u, k, rfl, _⟩ := h
    rfl
  · obtain ⟨a, p, xs, k, rfl, hw, kl, hp, n0, nl, q⟩ := h
    refine ⟨_, (pss_one (ps_ret (pe_ix ix_tup (pv 1) (pe_fn D1 (by decide) hr (pa_cons (pv 0) (pa_cons (pe_callB call_len_seq (by rfl) T.len PySem.boot_len (pa_cons (pv 1) pa_nil)) pa_nil))) (fun _ _ => rfl)))), ?_⟩
    refine ⟨_, rfl, _, rfl, _, rfl, p, _, rfl, .inr hp, a, _, k, rfl, hw, kl, by omega, by omega, fun H' d b1 w1 d0 dl => ?_⟩
    obtain ⟨i, rfl⟩ : ∃ i : Nat, d = i := ⟨d.toNat, by omega⟩
    have hi : i < xs.length := by omega
    refine ⟨p, xs, _, xs[i], rfl, rfl, (b1.ktW hw).sqT hp, at_of rfl (List.getElem?_eq_getElem hi), ?_⟩
    exact q H' i _ b1 w1 (List.getElem?_eq_getElem hi)
abbrev s__law_cut : Stmt := topS 38
abbrev N__law_cut : List Str := ["top", "under", "one", "two"]
theorem sc__law_cut : FnScope N__law_cut ["top", "under"] (defScope s__law_cut) := ⟨rfl, rfl, rfl, by decide +kernel, rfl, by decide +kernel, by decide +kernel⟩
theorem ok_cut (T : Gs mg) (F : At K mg "_law_cut" s__law_cut) : Df P w K mg base "_law_cut" 1 ["top", "under"] spFraction := by
  have sc := sc__law_cut
  refine Df.mk' F sc (fun vs H Q E h => ?_) (fun _ _ _ _ _ _ us hl => match us, hl with | [_, _], _ => rfl) (fun f cdv A outer s H vs Q E hr h => ?_)
  · obtain ⟨n, u, rfl, _⟩ := h
    rfl
  · obtain ⟨n, u, rfl, hu, su, q⟩ := h
    refine ⟨_, (pss_cons (ps_par (i := 2) (j := 3) rfl sc.nd rfl rfl (by decide) rfl rfl (pa_cons (pe_callB call_abs (by rfl) T.abs (by decide +kernel) (pa_cons (pv 0) pa_nil)) (pa_cons (pe_callB call_abs (by rfl) T.abs (by decide +kernel) (pa_cons (pv 1) pa_nil)) pa_nil)) (by rfl))
  (pss_cons (ps_while PassesOwn.never (pt_cmpR op_ne (pv 3) pe_int (nomark _))
   (pss_one (ps_par (i := 2) (j := 3) rfl sc.nd rfl rfl (by decide) rfl rfl (pa_cons (pv 3) (pa_cons (pe_op op_mod (pe_callTy call_int1 (by rfl) T.int_ (by decide +kernel) (pa_cons (pv 2) pa_nil)) (pv 3)) pa_nil)) (by rfl))))
  (pss_cons (ps_if (pt_cmpR op_lt (pv 1) pe_int (nomark _))
   (pss_one (ps_set (i := 2) sc.nd rfl (Or.inl rfl) (pe_op op_sub pe_int (pv 2))))
   pss_nil)
  (pss_one (ps_ret (pe_tup (pa_cons (pe_op op_fdivW (pv 0) (pv 2)) (pa_cons (pe_op op_fdivW (pv 1) (pv 2)) pa_nil)))))))), ?_⟩
    have en : (if n < 0 then -n else n) = ((n.natAbs : Nat) : Int) := by split <;> omega
    have eu : (if u < 0 then -u else u) = ((u.natAbs : Nat) : Int) := by split <;> omega
    refine ⟨_, rfl, n, rfl, _, rfl, u, rfl, _, _, rfl, ?_⟩
    rw [en, eu]
    refine ⟨fun m σ H' => H' = H ∧ ∃ a b : Nat, σ = [some (.int n), some (.int u), some (.int a), some (.int b)] ∧ Nat.gcd a b = Int.gcd n u ∧ m = b, ⟨_, rfl, n.natAbs, u.natAbs, rfl, rfl, rfl⟩, ?_⟩
    rintro m σ H1 ⟨rfl, a, b, rfl, hg, rfl⟩
    refine ⟨_, rfl, rfl, _, rfl, if2 (fun e => ?_) (fun e => ?_)⟩
    · have b0 : 0 < m := by
        simp at e
        omega
      refine ⟨fun σ' H' => ∃ m', m' < m ∧ (H' = H1 ∧ ∃ a b : Nat, σ' = [some (.int n), some (.int u), some (.int a), some (.int b)] ∧ Nat.gcd a b = Int.gcd n u ∧ m' = b), fun σ' H' z => z, ?_⟩
      refine ⟨_, rfl, _, rfl, .inl ⟨_, rfl, _, rfl, _, _, rfl, rfl, by show (0 : Int) < m; omega, _, _, rfl, ?_⟩⟩
      refine ⟨_, Nat.mod_lt a b0, rfl, m, a % m, ?_, ?_, rfl⟩
      · rfl
      · rw [← hg, Nat.gcd_comm a m, Nat.gcd_rec m a, Nat.gcd_comm]
    · have b0 : m = 0 := by
        simpa using e
      subst b0
      rw [Nat.gcd_zero_right] at hg
      subst hg
      have g0 := gcd_pos_r (n := n) hu
      have g1 := gcd_le_r (n := n) hu
      have w : CDivW n (Int.gcd n u : Int) := wide_div g0 (b := 9000) (wide_le (by omega) g1 su) (by decide) (by decide)
      refine ⟨_, rfl, _, _, rfl, rfl, _, rfl, ite2 (fun e => ?_) (fun e => ?_)⟩
      · exact absurd (of_decide_eq_true e) (by omega)
      · refine ⟨_, rfl, _, rfl, _, _, rfl, rfl, w, _, rfl, _, rfl, _, _, rfl, rfl, w, by show 2 ≤ sizeLine; decide, fun p hp => ?_⟩
        exact q _ p (same_upd hp) upd_same
abbrev s__law_add : Stmt := topS 39
abbrev s__law_sub : Stmt := topS 40
abbrev s__law_mul : Stmt := topS 41
abbrev s__law_less : Stmt := topS 42
abbrev N__law_two : List Str := ["one", "two"]
theorem sc__law_add : FnScope N__law_two ["one", "two"] (defScope s__law_add) := ⟨rfl, rfl, rfl, by decide +kernel, rfl, by decide +kernel, by decide +kernel⟩
theorem sc__law_sub : FnScope N__law_two ["one", "two"] (defScope s__law_sub) := ⟨rfl, rfl, rfl, by decide +kernel, rfl, by decide +kernel, by decide +kernel⟩
theorem sc__law_mul : FnScope N__law_two ["one", "two"] (defScope s__law_mul) := ⟨rfl, rfl, rfl, by decide +kernel, rfl, by decide +kernel, by decide +kernel⟩
theorem sc__law_less : FnScope N__law_two ["one", "two"] (defScope s__law_less) := ⟨rfl, rfl, rfl, by decide +kernel, rfl, by decide +kernel, by decide +kernel⟩
theorem ok_law_add (DF : Df P w K mg base "_law_cut" 1 ["top", "under"] spFraction) (F : At K mg "_law_add" s__law_add) : Df P w K mg base "_law_add" 2 ["one", "two"] (spF2 K qadd) := by
  have sc := sc__law_add
  refine Df.mk' F sc (fun vs H Q E h => ?_) (fun _ _ _ _ _ _ us hl => match us, hl with | [_, _], _ => rfl) (fun f cdv A outer s H vs Q E hr h => ?_)
  · obtain ⟨v, w, x, y, rfl, _⟩ := h
    rfl
  · obtain ⟨v, w, x, y, rfl, hx, hy, sx, sy, q⟩ := h
    obtain ⟨p, rfl, hp⟩ := dpFr hx
    obtain ⟨p', rfl, hp'⟩ := dpFr hy
    refine ⟨_, (pss_one (ps_ret (pe_fn DF (by decide) hr (pa_cons (pe_op op_add (pe_op op_mulW (pe_ix ix_tup (pv 0) pe_int (fun _ _ => rfl)) (pe_ix ix_tup (pv 1) pe_int (fun _ _ => rfl))) (pe_op op_mulW (pe_ix ix_tup (pv 1) pe_int (fun _ _ => rfl)) (pe_ix ix_tup (pv 0) pe_int (fun _ _ => rfl)))) (pa_cons (pe_op op_mulW (pe_ix ix_tup (pv 0) pe_int (fun _ _ => rfl)) (pe_ix ix_tup (pv 1) pe_int (fun _ _ => rfl))) pa_nil))))), ?_⟩
    refine ⟨_, rfl, _, _, _, _, rfl, rfl, hp, at0, _, rfl, _, _, _, _, rfl, rfl, hp', at1, _, _, rfl, rfl, mulW sx.s1 sy.s2, ?_⟩
    refine ⟨_, rfl, _, _, _, _, rfl, rfl, hp', at0, _, rfl, _, _, _, _, rfl, rfl, hp, at1, _, _, rfl, rfl, mulW sy.s1 sx.s2, ?_⟩
    refine ⟨_, _, rfl, rfl, ?_⟩
    refine ⟨_, rfl, _, _, _, _, rfl, rfl, hp, at1, _, rfl, _, _, _, _, rfl, rfl, hp', at1, _, _, rfl, rfl, mulW sx.s2 sy.s2, ?_⟩
    exact ⟨_, _, rfl, Int.mul_pos sx.pos sy.pos, szMul sx.s2 sy.s2, q⟩
theorem ok_law_sub (DF : Df P w K mg base "_law_cut" 1 ["top", "under"] spFraction) (F : At K mg "_law_sub" s__law_sub) : Df P w K mg base "_law_sub" 2 ["one", "two"] (spF2 K qsub) := by
  have sc := sc__law_sub
  refine Df.mk' F sc (fun vs H Q E h => ?_) (fun _ _ _ _ _ _ us hl => match us, hl with | [_, _], _ => rfl) (fun f cdv A outer s H vs Q E hr h => ?_)
  · obtain ⟨v, w, x, y, rfl, _⟩ := h
    rfl
  · obtain ⟨v, w, x, y, rfl, hx, hy, sx, sy, q⟩ := h
    obtain ⟨p, rfl, hp⟩ := dpFr hx
    obtain ⟨p', rfl, hp'⟩ := dpFr hy
    refine ⟨_, (pss_one (ps_ret (pe_fn DF (by decide) hr (pa_cons (pe_op op_sub (pe_op op_mulW (pe_ix ix_tup (pv 0) pe_int (fun _ _ => rfl)) (pe_ix ix_tup (pv 1) pe_int (fun _ _ => rfl))) (pe_op op_mulW (pe_ix ix_tup (pv 1) pe_int (fun _ _ => rfl)) (pe_ix ix_tup (pv 0) pe_int (fun _ _ => rfl)))) (pa_cons (pe_op op_mulW (pe_ix ix_tup (pv 0) pe_int (fun _ _ => rfl)) (pe_ix ix_tup (pv 1) pe_int (fun _ _ => rfl))) pa_nil))))), ?_⟩
    refine ⟨_, rfl, _, _, _, _, rfl, rfl, hp, at0, _, rfl, _, _, _, _, rfl, rfl, hp', at1, _, _, rfl, rfl, mulW sx.s1 sy.s2, ?_⟩
    refine ⟨_, rfl, _, _, _, _, rfl, rfl, hp', at0, _, rfl, _, _, _, _, rfl, rfl, hp, at1, _, _, rfl, rfl, mulW sy.s1 sx.s2, ?_⟩
    refine ⟨_, _, rfl, rfl, ?_⟩
    refine ⟨_, rfl, _, _, _, _, rfl, rfl, hp, at1, _, rfl, _, _, _, _, rfl, rfl, hp', at1, _, _, rfl, rfl, mulW sx.s2 sy.s2, ?_⟩
    exact ⟨_, _, rfl, Int.mul_pos sx.pos sy.pos, szMul sx.s2 sy.s2, q⟩
theorem ok_law_mul (DF : Df P w K mg base "_law_cut" 1 ["top", "under"] spFraction) (F : At K mg "_law_mul" s__law_mul) : Df P w K mg base "_law_mul" 2 ["one", "two"] (spF2 K qmul) := by
  have sc := sc__law_mul
  refine Df.mk' F sc (fun vs H Q E h => ?_) (fun _ _ _ _ _ _ us hl => match us, hl with | [_, _], _ => rfl) (fun f cdv A outer s H vs Q E hr h => ?_)
  · obtain ⟨v, w, x, y, rfl, _⟩ := h
    rfl
  · obtain ⟨v, w, x, y, rfl, hx, hy, sx, sy, q⟩ := h
    obtain ⟨p, rfl, hp⟩ := dpFr hx
    obtain ⟨p', rfl, hp'⟩ := dpFr hy
    refine ⟨_, (pss_one (ps_ret (pe_fn DF (by decide) hr (pa_cons (pe_op op_mulW (pe_ix ix_tup (pv 0) pe_int (fun _ _ => rfl)) (pe_ix ix_tup (pv 1) pe_int (fun _ _ => rfl))) (pa_cons (pe_op op_mulW (pe_ix ix_tup (pv 0) pe_int (fun _ _ => rfl)) (pe_ix ix_tup (pv 1) pe_int (fun _ _ => rfl))) pa_nil))))), ?_⟩
    refine ⟨_, rfl, _, _, _, _, rfl, rfl, hp, at0, _, rfl, _, _, _, _, rfl, rfl, hp', at0, _, _, rfl, rfl, mulW sx.s1 sy.s1, ?_⟩
    refine ⟨_, rfl, _, _, _, _, rfl, rfl, hp, at1, _, rfl, _, _, _, _, rfl, rfl, hp', at1, _, _, rfl, rfl, mulW sx.s2 sy.s2, ?_⟩
    exact ⟨_, _, rfl, Int.mul_pos sx.pos sy.pos, szMul sx.s2 sy.s2, q⟩
theorem ok_law_less (F : At K mg "_law_less" s__law_less) : Df P w K mg base "_law_less" 1 ["one", "two"] (spF2b K fun x y => decide (x.1 * y.2 < y.1 * x.2)) := by
  have sc := sc__law_less
  refine Df.mk' F sc (fun vs H Q E h => ?_) (fun _ _ _ _ _ _ us hl => match us, hl with | [_, _], _ => rfl) (fun f cdv A outer s H vs Q E hr h => ?_)
  · obtain ⟨v, w, x, y, rfl, _⟩ := h
    rfl
  · obtain ⟨v, w, x, y, rfl, hx, hy, sx, sy, q⟩ := h
    obtain ⟨p, rfl, hp⟩ := dpFr hx
    obtain ⟨p', rfl, hp'⟩ := dpFr hy
    refine ⟨_, (pss_one (ps_ret (pe_cmpR op_lt (pe_op op_mulW (pe_ix ix_tup (pv 0) pe_int (fun _ _ => rfl)) (pe_ix ix_tup (pv 1) pe_int (fun _ _ => rfl))) (pe_op op_mulW (pe_ix ix_tup (pv 1) pe_int (fun _ _ => rfl)) (pe_ix ix_tup (pv 0) pe_int (fun _ _ => rfl))) (nomark _)))), ?_⟩
    refine ⟨_, rfl, _, _, _, _, rfl, rfl, hp, at0, _, rfl, _, _, _, _, rfl, rfl, hp', at1, _, _, rfl, rfl, mulW sx.s1 sy.s2, ?_⟩
    refine ⟨_, rfl, _, _, _, _, rfl, rfl, hp', at0, _, rfl, _, _, _, _, rfl, rfl, hp, at1, _, _, rfl, rfl, mulW sy.s1 sx.s2, ?_⟩
    exact ⟨_, _, rfl, rfl, q⟩

end
end V3
namespace V3
open PySem.Spec PySem L2 PyProof.Rows RZ GxR
theorem down_len {qs : List Fr} (h : ∀ x ∈ qs, 0 < x.2) : (downR qs).length = qs.length := (down_perm h).length_eq
theorem dtAll_take {K : PySem.W.Frag} {H : Hp} : ∀ {vs : List V} {ds : List PyData} (i : Nat), DpTAll K H vs ds → DpTAll K H (vs.take i) (ds.take i)
  | _, _, 0, _ => .nil
  | _, _, _ + 1, .nil => .nil
  | _, _, i + 1, .cons a b => .cons a (dtAll_take i b)
theorem dtAll_drop {K : PySem.W.Frag} {H : Hp} : ∀ {vs : List V} {ds : List PyData} (i : Nat), DpTAll K H vs ds → DpTAll K H (vs.drop i) (ds.drop i)
  | _, _, 0, h => h
  | _, _, _ + 1, .nil => .nil
  | _, _, i + 1, .cons a b => dtAll_drop i b
section
variable {mg : Str → Option Value} {base : Heap} {K : PySem.W.Frag} {P : Program} {w : World}
abbrev s__law_down : Stmt := topS 43
abbrev N__law_down : List Str := ["some", "found", "each", "x"]
theorem sc__law_down : FnScope N__law_down ["some"] (defScope s__law_down) := ⟨rfl, rfl, rfl, by decide +kernel, rfl, by decide +kernel, by decide +kernel⟩
def spDown (K : PySem.W.Frag) : Sp := fun vs H Q _ => ∃ (a : Addr) (xs : List V) (qs : List Fr), vs = [.ref a] ∧ (SqL K H a xs ∨ SqT K H a xs) ∧ DpTAll K H xs (qs.map frD) ∧ (∀ q ∈ qs, Sf q) ∧ qs.length ≤ 100 ∧
  ∀ H' p ys, Same H H' → H' p = some (.tup ys) → DpTAll K H' ys ((downR qs).map frD) → Q (.ref p) H'
def DownInv (K : PySem.W.Frag) (H : Hp) (a pf : Addr) (qs : List Fr) (i : Nat) (σ : L2.St) (H' : Hp) : Prop :=
  ∃ (y z : Option V) (zs : List V), σ = [some (.ref a), some (.ref pf), y, z] ∧ Same H H' ∧ H' pf = some (.lst zs) ∧ DpTAll K H' zs ((downR (qs.take i)).map frD)
theorem ok_down (T : Gs mg) (D1 : Df P w K mg base "_law_less" 1 ["one", "two"] (spF2b K fun x y => decide (x.1 * y.2 < y.1 * x.2))) (F : At K mg "_law_down" s__law_down) : Df P w K mg base "_law_down" 2 ["some"] (spDown K) := by
  have sc := sc__law_down
  refine Df.mk' F sc (fun vs H Q E h => ?_) (fun _ _ _ _ _ _ us hl => match us, hl with | [_], _ => rfl) (fun f cdv A outer s H vs Q E hr h => ?_)
  · obtain ⟨a, q, u, rfl, _⟩ := h
    rfl
  · obtain ⟨a, xs, qs, rfl, hsq, hA, sf, l100, q⟩ := h
    have hl : xs.length = qs.length := by rw [dtAll_len hA, List.length_map]
    rcases hsq with hsq | hsq
    · refine ⟨_, (pss_cons (ps_set (i := 1) sc.nd rfl (Or.inl rfl) (pe_lst pa_nil))
  (pss_cons (ps_for PassesOwn.never rfl (pi_list (pv 0)) (pg_name (i := 2) sc.nd rfl (Or.inr rfl))
   (pss_one (ps_expr (pe_bm PySem.F.plainAttrs_list PySem.F.slot_list_insert PySem.F.type_list_insert mt_insert (pv 1) (pa_cons (pe_callB call_len_seq (by rfl) T.len PySem.boot_len (pa_cons (pe_lc (own := [("x", 3)]) (g := gName 3) rfl sc.nd (pi_list (pv 1)) (blkOk_by (own := [("x", 3)]) (N := N__law_down) (sc := defScope s__law_down) (by decide +kernel)) (fun _ _ _ _ _ => (pg_name (i := 3) sc.nd rfl (Or.inl rfl))) (fun _ _ _ _ _ => (pts_one (pt_not (pt_val (pe_fn D1 (by decide) hr (pa_cons (pv 3) (pa_cons (pv 2) pa_nil))))))) (fun _ _ _ _ _ => (pv 3))) pa_nil)) (pa_cons (pv 2) pa_nil))))))
  (pss_one (ps_ret (pe_callTy call_tuple_of (by rfl) T.tuple_ (by decide +kernel) (pa_cons (pv 1) pa_nil)))))), ?_⟩
      refine ⟨by show 0 ≤ sizeLine; decide, fun pf hpf => ?_⟩
      refine ⟨_, rfl, a, rfl, ⟨_, (same_upd hpf).seq hsq⟩, for_list (K := K) (a := a) (xs := xs) (DownInv K H a pf qs) ⟨_, _, [], rfl, same_upd hpf, upd_same, .nil⟩ (fun i σ H' _ ⟨_, _, _, _, sm, _⟩ => sm.seq hsq) ?_ ?_⟩
      · rintro i x σ H' hi ⟨y, z, zs, rfl, sm, hz, hzs⟩
        obtain ⟨d, hd', hdp⟩ := dtAll_getV hA hi
        rw [List.getElem?_map] at hd'
        obtain ⟨e, he, rfl⟩ := Option.map_eq_some_iff.mp hd'
        have hil : i < qs.length := (List.getElem?_eq_some_iff.mp he).1
        have pos : ∀ x ∈ qs.take i, 0 < x.2 := fun x hx => (sf x (List.mem_of_mem_take hx)).pos
        have dl := down_len pos
        have dsf : ∀ x ∈ downR (qs.take i), Sf x := fun x hx => sf x (List.mem_of_mem_take ((down_perm pos).mem_iff.mp hx))
        have lz : zs.length ≤ 100 := by
          rw [dtAll_len hzs, List.length_map, dl, List.length_take]
          omega
        refine ⟨_, rfl, .inl ⟨rfl, _, SqL.of hz⟩, ?_⟩
        refine ⟨_, rfl, pf, rfl, ⟨_, SqL.of hz⟩, fun D hD => lc_list (K := K) (a := pf) (xs := zs) (fun j H2 => Same H' H2 ∧ ∃ acc, H2 D = some (.lst acc) ∧ acc.length = (((downR (qs.take i)).take j).filter (geB e)).length) ⟨same_upd hD, [], upd_same, rfl⟩ (fun j H2 _ h => h.1.seq (SqL.of hz)) ?_ ?_⟩
        · rintro j x2 H2 hj ⟨s2, acc, hacc, lacc⟩
          obtain ⟨d2, hd2, hdp2⟩ := dtAll_getV hzs hj
          rw [List.getElem?_map] at hd2
          obtain ⟨x3, hx3, rfl⟩ := Option.map_eq_some_iff.mp hd2
          have hm : x3 ∈ downR (qs.take i) := List.mem_of_getElem? hx3
          have hjl : j < (downR (qs.take i)).length := (List.getElem?_eq_some_iff.mp hx3).1
          rw [take_more hx3, List.filter_append, List.length_append]
          refine ⟨rfl, ?_⟩
          refine ⟨_, rfl, _, rfl, _, _, x3, e, rfl, (DpT.keep (Same.kt s2) hdp2).dp, (DpT.keep (Same.kt (sm.trans s2)) hdp).dp, dsf _ hm, sf _ (List.mem_of_getElem? he), _, rfl, ?_⟩
          have g : geB e x3 = !decide (x3.1 * e.2 < e.1 * x3.2) := rfl
          have one : ([x3].filter (geB e)).length = if geB e x3 = true then 1 else 0 := by
            cases c : geB e x3 with
            | true => rw [List.filter_cons_of_pos c]; rfl
            | false => rw [List.filter_cons_of_neg (by rw [c]; simp)]; rfl
          have lf : (((downR (qs.take i)).take j).filter (geB e)).length ≤ 100 := by
            have h1 := List.length_filter_le (geB e) ((downR (qs.take i)).take j)
            rw [List.length_take] at h1
            rw [dl, List.length_take] at hjl
            omega
          rw [one, g]
          refine if2 (fun c => ?_) (fun c => ?_)
          · rw [c]
            refine ⟨_, rfl, acc, hacc, small1000 (by omega), same_updN s2 hD, ?_⟩
            · exact ⟨_, upd_same, by rw [List.length_append, lacc]; rfl⟩
          · rw [c]
            exact ⟨s2, acc, hacc, lacc⟩
        · rintro H2 ⟨s2, acc, hacc, lacc⟩
          have ez : (downR (qs.take i)).length = zs.length := by rw [dtAll_len hzs, List.length_map]
          rw [← ez, List.take_length] at lacc
          have lf : ((downR (qs.take i)).filter (geB e)).length ≤ 100 := by
            have h1 := List.length_filter_le (geB e) (downR (qs.take i))
            omega
          refine ⟨D, _, rfl, .inl (SqL.of hacc), _, rfl, pf, zs, _, _, rfl, rfl, s2 _ _ hz, small1000 (by omega), by omega, by omega, ?_⟩
          rw [Int.toNat_natCast, lacc]
          have hz2 := s2 _ _ hz
          refine ⟨_, _, _, rfl, same_updN (sm.trans s2) hpf, upd_same, ?_⟩
          rw [downR_more he]
          unfold insAt
          rw [List.map_append, List.map_append, List.map_take, List.map_drop]
          have hk := (hzs.keep (Same.kt s2)).keep (kt_lst (o := .lst (zs.take ((downR (qs.take i)).filter (geB e)).length ++ [x] ++ zs.drop ((downR (qs.take i)).filter (geB e)).length)) hz2)
          exact dtAll_app (dtAll_app (dtAll_take _ hk) (.cons (DpT.keep ((Same.kt (sm.trans s2)).trans (kt_lst hz2)) hdp) .nil)) (dtAll_drop _ hk)
      · rintro σ H' ⟨y, z, zs, rfl, sm, hz, hzs⟩
        refine ⟨_, rfl, pf, zs, rfl, .inl ⟨SqL.of hz, fun l hl' => ?_⟩⟩
        rw [hl, List.take_length] at hzs
        exact q _ l zs (sm.trans (same_upd hl')) upd_same (hzs.keep (Same.kt (same_upd hl')))
    · refine ⟨_, (pss_cons (ps_set (i := 1) sc.nd rfl (Or.inl rfl) (pe_lst pa_nil))
  (pss_cons (ps_for PassesOwn.never rfl (pi_tup (pv 0)) (pg_name (i := 2) sc.nd rfl (Or.inr rfl))
   (pss_one (ps_expr (pe_bm PySem.F.plainAttrs_list PySem.F.slot_list_insert PySem.F.type_list_insert mt_insert (pv 1) (pa_cons (pe_callB call_len_seq (by rfl) T.len PySem.boot_len (pa_cons (pe_lc (own := [("x", 3)]) (g := gName 3) rfl sc.nd (pi_list (pv 1)) (blkOk_by (own := [("x", 3)]) (N := N__law_down) (sc := defScope s__law_down) (by decide +kernel)) (fun _ _ _ _ _ => (pg_name (i := 3) sc.nd rfl (Or.inl rfl))) (fun _ _ _ _ _ => (pts_one (pt_not (pt_val (pe_fn D1 (by decide) hr (pa_cons (pv 3) (pa_cons (pv 2) pa_nil))))))) (fun _ _ _ _ _ => (pv 3))) pa_nil)) (pa_cons (pv 2) pa_nil))))))
  (pss_one (ps_ret (pe_callTy call_tuple_of (by rfl) T.tuple_ (by decide +kernel) (pa_cons (pv 1) pa_nil)))))), ?_⟩
      refine ⟨by show 0 ≤ sizeLine; decide, fun pf hpf => ?_⟩
      refine ⟨_, rfl, a, rfl, ⟨_, sameT (same_upd hpf) hsq⟩, for_tup (K := K) (a := a) (xs := xs) (DownInv K H a pf qs) ⟨_, _, [], rfl, same_upd hpf, upd_same, .nil⟩ (fun i σ H' _ ⟨_, _, _, _, sm, _⟩ => sameT sm hsq) ?_ ?_⟩
      · rintro i x σ H' hi ⟨y, z, zs, rfl, sm, hz, hzs⟩
        obtain ⟨d, hd', hdp⟩ := dtAll_getV hA hi
        rw [List.getElem?_map] at hd'
        obtain ⟨e, he, rfl⟩ := Option.map_eq_some_iff.mp hd'
        have hil : i < qs.length := (List.getElem?_eq_some_iff.mp he).1
        have pos : ∀ x ∈ qs.take i, 0 < x.2 := fun x hx => (sf x (List.mem_of_mem_take hx)).pos
        have dl := down_len pos
        have dsf : ∀ x ∈ downR (qs.take i), Sf x := fun x hx => sf x (List.mem_of_mem_take ((down_perm pos).mem_iff.mp hx))
        have lz : zs.length ≤ 100 := by
          rw [dtAll_len hzs, List.length_map, dl, List.length_take]
          omega
        refine ⟨_, rfl, .inl ⟨rfl, _, SqL.of hz⟩, ?_⟩
        refine ⟨_, rfl, pf, rfl, ⟨_, SqL.of hz⟩, fun D hD => lc_list (K := K) (a := pf) (xs := zs) (fun j H2 => Same H' H2 ∧ ∃ acc, H2 D = some (.lst acc) ∧ acc.length = (((downR (qs.take i)).take j).filter (geB e)).length) ⟨same_upd hD, [], upd_same, rfl⟩ (fun j H2 _ h => h.1.seq (SqL.of hz)) ?_ ?_⟩
        · rintro j x2 H2 hj ⟨s2, acc, hacc, lacc⟩
          obtain ⟨d2, hd2, hdp2⟩ := dtAll_getV hzs hj
          rw [List.getElem?_map] at hd2
          obtain ⟨x3, hx3, rfl⟩ := Option.map_eq_some_iff.mp hd2
          have hm : x3 ∈ downR (qs.take i) := List.mem_of_getElem? hx3
          have hjl : j < (downR (qs.take i)).length := (List.getElem?_eq_some_iff.mp hx3).1
          rw [take_more hx3, List.filter_append, List.length_append]
          refine ⟨rfl, ?_⟩
          refine ⟨_, rfl, _, rfl, _, _, x3, e, rfl, (DpT.keep (Same.kt s2) hdp2).dp, (DpT.keep (Same.kt (sm.trans s2)) hdp).dp, dsf _ hm, sf _ (List.mem_of_getElem? he), _, rfl, ?_⟩
          have g : geB e x3 = !decide (x3.1 * e.2 < e.1 * x3.2) := rfl
          have one : ([x3].filter (geB e)).length = if geB e x3 = true then 1 else 0 := by
            cases c : geB e x3 with
            | true => rw [List.filter_cons_of_pos c]; rfl
            | false => rw [List.filter_cons_of_neg (by rw [c]; simp)]; rfl
          have lf : (((downR (qs.take i)).take j).filter (geB e)).length ≤ 100 := by
            have h1 := List.length_filter_le (geB e) ((downR (qs.take i)).take j)
            rw [List.length_take] at h1
            rw [dl, List.length_take] at hjl
            omega
          rw [one, g]
          refine if2 (fun c => ?_) (fun c => ?_)
          · rw [c]
            refine ⟨_, rfl, acc, hacc, small1000 (by omega), same_updN s2 hD, ?_⟩
            · exact ⟨_, upd_same, by rw [List.length_append, lacc]; rfl⟩
          · rw [c]
            exact ⟨s2, acc, hacc, lacc⟩
        · rintro H2 ⟨s2, acc, hacc, lacc⟩
          have ez : (downR (qs.take i)).length = zs.length := by rw [dtAll_len hzs, List.length_map]
          rw [← ez, List.take_length] at lacc
          have lf : ((downR (qs.take i)).filter (geB e)).length ≤ 100 := by
            have h1 := List.length_filter_le (geB e) (downR (qs.take i))
            omega
          refine ⟨D, _, rfl, .inl (SqL.of hacc), _, rfl, pf, zs, _, _, rfl, rfl, s2 _ _ hz, small1000 (by omega), by omega, by omega, ?_⟩
          rw [Int.toNat_natCast, lacc]
          have hz2 := s2 _ _ hz
          refine ⟨_, _, _, rfl, same_updN (sm.trans s2) hpf, upd_same, ?_⟩
          rw [downR_more he]
          unfold insAt
          rw [List.map_append, List.map_append, List.map_take, List.map_drop]
          have hk := (hzs.keep (Same.kt s2)).keep (kt_lst (o := .lst (zs.take ((downR (qs.take i)).filter (geB e)).length ++ [x] ++ zs.drop ((downR (qs.take i)).filter (geB e)).length)) hz2)
          exact dtAll_app (dtAll_app (dtAll_take _ hk) (.cons (DpT.keep ((Same.kt (sm.trans s2)).trans (kt_lst hz2)) hdp) .nil)) (dtAll_drop _ hk)
      · rintro σ H' ⟨y, z, zs, rfl, sm, hz, hzs⟩
        refine ⟨_, rfl, pf, zs, rfl, .inl ⟨SqL.of hz, fun l hl' => ?_⟩⟩
        rw [hl, List.take_length] at hzs
        exact q _ l zs (sm.trans (same_upd hl')) upd_same (hzs.keep (Same.kt (same_upd hl')))
end
end V3
namespace V3
open PySem.Spec PySem L2 PyProof.Rows RZ GxR
/-- a multiple of 1 to 90 -/
def D0 : Int := ((List.range 90).foldl (fun a i => Nat.lcm a (i + 1)) 1 : Nat)
theorem D0_pos : 0 < D0 := by decide +kernel
theorem D0_le : D0 ≤ 2 ^ 140 := by decide +kernel
theorem D0_dvd : ∀ u : Nat, u < 91 → 0 < u → (u : Int) ∣ D0 := by
  have h : ∀ u : Fin 91, 0 < u.val → D0 % (u.val : Int) = 0 := by decide +kernel
  intro u hu h0
  exact Int.dvd_of_emod_eq_zero (h ⟨u, hu⟩ h0)
def NumQ (q : Fr) : Prop := ∃ n, q = nf n D0 ∧ n ≤ 2 ^ 20 * D0 ∧ -(2 ^ 20 * D0) ≤ n
theorem num_of {n u : Int} (h1 : 1 ≤ u) (h2 : u ≤ 90) (h3 : n ≤ 2 ^ 20) (h4 : -(2 ^ 20) ≤ n) : NumQ (nf n u) := by
  obtain ⟨c, hc⟩ : u ∣ D0 := by
    have := D0_dvd u.toNat (by omega) (by omega)
    rw [Int.toNat_of_nonneg (by omega)] at this
    exact this
  have hp := D0_pos
  have c0 : 0 < c := by
    apply Classical.byContradiction
    intro h
    have : u * c ≤ 0 := Int.mul_nonpos_of_nonneg_of_nonpos (by omega) (by omega)
    omega
  have cl : c ≤ D0 := by
    rw [hc]
    have := Int.mul_le_mul_of_nonneg_right h1 (Int.le_of_lt c0)
    omega
  refine ⟨n * c, ?_, ?_, ?_⟩
  · refine nf_eq (by omega) hp ?_
    rw [hc]
    grind
  · have a := Int.mul_le_mul_of_nonneg_right h3 (Int.le_of_lt c0)
    have b := Int.mul_le_mul_of_nonneg_left cl (show (0 : Int) ≤ 2 ^ 20 by decide)
    omega
  · have a := Int.mul_le_mul_of_nonneg_right h4 (Int.le_of_lt c0)
    have b := Int.mul_le_mul_of_nonneg_left cl (show (0 : Int) ≤ 2 ^ 20 by decide)
    rw [Int.neg_mul] at a
    omega
theorem NumQ.sf {q : Fr} (h : NumQ q) : Sf q := by
  obtain ⟨n, rfl, h1, h2⟩ := h
  have h3 : 2 ^ 20 * D0 < 2 ^ 4000 := by decide +kernel
  exact nf_sf D0_pos (abs_lt ⟨h1, h2⟩ h3) (by decide +kernel)
theorem nums_fr : ∀ (qs : List Fr), (∀ q ∈ qs, NumQ q) → ∃ as, qs = fr D0 as ∧ ∀ a ∈ as, a ≤ 2 ^ 20 * D0 ∧ -(2 ^ 20 * D0) ≤ a
  | [], _ => ⟨[], rfl, fun a h => by cases h⟩
  | q :: r, h => by
    obtain ⟨n, e, h1⟩ := h q List.mem_cons_self
    obtain ⟨as, e2, h2⟩ := nums_fr r fun x hx => h x (List.mem_cons_of_mem _ hx)
    refine ⟨n :: as, by rw [e2, e]; rfl, fun a ha => ?_⟩
    (rcases List.mem_cons.mp ha with rfl | ha)
    · exact h1
    · exact h2 a ha
/-! lists of fractions beside [] -/
theorem shaped_frs (qs : List Fr) : SeqAt.shaped (.list (qs.map frD)) = true := by
  have h1 : ∀ qs : List Fr, PyData.canLayAll0 (qs.map frD) = true := fun qs => by
    induction qs with
    | nil => rfl
    | cons a r ih => simp only [List.map_cons, PyData.canLayAll0, PyData.canLay0, frD, ih, Bool.and_self]
  have h2 : ∀ qs : List Fr, PyData.depthAll (qs.map frD) ≤ 1 := fun qs => by
    induction qs with
    | nil => exact Nat.zero_le _
    | cons a r ih =>
      have e : PyData.depth (frD a) = 1 := rfl
      rw [List.map_cons, PyData.depthAll, e]
      omega
  have := h2 qs
  unfold SeqAt.shaped
  rw [Bool.and_eq_true, decide_eq_true_eq, PyData.depth]
  exact ⟨by rw [PyData.canLay0]; exact h1 qs, by omega⟩
theorem eqv_nil (ds : List PyData) : PyData.eqv (.list ds) (.list []) = decide (ds = []) := by
  cases ds with
  | nil => rfl
  | cons a r => rfl
theorem dtAll_last {K : PySem.W.Frag} {H : Hp} {zs : List V} {ds : List PyData} (h : DpTAll K H zs ds) (ne : ds ≠ []) : ∃ v d, atI zs (-1) = some v ∧ DpT K H v d ∧ d ∈ ds := by
  have hl := dtAll_len h
  have n0 : 0 < ds.length := List.length_pos_iff.mpr ne
  have hz : zs ≠ [] := fun e => by
    rw [e] at hl
    simp at hl
    omega
  obtain ⟨v, hv⟩ : ∃ v, v = zs.getLast hz := ⟨_, rfl⟩
  have e : zs.dropLast ++ [v] = zs := by rw [hv]; exact List.dropLast_concat_getLast hz
  have g : zs[zs.length - 1]? = some v := by
    rw [hv, List.getLast_eq_getElem, List.getElem?_eq_getElem]
  obtain ⟨d, hd, hdp⟩ := dtAll_getV h g
  refine ⟨v, d, ?_, hdp, List.mem_of_getElem? hd⟩
  rw [← e]
  exact atI_last _ _
section
variable {mg : Str → Option Value} {base : Heap} {K : PySem.W.Frag} {P : Program} {w : World}
abbrev s__law_number : Stmt := topS 44
abbrev N__law_number : List Str := ["well", "way"]
theorem sc__law_number : FnScope N__law_number ["well"] (defScope s__law_number) := ⟨rfl, rfl, rfl, by decide +kernel, rfl, by decide +kernel, by decide +kernel⟩
def spNumber (K : PySem.W.Frag) : Sp := fun vs H Q _ => ∃ (a : Addr) (k : Nat), vs = [.ref a] ∧ Well H a k ∧ k ≤ 900000 ∧ ∀ H' v q, But a H H' → Well H' a (k + 3) → DpT K H' v (frD q) → NumQ q → Q v H'
theorem sz_small {u : Int} (h1 : 1 ≤ u) (h2 : u ≤ 90) : Sz u := abs_lt (a := u) (Z := 90) (k := 9000) (by omega) (by decide +kernel)
theorem ok_number (T : Gs mg) (D1 : Df P w K mg base "_law_draw" 1 ["well", "limit"] spDraw) (D2 : Df P w K mg base "_law_cut" 1 ["top", "under"] spFraction) (F : At K mg "_law_number" s__law_number) : Df P w K mg base "_law_number" 2 ["well"] (spNumber K) := by
  have sc := sc__law_number
  refine Df.mk' F sc (fun vs H Q E h => ?_) (fun _ _ _ _ _ _ us hl => match us, hl with | [_], _ => rfl) (fun f cdv A outer s H vs Q E hr h => ?_)
  · obtain ⟨a, k, rfl, _⟩ := h
    rfl
  · obtain ⟨a, k, rfl, hw, kl, q⟩ := h
    refine ⟨_, (pss_cons (ps_set (i := 1) sc.nd rfl (Or.inl rfl) (pe_fn D1 (by decide) hr (pa_cons (pv 0) (pa_cons pe_int pa_nil))))
  (pss_cons (ps_if (pt_cmpR op_eq (pv 1) pe_int (nomark _))
   (pss_one (ps_ret (pe_fn D2 (by decide) hr (pa_cons (pe_op op_sub (pe_fn D1 (by decide) hr (pa_cons (pv 0) (pa_cons pe_int pa_nil))) pe_int) (pa_cons (pe_op op_add pe_int (pe_fn D1 (by decide) hr (pa_cons (pv 0) (pa_cons pe_int pa_nil)))) pa_nil)))))
   pss_nil)
  (pss_cons (ps_if (pt_cmpR op_lt (pv 1) pe_int (nomark _))
   (pss_one (ps_ret (pe_tup (pa_cons (pe_op op_sub (pe_fn D1 (by decide) hr (pa_cons (pv 0) (pa_cons pe_int pa_nil))) pe_int) (pa_cons pe_int pa_nil)))))
   pss_nil)
  (pss_one (ps_ret (pe_fn D2 (by decide) hr (pa_cons (pe_op op_sub (pe_fn D1 (by decide) hr (pa_cons (pv 0) (pa_cons pe_int pa_nil))) pe_int) (pa_cons (pe_op op_add pe_int (pe_fn D1 (by decide) hr (pa_cons (pv 0) (pa_cons pe_int pa_nil)))) pa_nil)))))))), ?_⟩
    refine ⟨_, rfl, a, _, k, rfl, hw, by omega, by decide, by decide, fun H1 d1 b1 w1 d10 d1l => ?_⟩
    refine ⟨_, rfl, rfl, _, rfl, if2 (fun e => ?_) (fun e => ?_)⟩
    · refine ⟨_, rfl, a, _, k + 1, rfl, w1, by omega, by decide, by decide, fun H2 d2 b2 w2 d20 d2l => ?_⟩
      refine ⟨_, _, rfl, rfl, ?_⟩
      refine ⟨_, rfl, a, _, k + 2, rfl, w2, by omega, by decide, by decide, fun H3 d3 b3 w3 d30 d3l => ?_⟩
      refine ⟨_, _, rfl, rfl, _, _, rfl, by omega, sz_small (by omega) (by omega), fun H4 p s4 hp => ?_⟩
      exact q H4 _ _ (((b1.trans b2).trans b3).trans (Same.but s4)) (w3.same s4) (tFrU hp) (num_of (by omega) (by omega) (by omega) (by omega))
    · refine ⟨_, rfl, _, _, rfl, rfl, _, rfl, if2 (fun e2 => ?_) (fun e2 => ?_)⟩
      · refine ⟨_, rfl, a, _, k + 1, rfl, w1, by omega, by decide, by decide, fun H2 d2 b2 w2 d20 d2l => ?_⟩
        refine ⟨_, _, rfl, rfl, by show 2 ≤ sizeLine; decide, fun p hp => ?_⟩
        refine q _ (.ref p) (d2 - 3, 1) ((b1.trans b2).trans (Same.but (same_upd hp))) ((w2.same (same_upd hp)).mono (by omega)) (tFrU upd_same) ?_
        have h := num_of (n := d2 - 3) (u := 1) (by decide) (by decide) (by omega) (by omega)
        have e := nf_whole (k := d2 - 3) (D := 1) (by decide)
        rw [Int.mul_one] at e
        rw [e] at h
        exact h
      · refine ⟨_, rfl, a, _, k + 1, rfl, w1, by omega, by decide, by decide, fun H2 d2 b2 w2 d20 d2l => ?_⟩
        refine ⟨_, _, rfl, rfl, ?_⟩
        refine ⟨_, rfl, a, _, k + 2, rfl, w2, by omega, by decide, by decide, fun H3 d3 b3 w3 d30 d3l => ?_⟩
        refine ⟨_, _, rfl, rfl, _, _, rfl, by omega, sz_small (by omega) (by omega), fun H4 p s4 hp => ?_⟩
        exact q H4 _ _ (((b1.trans b2).trans b3).trans (Same.but s4)) (w3.same s4) (tFrU hp) (num_of (by omega) (by omega) (by omega) (by omega))
end
end V3
namespace V3
open PySem.Spec PySem L2 PyProof.Rows RZ GxR
section
variable {mg : Str → Option Value} {base : Heap} {K : PySem.W.Frag} {P : Program} {w : World}
abbrev s__law_tops : Stmt := topS 45
abbrev N__law_tops : List Str := ["well", "wide", "found", "turn", "each"]
theorem sc__law_tops : FnScope N__law_tops ["well", "wide"] (defScope s__law_tops) := ⟨rfl, rfl, rfl, by decide +kernel, rfl, by decide +kernel, by decide +kernel⟩
def spTops (K : PySem.W.Frag) : Sp := fun vs H Q _ => ∃ (a : Addr) (n k : Nat), vs = [.ref a, .int n] ∧ Well H a k ∧ k ≤ 800000 ∧ n ≤ 6 ∧
  ∀ H' p ys as, But a H H' → Well H' a (k + 24) → H' p = some (.tup ys) → DpTAll K H' ys ((fr D0 as).map frD) → as.length = n → (∀ x ∈ as, x ≤ 2 ^ 20 * D0 ∧ -(2 ^ 20 * D0) ≤ x) → Srt (fr D0 as) → Q (.ref p) H'
theorem ok_tops (T : Gs mg) (D1 : Df P w K mg base "_law_draw" 1 ["well", "limit"] spDraw) (D2 : Df P w K mg base "_law_number" 2 ["well"] (spNumber K)) (D3 : Df P w K mg base "_law_down" 2 ["some"] (spDown K)) (F : At K mg "_law_tops" s__law_tops) :
    Df P w K mg base "_law_tops" 3 ["well", "wide"] (spTops K) := by
  have sc := sc__law_tops
  refine Df.mk' F sc (fun vs H Q E h => ?_) (fun _ _ _ _ _ _ us hl => match us, hl with | [_, _], _ => rfl) (fun f cdv A outer s H vs Q E hr h => ?_)
  · obtain ⟨a, n, k, rfl, _⟩ := h
    rfl
  · obtain ⟨a, n, k, rfl, hw, kl, n6, q⟩ := h
    refine ⟨_, (pss_cons (ps_set (i := 2) sc.nd rfl (Or.inl rfl) (pe_lst pa_nil))
  (pss_cons (ps_for PassesOwn.never rfl (pi_range1 rfl T.range (pa_cons (pv 1) pa_nil)) (pg_name (i := 3) sc.nd rfl (Or.inl rfl))
   (pss_cons (ps_set (i := 4) sc.nd rfl (Or.inl rfl) (pe_fn D2 (by decide) hr (pa_cons (pv 0) pa_nil)))
  (pss_cons (ps_if (PW.pt (pw_and (pt_cmpR (op_neD hr.units) (pv 2) (pe_lst pa_nil) (nomark _)) (pw_and1 (pt_cmpR op_eq (pe_fn D1 (by decide) hr (pa_cons (pv 0) (pa_cons pe_int pa_nil))) pe_int (nomark _)))))
   (pss_one (ps_set (i := 4) sc.nd rfl (Or.inl rfl) (pe_ix ix_list (pv 2) (pe_un un_neg pe_int) (fun _ _ => rfl))))
   pss_nil)
  (pss_one (ps_expr (pe_bm PySem.F.plainAttrs_list PySem.F.slot_list_append PySem.F.type_list_append mt_append (pv 2) (pa_cons (pv 4) pa_nil)))))))
  (pss_one (ps_ret (pe_fn D3 (by decide) hr (pa_cons (pv 2) pa_nil)))))), ?_⟩
    refine ⟨by show 0 ≤ sizeLine; decide, fun pf hpf0 => ?_⟩
    have hne : a ≠ pf := fun e => by
      obtain ⟨xs, hx⟩ := hw.lst
      rw [e, hpf0] at hx
      cases hx
    have s0 : Same H (upd H pf (.lst [])) := same_upd hpf0
    refine ⟨_, rfl, _, rfl, by omega, by omega, for_range (lo := 0) (n := (n : Int).toNat) (fun i σ H' => ∃ (y3 y4 : Option V) (zs : List V) (qs : List Fr), σ = [some (.ref a), some (.int n), some (.ref pf), y3, y4] ∧ But a H H' ∧ Well H' a (k + 4 * i) ∧ H' pf = some (.lst zs) ∧
      DpTAll K H' zs (qs.map frD) ∧ qs.length = i ∧ ∀ x ∈ qs, NumQ x) ⟨_, _, [], [], rfl, Same.but s0, hw.same s0, upd_same, .nil, rfl, fun x hx => by cases hx⟩ ?_ ?_⟩
    · rintro i σ H1 hi ⟨y3, y4, zs, qs, rfl, b1, w1, hz, hzs, hql, hqs⟩
      have hi6 : i < 6 := by omega
      have lz : zs.length = i := by rw [dtAll_len hzs, List.length_map, hql]
      refine ⟨_, rfl, a, k + 4 * i, rfl, w1, by omega, fun H2 v e b2 w2 dv ne => ?_⟩
      have hz2 : H2 pf = some (.lst zs) := b2 _ _ (Ne.symm hne) hz
      have hzs2 := hzs.keep (b2.ktW w1)
      refine ⟨_, rfl, by show 0 ≤ sizeLine; decide, fun pe hpe => ?_⟩
      have s3 : Same H2 (upd H2 pe (.lst [])) := same_upd hpe
      refine ⟨.list (qs.map frD), .list [], .lst (SqL.of (s3 _ _ hz2)) (hzs2.keep (Same.kt s3)).dp, .lst (SqL.of upd_same) .nil, shaped_frs _, rfl, _, rfl, ?_⟩
      generalize hH3 : upd H2 pe (.lst []) = H3 at s3
      have hz3 := s3 _ _ hz2
      have w3 := w2.same s3
      have hzs3 := hzs2.keep (Same.kt s3)
      have dv3 := DpT.keep (Same.kt s3) dv
      have b3 := (b1.trans b2).trans (Same.but s3)
      rw [eqv_nil]
      refine if2 (fun c => ?_) (fun c => ?_)
      · have qne : qs.map frD ≠ [] := by
          simp at c
          simpa using c
        refine ⟨_, rfl, a, _, k + 4 * i + 3, rfl, w3, by omega, by decide, by decide, fun H4 d b4 w4 d0 dl => ?_⟩
        have hz4 : H4 pf = some (.lst zs) := b4 _ _ (Ne.symm hne) hz3
        have hzs4 := hzs3.keep (b4.ktW w3)
        have dv4 := DpT.keep (b4.ktW w3) dv3
        have b5 := b3.trans b4
        refine ⟨rfl, _, rfl, if2 (fun c2 => ?_) (fun c2 => ?_)⟩
        · obtain ⟨vl, dd, hvl, dvl, hdd⟩ := dtAll_last hzs4 qne
          obtain ⟨ql, hql2, rfl⟩ := List.mem_map.mp hdd
          refine ⟨_, rfl, _, rfl, pf, zs, _, vl, rfl, rfl, SqL.of hz4, hvl, ?_⟩
          refine ⟨_, rfl, .inl ⟨rfl, _, SqL.of hz4⟩, _, rfl, pf, zs, _, rfl, rfl, hz4, small1000 (by omega), ?_⟩
          refine ⟨_, _, zs ++ [_], qs ++ [ql], rfl, But.updN (b5) hpf0, ?_, upd_same, ?_, by rw [List.length_append, hql]; rfl, fun z hz' => ?_⟩
          · obtain ⟨x1, x2, x3, x4, x5⟩ := (w4).mono (show k + 4 * i + 3 + 1 ≤ k + 4 * (i + 1) by omega)
            exact ⟨x1, x2, x3, by rw [upd_ne hne]; exact x4, x5⟩
          · rw [List.map_append]
            exact dtAll_app ((hzs4).keep (kt_lst hz4)) (.cons (DpT.keep (kt_lst hz4) (dvl)) .nil)
          · rcases List.mem_append.mp hz' with h | h
            · exact hqs z h
            · rw [List.mem_singleton.mp h]
              exact hqs _ hql2
        · refine ⟨_, rfl, .inl ⟨rfl, _, SqL.of hz4⟩, _, rfl, pf, zs, _, rfl, rfl, hz4, small1000 (by omega), ?_⟩
          refine ⟨_, _, zs ++ [_], qs ++ [e], rfl, But.updN (b5) hpf0, ?_, upd_same, ?_, by rw [List.length_append, hql]; rfl, fun z hz' => ?_⟩
          · obtain ⟨x1, x2, x3, x4, x5⟩ := (w4).mono (show k + 4 * i + 3 + 1 ≤ k + 4 * (i + 1) by omega)
            exact ⟨x1, x2, x3, by rw [upd_ne hne]; exact x4, x5⟩
          · rw [List.map_append]
            exact dtAll_app ((hzs4).keep (kt_lst hz4)) (.cons (DpT.keep (kt_lst hz4) (dv4)) .nil)
          · rcases List.mem_append.mp hz' with h | h
            · exact hqs z h
            · rw [List.mem_singleton.mp h]
              exact ne
      · refine ⟨_, rfl, .inl ⟨rfl, _, SqL.of hz3⟩, _, rfl, pf, zs, _, rfl, rfl, hz3, small1000 (by omega), ?_⟩
        refine ⟨_, _, zs ++ [_], qs ++ [e], rfl, But.updN (b3) hpf0, ?_, upd_same, ?_, by rw [List.length_append, hql]; rfl, fun z hz' => ?_⟩
        · obtain ⟨x1, x2, x3, x4, x5⟩ := (w3).mono (show k + 4 * i + 3 ≤ k + 4 * (i + 1) by omega)
          exact ⟨x1, x2, x3, by rw [upd_ne hne]; exact x4, x5⟩
        · rw [List.map_append]
          exact dtAll_app ((hzs3).keep (kt_lst hz3)) (.cons (DpT.keep (kt_lst hz3) (dv3)) .nil)
        · rcases List.mem_append.mp hz' with h | h
          · exact hqs z h
          · rw [List.mem_singleton.mp h]
            exact ne
    · rintro σ H1 ⟨y3, y4, zs, qs, rfl, b1, w1, hz, hzs, hql, hqs⟩
      refine ⟨_, rfl, pf, zs, qs, rfl, .inl (SqL.of hz), hzs, fun x hx => (hqs x hx).sf, by omega, fun H2 p ys s2 hp hys => ?_⟩
      have pos : ∀ x ∈ qs, 0 < x.2 := fun x hx => (hqs x hx).sf.pos
      obtain ⟨as, eas, has⟩ := nums_fr (downR qs) fun x hx => hqs x ((down_perm pos).mem_iff.mp hx)
      have hl : as.length = n := by
        have e := congrArg List.length eas
        rw [fr_len, down_len pos] at e
        omega
      rw [eas] at hys
      refine q H2 p ys as (b1.trans (Same.but s2)) ((w1.same s2).mono (by omega)) hp hys hl has ?_
      rw [← eas]
      exact down_srt pos
abbrev s__law_wide : Stmt := topS 46
abbrev N__law_wide : List Str := ["well", "most"]
theorem sc__law_wide : FnScope N__law_wide ["well", "most"] (defScope s__law_wide) := ⟨rfl, rfl, rfl, by decide +kernel, rfl, by decide +kernel, by decide +kernel⟩
def spWide : Sp := fun vs H Q _ => ∃ (a : Addr) (k : Nat), vs = [.ref a, .int 6] ∧ Well H a k ∧ k ≤ 900000 ∧ ∀ H' (n : Nat), But a H H' → Well H' a (k + 1) → 1 ≤ n → n ≤ 6 → Q (.int n) H'
theorem ok_wide (T : Gs mg) (D1 : Df P w K mg base "_law_pick" 2 ["well", "some"] (spPick K)) (F : At K mg "_law_wide" s__law_wide) : Df P w K mg base "_law_wide" 3 ["well", "most"] spWide := by
  have sc := sc__law_wide
  refine Df.mk' F sc (fun vs H Q E h => ?_) (fun _ _ _ _ _ _ us hl => match us, hl with | [_, _], _ => rfl) (fun f cdv A outer s H vs Q E hr h => ?_)
  · obtain ⟨a, k, rfl, _⟩ := h
    rfl
  · obtain ⟨a, k, rfl, hw, kl, q⟩ := h
    refine ⟨_, (pss_one (ps_ret (pe_callB (call_min2 rfl) (by rfl) T.min (by decide +kernel) (pa_cons (pv 1) (pa_cons (pe_fn D1 (by decide) hr (pa_cons (pv 0) (pa_cons (pe_tup (pa_cons pe_int (pa_cons pe_int (pa_cons pe_int (pa_cons pe_int (pa_cons pe_int (pa_cons pe_int (pa_cons pe_int (pa_cons pe_int (pa_cons pe_int (pa_cons pe_int (pa_cons pe_int pa_nil)))))))))))) pa_nil))) pa_nil))))), ?_⟩
    refine ⟨_, rfl, _, rfl, by show 11 ≤ sizeLine; decide, fun p hp => ?_⟩
    have s1 : Same H (upd H p (.tup [.int 2, .int 3, .int 2, .int 4, .int 3, .int 2, .int 1, .int 3, .int 5, .int 2, .int 6])) := same_upd hp
    refine ⟨a, p, _, k, rfl, hw.same s1, by omega, SqT.of upd_same, by decide, by decide, fun H1 i x b1 w1 hx => ?_⟩
    have hx2 : ∃ n : Nat, x = .int n ∧ 1 ≤ n ∧ n ≤ 6 := by
      have hm := List.mem_of_getElem? hx
      (simp only [List.mem_cons, List.not_mem_nil, or_false] at hm)
      rcases hm with h | h | h | h | h | h | h | h | h | h | h
      · exact ⟨2, h, by decide, by decide⟩
      · exact ⟨3, h, by decide, by decide⟩
      · exact ⟨2, h, by decide, by decide⟩
      · exact ⟨4, h, by decide, by decide⟩
      · exact ⟨3, h, by decide, by decide⟩
      · exact ⟨2, h, by decide, by decide⟩
      · exact ⟨1, h, by decide, by decide⟩
      · exact ⟨3, h, by decide, by decide⟩
      · exact ⟨5, h, by decide, by decide⟩
      · exact ⟨2, h, by decide, by decide⟩
      · exact ⟨6, h, by decide, by decide⟩
    obtain ⟨n, rfl, n1, n6⟩ := hx2
    have qq := q H1 n ((Same.but s1).trans b1) w1 n1 n6
    refine ⟨_, _, rfl, ?_⟩
    have e : (if (n : Int) < 6 then (n : Int) else 6) = n := by split <;> omega
    first
      | exact qq
      | (rw [e]; exact qq)
end
end V3
namespace V3
open PySem.Spec PySem L2 PyProof.Rows RZ GxR
section
variable {mg : Str → Option Value} {base : Heap} {K : PySem.W.Frag} {P : Program} {w : World}
abbrev s__law_led : Stmt := topS 54
abbrev N__law_led : List Str := ["slant", "steps", "left", "one", "two", "share", "rest", "here", "there"]
theorem sc__law_led : FnScope N__law_led ["slant", "steps"] (defScope s__law_led) := ⟨rfl, rfl, rfl, by decide +kernel, rfl, by decide +kernel, by decide +kernel⟩
theorem ok_led (T : Gs mg) (D1 : Df P w K mg base "_law_sub" 2 ["one", "two"] (spF2 K qsub)) (D2 : Df P w K mg base "_law_mul" 2 ["one", "two"] (spF2 K qmul)) (D3 : Df P w K mg base "_law_add" 2 ["one", "two"] (spF2 K qadd)) (F : At K mg "_law_led" s__law_led) :
    Df P w K mg base "_law_led" 3 ["slant", "steps"] (spTurned K) := by
  have sc := sc__law_led
  refine Df.mk' F sc (fun vs H Q E h => ?_) (fun _ _ _ _ _ _ us hl => match us, hl with | [_, _], _ => rfl) (fun f cdv A outer s H vs Q E hr h => ?_)
  · obtain ⟨a, q, u, s, T, rfl, _⟩ := h
    rfl
  · obtain ⟨v, w', n, st, ts, rfl, hv, hw, n1, n6, l10, led, ok, q⟩ := h
    obtain ⟨pa, xs, rfl, hp, hA⟩ := dtTup hv
    obtain ⟨pt, ys, rfl, hpt, hB⟩ := dtTup hw
    have hl : xs.length = n := by rw [dtAll_len hA, List.length_map, fr_len, led.len]
    have hly : ys.length = ts.length := by rw [dtAll_len hB, List.length_map]
    have ledk : ∀ i, i ≤ ts.length → Fine n (ledAll st (ts.take i)) := fun i hi => by
      have h1 := Led.all (show (0 : Int) < 2 ^ 250 by decide) (ts.take i) led (fun t ht => ok t (List.mem_of_mem_take ht))
      exact h1.fine (by rw [List.length_take]; omega)
    refine ⟨_, (pss_cons (ps_set (i := 2) sc.nd rfl (Or.inl rfl) (pe_callTy call_list_of (by rfl) T.list_ (by decide +kernel) (pa_cons (pv 0) pa_nil)))
  (pss_cons (ps_for PassesOwn.never rfl (pi_tup (pv 1)) (pg_tup rfl (pgs_cons (pg_name (i := 3) sc.nd rfl (Or.inl rfl)) (pgs_cons (pg_name (i := 4) sc.nd rfl (Or.inl rfl)) (pgs_cons (pg_name (i := 5) sc.nd rfl (Or.inl rfl)) pgs_nil))))
   (pss_cons (ps_par3 (i := 6) (j := 7) (l := 8) rfl sc.nd rfl rfl rfl (by decide) (by decide) (by decide) rfl rfl rfl (pa_cons (pe_fn D1 (by decide) hr (pa_cons (pe_tup (pa_cons pe_int (pa_cons pe_int pa_nil))) (pa_cons (pv 5) pa_nil))) (pa_cons (pe_ix ix_list (pv 2) (pv 3) (fun _ _ => rfl)) (pa_cons (pe_ix ix_list (pv 2) (pv 4) (fun _ _ => rfl)) pa_nil))) (by rfl))
  (pss_cons (ps_asg (pe_fn D3 (by decide) hr (pa_cons (pe_fn D2 (by decide) hr (pa_cons (pv 5) (pa_cons (pv 7) pa_nil))) (pa_cons (pe_fn D2 (by decide) hr (pa_cons (pv 6) (pa_cons (pv 8) pa_nil))) pa_nil))) (pg_sub (pv 2) (pv 3) set_list))
  (pss_one (ps_asg (pe_fn D3 (by decide) hr (pa_cons (pe_fn D2 (by decide) hr (pa_cons (pv 5) (pa_cons (pv 8) pa_nil))) (pa_cons (pe_fn D2 (by decide) hr (pa_cons (pv 6) (pa_cons (pv 7) pa_nil))) pa_nil))) (pg_sub (pv 2) (pv 4) set_list))))))
  (pss_one (ps_ret (pe_callTy call_tuple_of (by rfl) T.tuple_ (by decide +kernel) (pa_cons (pv 2) pa_nil)))))), ?_⟩
    refine ⟨_, rfl, pa, xs, rfl, .inr hp, fun pn hpn0 => ?_⟩
    have s3 : Same H (upd H pn (.lst xs)) := same_upd hpn0
    refine ⟨_, rfl, pt, rfl, ⟨_, sameT s3 hpt⟩, for_tup (K := K) (a := pt) (xs := ys) (fun i σ H' => ∃ (y3 y4 y5 y6 y7 y8 : Option V) (zs : List V), σ = [some (.ref pa), some (.ref pt), some (.ref pn), y3, y4, y5, y6, y7, y8] ∧ Same H H' ∧ H' pn = some (.lst zs) ∧
      DpTAll K H' zs ((fr (ledAll st (ts.take i)).1 (ledAll st (ts.take i)).2).map frD)) ⟨_, _, _, _, _, _, xs, rfl, s3, upd_same, hA.keep (Same.kt s3)⟩ (fun i σ H' _ ⟨_, _, _, _, _, _, _, _, h, _⟩ => sameT h hpt) ?_ ?_⟩
    · rintro i x σ H' hi ⟨y3, y4, y5, y6, y7, y8, zs, rfl, sm, hz, hzs⟩
      obtain ⟨d, hd', hdp⟩ := dtAll_getV hB hi
      rw [List.getElem?_map] at hd'
      obtain ⟨t, ht, rfl⟩ := Option.map_eq_some_iff.mp hd'
      have hit : i < ts.length := (List.getElem?_eq_some_iff.mp ht).1
      have tok := ok t (List.mem_of_getElem? ht)
      have fin := ledk i (by omega)
      rw [show ts.take (i + 1) = ts.take i ++ [t] from take_more ht, ledAll_snoc]
      generalize hst : ledAll st (ts.take i) = sk at hzs fin
      obtain ⟨D, as⟩ := sk
      obtain ⟨q1, q2, rfl, ht1, ht2⟩ := dpTurn (DpT.keep (Same.kt sm) hdp).dp
      have oi := tok.i
      have oj := tok.j
      have one := tok.ne
      have q0 := tok.nf.pos
      have hD : 0 < D := fin.pos
      have la : as.length = n := fin.len
      have ia : t.1 < as.length := by omega
      have ja : t.2.1 < as.length := by omega
      have lz : zs.length = as.length := by rw [dtAll_len hzs, List.length_map, fr_len]
      obtain ⟨vi, hvi, dvi⟩ := dtAll_get hzs (show ((fr D as).map frD)[t.1]? = some (frD (nf (as.getD t.1 0) D)) by rw [List.getElem?_map, fr_get ia]; rfl)
      obtain ⟨vj, hvj, dvj⟩ := dtAll_get hzs (show ((fr D as).map frD)[t.2.1]? = some (frD (nf (as.getD t.2.1 0) D)) by rw [List.getElem?_map, fr_get ja]; rfl)
      have ni := fin.num _ (getD_mem ia)
      have nj := fin.num _ (getD_mem ja)
      have sfi := fin.sf (getD_mem ia)
      have sfj := fin.sf (getD_mem ja)
      have sS := tok.sf
      have nS := tok.nf.self
      obtain ⟨i', j', p', g'⟩ := t
      simp only [] at *
      have e1 : qsub (1, 1) (p', g') = nf (g' - p') g' := by
        have h := (nf_whole (k := 1) q0).symm
        rw [← nS, h, qsub_nf q0, Int.one_mul]
      have gl : g'.natAbs < 2 ^ 251 ∧ (g' - p').natAbs < 2 ^ 251 ∧ p'.natAbs < 2 ^ 251 := by
        have h1 := tok.p0
        have h2 := tok.pg
        have h3 := tok.g
        simp only [] at h1 h2 h3
        exact ⟨abs_lt (Z := 2 ^ 250) (by omega) (by decide), abs_lt (Z := 2 ^ 250) (by omega) (by decide), abs_lt (Z := 2 ^ 250) (by omega) (by decide)⟩
      have m1 : ∀ a, qmul (p', g') (nf a D) = nf (p' * a) (g' * D) := fun a => by rw [← nS, qmul_nf2 q0 hD]
      have m2 : ∀ a, qmul (nf (g' - p') g') (nf a D) = nf ((g' - p') * a) (g' * D) := fun a => qmul_nf2 q0 hD
      have sR : Sf (nf (g' - p') g') := nf_sf q0 (Nat.lt_of_lt_of_le gl.2.1 (pow_le_pow' (by decide))) (Nat.lt_of_lt_of_le gl.1 (pow_le_pow' (by decide)))
      have sP : ∀ {x y : Int}, x.natAbs < 2 ^ 251 → y.natAbs < 2 ^ 3100 → Sf (nf (x * y) (g' * D)) := fun h1 h2 => nf_sf (Int.mul_pos q0 hD) (mul_lt2 h1 h2 (by decide)) (mul_lt2 gl.1 fin.den (by decide))
      have aa : ∀ x y : Int, qadd (nf x (g' * D)) (nf y (g' * D)) = nf (x + y) (g' * D) := fun x y => qadd_nf (Int.mul_pos q0 hD)
      refine ⟨q1, _, rfl, ht1, rfl, _, _, rfl, _, _, rfl, _, _, rfl, rfl, ?_⟩
      refine ⟨by show 2 ≤ sizeLine; decide, fun T1 hT1 => ?_⟩
      have sa : Same H' (upd H' T1 (.tup [.int 1, .int 1])) := same_upd hT1
      have ea : (upd H' T1 (.tup [.int 1, .int 1])) T1 = some (.tup [.int 1, .int 1]) := upd_same
      generalize upd H' T1 (.tup [.int 1, .int 1]) = Ha at sa ea
      refine ⟨_, rfl, _, _, (1, 1), (p', g'), rfl, mkFrU ea, mkFr (sameT sa ht2), ⟨by decide, by decide, by decide⟩, sS, fun Hb pb sb hb => ?_⟩
      rw [e1] at hb
      have zb := sb _ _ (sa _ _ hz)
      have sab := sa.trans sb
      refine ⟨_, rfl, _, rfl, pn, zs, _, vi, rfl, rfl, SqL.of zb, at_of rfl hvi, ?_⟩
      refine ⟨_, rfl, _, rfl, pn, zs, _, vj, rfl, rfl, SqL.of zb, at_of rfl hvj, ?_⟩
      have s8 : Same Hb Hb := Same.refl _
      have sag := sab
      have zg := zb
      refine ⟨_, _, _, rfl, ?_⟩
      -- left[one]
      refine ⟨_, rfl, _, rfl, _, _, (p', g'), _, rfl, mkFr (sameT sag ht2), Dp.same sag dvi.dp, sS, sfi, fun Hc pc sc' hc => ?_⟩
      rw [m1] at hc
      refine ⟨_, rfl, _, rfl, _, _, _, _, rfl, Dp.same sc' (mkFrU (s8 _ _ hb)), Dp.same (sag.trans sc') dvj.dp, sR, sfj, fun Hd pd sd hd => ?_⟩
      rw [m2] at hd
      refine ⟨_, _, _, _, rfl, Dp.same sd (mkFrU hc), mkFrU hd, sP gl.2.2 ni, sP gl.2.1 nj, fun He pe se he => ?_⟩
      rw [aa] at he
      have sge := (sc'.trans sd).trans se
      have ze := sge _ _ zg
      refine ⟨_, rfl, _, rfl, pn, _, _, i', rfl, rfl, ze, ixN_nat rfl (by omega), ?_⟩
      have ke : KeepT He (upd He pn (.lst (zs.set i' (.ref pe)))) := kt_lst ze
      have zf : (upd He pn (.lst (zs.set i' (.ref pe)))) pn = some (.lst (zs.set i' (.ref pe))) := upd_same
      have smf : Same H (upd He pn (.lst (zs.set i' (.ref pe)))) := same_updN (sm.trans (sag.trans sge)) hpn0
      generalize upd He pn (.lst (zs.set i' (.ref pe))) = Hf at ke zf smf
      have kgf : KeepT Hb Hf := (Same.kt sge).trans ke
      have kaf : KeepT H' Hf := (Same.kt sag).trans kgf
      -- left[two]
      refine ⟨_, rfl, _, rfl, _, _, (p', g'), _, rfl, mkFr (kaf.sqT ht2), (DpT.keep kaf dvj).dp, sS, sfj, fun Hi pi si hi' => ?_⟩
      rw [m1] at hi'
      refine ⟨_, rfl, _, rfl, _, _, _, _, rfl, Dp.same si (DpT.keep kgf (tFrU (s8 _ _ hb))).dp, Dp.same si (DpT.keep kaf dvi).dp, sR, sfi, fun Hj pj sj hj' => ?_⟩
      rw [m2] at hj'
      refine ⟨_, _, _, _, rfl, Dp.same sj (mkFrU hi'), mkFrU hj', sP gl.2.2 nj, sP gl.2.1 ni, fun Hk pk sk hk => ?_⟩
      rw [aa] at hk
      have sfk := (si.trans sj).trans sk
      have zk := sfk _ _ zf
      refine ⟨_, rfl, _, rfl, pn, _, _, j', rfl, rfl, zk, ixN_nat rfl (by rw [List.length_set]; omega), ?_⟩
      have kk : KeepT Hk (upd Hk pn (.lst ((zs.set i' (.ref pe)).set j' (.ref pk)))) := kt_lst zk
      refine ⟨_, _, _, _, _, _, (zs.set i' (.ref pe)).set j' (.ref pk), rfl, same_updN (smf.trans sfk) hpn0, upd_same, ?_⟩
      have efl := fr_led (D := D) (as := as) (t := (i', j', p', g')) hD q0
      rw [efl, List.map_set, List.map_set]
      exact dtAll_set _ (dtAll_set _ (hzs.keep (kaf.trans ((Same.kt sfk).trans kk))) (DpT.keep (ke.trans ((Same.kt sfk).trans kk)) (tFrU he))) (DpT.keep kk (tFrU hk))
    · rintro σ H' ⟨y3, y4, y5, y6, y7, y8, zs, rfl, sm, hz, hzs⟩
      refine ⟨_, rfl, pn, zs, rfl, .inl ⟨SqL.of hz, fun l hl' => ?_⟩⟩
      rw [hly, List.take_length] at hzs
      exact q _ l zs (sm.trans (same_upd hl')) upd_same (hzs.keep (Same.kt (same_upd hl')))
end
end V3
namespace V3
open PySem.Spec PySem L2 PyProof.Rows RZ GxR
theorem share_ok {d u : Int} (h0 : 0 ≤ d) (hd : d ≤ u) (hu : 0 < u) : Nf (nf d u) ∧ 0 ≤ (nf d u).1 ∧ (nf d u).1 ≤ (nf d u).2 ∧ (nf d u).2 ≤ u := by
  have g := gcd_posI (n := d) hu
  refine ⟨nf_Nf hu, Int.ediv_nonneg h0 (Int.le_of_lt g), Int.ediv_le_ediv g hd, Int.ediv_le_self _ (Int.le_of_lt hu)⟩
theorem other_place {o d n : Int} (h0 : 0 ≤ o) (h1 : o < n) (d0 : 0 ≤ d) (d1 : d < n - 1) : (o + 1 + d) % n ≠ o := by
  intro e
  have h := Int.emod_add_mul_ediv (o + 1 + d) n
  rw [e] at h
  have h2 : n * ((o + 1 + d) / n) = 1 + d := by omega
  generalize (o + 1 + d) / n = q at h2
  by_cases c : q ≤ 0
  · have := Int.mul_nonpos_of_nonneg_of_nonpos (show 0 ≤ n by omega) c
    omega
  · have := Int.mul_le_mul_of_nonneg_left (show 1 ≤ q by omega) (show 0 ≤ n by omega)
    omega
section
variable {mg : Str → Option Value} {base : Heap} {K : PySem.W.Frag} {P : Program} {w : World}
abbrev s__law_steps : Stmt := topS 51
abbrev N__law_steps : List Str := ["well", "wide", "found", "turn", "one", "two", "under"]
theorem sc__law_steps : FnScope N__law_steps ["well", "wide"] (defScope s__law_steps) := ⟨rfl, rfl, rfl, by decide +kernel, rfl, by decide +kernel, by decide +kernel⟩
def spSteps (K : PySem.W.Frag) : Sp := fun vs H Q _ => ∃ (a : Addr) (n k : Nat), vs = [.ref a, .int n] ∧ Well H a k ∧ k ≤ 700000 ∧ 1 ≤ n ∧ n ≤ 6 ∧
  ∀ H' p ys (ts : List TurnI), But a H H' → Well H' a (k + 30) → H' p = some (.tup ys) → DpTAll K H' ys (ts.map turnD) → ts.length ≤ 4 → (∀ t ∈ ts, TurnOk n 5 t) → Q (.ref p) H'
theorem ok_steps (T : Gs mg) (D1 : Df P w K mg base "_law_draw" 1 ["well", "limit"] spDraw) (D2 : Df P w K mg base "_law_cut" 1 ["top", "under"] spFraction) (F : At K mg "_law_steps" s__law_steps) :
    Df P w K mg base "_law_steps" 2 ["well", "wide"] (spSteps K) := by
  have sc := sc__law_steps
  refine Df.mk' F sc (fun vs H Q E h => ?_) (fun _ _ _ _ _ _ us hl => match us, hl with | [_, _], _ => rfl) (fun f cdv A outer s H vs Q E hr h => ?_)
  · obtain ⟨a, n, k, rfl, _⟩ := h
    rfl
  · obtain ⟨a, n, k, rfl, hw, kl, n1, n6, q⟩ := h
    refine ⟨_, (pss_cons (ps_set (i := 2) sc.nd rfl (Or.inl rfl) (pe_lst pa_nil))
  (pss_cons (ps_for PassesOwn.never rfl (pi_range1 rfl T.range (pa_cons (pe_ifExp (pt_cmpR op_gt (pv 1) pe_int (nomark _)) (pe_fn D1 (by decide) hr (pa_cons (pv 0) (pa_cons pe_int pa_nil))) pe_int) pa_nil)) (pg_name (i := 3) sc.nd rfl (Or.inl rfl))
   (pss_cons (ps_set (i := 4) sc.nd rfl (Or.inl rfl) (pe_fn D1 (by decide) hr (pa_cons (pv 0) (pa_cons (pv 1) pa_nil))))
  (pss_cons (ps_set (i := 5) sc.nd rfl (Or.inl rfl) (pe_op op_mod (pe_callTy call_int1 (by rfl) T.int_ (by decide +kernel) (pa_cons (pe_op op_add (pe_op op_add (pv 4) pe_int) (pe_fn D1 (by decide) hr (pa_cons (pv 0) (pa_cons (pe_op op_sub (pv 1) pe_int) pa_nil)))) pa_nil)) (pv 1)))
  (pss_cons (ps_set (i := 6) sc.nd rfl (Or.inl rfl) (pe_op op_add pe_int (pe_fn D1 (by decide) hr (pa_cons (pv 0) (pa_cons pe_int pa_nil)))))
  (pss_one (ps_expr (pe_bm PySem.F.plainAttrs_list PySem.F.slot_list_append PySem.F.type_list_append mt_append (pv 2) (pa_cons (pe_tup (pa_cons (pv 4) (pa_cons (pv 5) (pa_cons (pe_fn D2 (by decide) hr (pa_cons (pe_fn D1 (by decide) hr (pa_cons (pv 0) (pa_cons (pe_op op_add (pv 6) pe_int) pa_nil))) (pa_cons (pv 6) pa_nil))) pa_nil)))) pa_nil))))))))
  (pss_one (ps_ret (pe_callTy call_tuple_of (by rfl) T.tuple_ (by decide +kernel) (pa_cons (pv 2) pa_nil)))))), ?_⟩
    refine ⟨by show 0 ≤ sizeLine; decide, fun pf hpf0 => ?_⟩
    have hne : a ≠ pf := fun e => by
      obtain ⟨xs, hx⟩ := hw.lst
      rw [e, hpf0] at hx
      cases hx
    have s0 : Same H (upd H pf (.lst [])) := same_upd hpf0
    have fin : ∀ (k' : Nat) (H1 : Hp) (zs : List V) (ts : List TurnI), But a H H1 → Well H1 a k' → k' ≤ k + 30 → H1 pf = some (.lst zs) → DpTAll K H1 zs (ts.map turnD) → ts.length ≤ 4 → (∀ t ∈ ts, TurnOk n 5 t) → ∀ l, H1 l = none → Q (.ref l) (upd H1 l (.tup zs)) :=
      fun k' H1 zs ts b1 w1 hk hz hzs hl hok l hl' => q _ l zs ts (b1.trans (Same.but (same_upd hl'))) ((w1.same (same_upd hl')).mono hk) upd_same (hzs.keep (Same.kt (same_upd hl'))) hl hok
    by_cases c1 : n = 1
    · subst c1
      refine ⟨_, rfl, _, _, rfl, rfl, _, rfl, ifF (by decide) ?_⟩
      refine ⟨_, rfl, by decide, by decide, for_range (lo := 0) (n := (0 : Int).toNat) (fun i σ H' => σ = [some (.ref a), some (.int (1 : Nat)), some (.ref pf), none, none, none, none] ∧ H' = upd H pf (.lst [])) ⟨rfl, rfl⟩ (fun i σ H' hi => absurd hi (Nat.not_lt_zero _)) ?_⟩
      rintro σ H1 ⟨rfl, rfl⟩
      exact ⟨_, rfl, pf, [], rfl, .inl ⟨SqL.of upd_same, fin k _ [] [] (Same.but s0) (hw.same s0) (by omega) upd_same .nil (by decide) (fun t ht => by cases ht)⟩⟩
    · refine ⟨_, rfl, _, _, rfl, rfl, _, rfl, ifT (decide_eq_true (by omega)) ?_⟩
      refine ⟨_, rfl, a, _, k, rfl, hw.same s0, by omega, by decide, by decide, fun H0 m b0 w0 m0 ml => ?_⟩
      have hz0 : H0 pf = some (.lst []) := b0 _ _ (Ne.symm hne) upd_same
      refine ⟨_, rfl, by omega, by omega, for_range (lo := 0) (n := m.toNat) (fun i σ H' => ∃ (y3 y4 y5 y6 : Option V) (zs : List V) (ts : List TurnI), σ = [some (.ref a), some (.int n), some (.ref pf), y3, y4, y5, y6] ∧ But a H H' ∧ Well H' a (k + 1 + 4 * i) ∧ H' pf = some (.lst zs) ∧
        DpTAll K H' zs (ts.map turnD) ∧ ts.length = i ∧ ∀ t ∈ ts, TurnOk n 5 t) ⟨_, _, _, _, [], [], rfl, (Same.but s0).trans b0, w0, hz0, .nil, rfl, fun t ht => by cases ht⟩ ?_ ?_⟩
      · rintro i σ H1 hi ⟨y3, y4, y5, y6, zs, ts, rfl, b1, w1, hz, hzs, htl, hts⟩
        have hi4 : i < 4 := by omega
        have lz : zs.length = i := by rw [dtAll_len hzs, List.length_map, htl]
        refine ⟨_, rfl, _, rfl, a, n, k + 1 + 4 * i, rfl, w1, by omega, by omega, by omega, fun H2 d1 b2 w2 d10 d1l => ?_⟩
        refine ⟨_, rfl, _, _, rfl, rfl, _, rfl, _, rfl, _, _, rfl, rfl, ?_⟩
        refine ⟨a, _, k + 1 + 4 * i + 1, rfl, w2, by omega, by omega, by omega, fun H3 d2 b3 w3 d20 d2l => ?_⟩
        refine ⟨_, _, rfl, rfl, .inl ⟨_, rfl, _, rfl, _, _, rfl, rfl, by show (0 : Int) < n; omega, ?_⟩⟩
        refine ⟨_, rfl, a, _, k + 1 + 4 * i + 2, rfl, w3, by omega, by decide, by decide, fun H4 d3 b4 w4 d30 d3l => ?_⟩
        have b14 := (b2.trans b3).trans b4
        have hz4 : H4 pf = some (.lst zs) := b14 _ _ (Ne.symm hne) hz
        have hzs4 := hzs.keep (b14.ktW w1)
        have e0 : 0 ≤ (d1 + 1 + d2) % (n : Int) := Int.emod_nonneg _ (by omega)
        have e1 : (d1 + 1 + d2) % (n : Int) < n := Int.emod_lt_of_pos _ (by omega)
        have e2 := other_place d10 d1l d20 d2l
        refine ⟨_, _, rfl, rfl, ?_⟩
        refine ⟨_, rfl, .inl ⟨rfl, _, SqL.of hz4⟩, _, rfl, _, rfl, _, rfl, _, rfl, _, _, rfl, rfl, a, _, k + 1 + 4 * i + 3, rfl, w4, by omega, by omega, by omega, fun H5 d4 b5 w5 d40 d4l => ?_⟩
        refine ⟨_, rfl, _, _, rfl, by omega, sz_small (by omega) (by omega), fun H6 p6 s6 hp6 => ?_⟩
        refine ⟨by show 3 ≤ sizeLine; decide, fun p7 hp7 => ?_⟩
        have hz5 : H5 pf = some (.lst zs) := b5 _ _ (Ne.symm hne) hz4
        have hzs5 := hzs4.keep (b5.ktW w4)
        obtain ⟨i1, hi1⟩ : ∃ i1 : Nat, d1 = i1 := ⟨d1.toNat, by omega⟩
        obtain ⟨i2, hi2⟩ : ∃ i2 : Nat, (d1 + 1 + d2) % (n : Int) = i2 := ⟨((d1 + 1 + d2) % (n : Int)).toNat, by omega⟩
        have s7 : Same H5 (upd H6 p7 (.tup [.int d1, .int ((d1 + 1 + d2) % (n : Int)), .ref p6])) := s6.trans (same_upd hp7)
        have e7 : (upd H6 p7 (.tup [.int d1, .int ((d1 + 1 + d2) % (n : Int)), .ref p6])) p7 = some (.tup [.int i1, .int i2, .ref p6]) := by rw [upd_same, hi2, hi1]
        have e6 : (upd H6 p7 (.tup [.int d1, .int ((d1 + 1 + d2) % (n : Int)), .ref p6])) p6 = some (.tup [.int (nf d4 (1 + d3)).1, .int (nf d4 (1 + d3)).2]) := by
          rw [upd_ne (ne_of_none hp6 hp7)]
          exact hp6
        have dt : DpT K (upd H6 p7 (.tup [.int d1, .int ((d1 + 1 + d2) % (n : Int)), .ref p6])) (.ref p7) (turnD (i1, i2, nf d4 (1 + d3))) := tTurn e7 e6
        have hz7 := s7 _ _ hz5
        refine ⟨pf, zs, _, rfl, rfl, hz7, small1000 (by omega), ?_⟩
        generalize upd H6 p7 (.tup [.int d1, .int ((d1 + 1 + d2) % (n : Int)), .ref p6]) = H7 at s7 dt hz7
        obtain ⟨h1, h2, h3, h4⟩ := share_ok d40 (show d4 ≤ 1 + d3 by omega) (by omega)
        refine ⟨_, _, _, _, zs ++ [_], ts ++ [(i1, i2, nf d4 (1 + d3))], rfl, But.updN ((b1.trans (b14.trans b5)).trans (Same.but s7)) hpf0, ?_, upd_same, ?_, by rw [List.length_append, htl]; rfl, fun t ht => ?_⟩
        · obtain ⟨x1, x2, x3, x4, x5⟩ := (w5.same s7).mono (show k + 1 + 4 * i + 3 + 1 ≤ k + 1 + 4 * (i + 1) by omega)
          exact ⟨x1, x2, x3, by rw [upd_ne hne]; exact x4, x5⟩
        · rw [List.map_append]
          exact dtAll_app ((hzs5.keep (Same.kt s7)).keep (kt_lst hz7)) (.cons (DpT.keep (kt_lst hz7) dt) .nil)
        · rcases List.mem_append.mp ht with h | h
          · exact hts t h
          · rw [List.mem_singleton.mp h]
            exact ⟨by show i1 < n; omega, by show i2 < n; omega, by show i1 ≠ i2; omega, h1, h2, h3, by show (nf d4 (1 + d3)).2 ≤ 5; omega⟩
      · rintro σ H1 ⟨y3, y4, y5, y6, zs, ts, rfl, b1, w1, hz, hzs, htl, hts⟩
        exact ⟨_, rfl, pf, zs, rfl, .inl ⟨SqL.of hz, fin _ H1 zs ts b1 w1 (by omega) hz hzs (by omega) hts⟩⟩
end
end V3
namespace V3
open PySem.Spec PySem L2 PyProof.Rows RZ GxR
structure ByOk (b : Fr) : Prop where
  den : b.2 = 1 ∨ b.2 = 2 ∨ b.2 = 1000
  lo : -2 ≤ b.1
  hi : b.1 ≤ 2
theorem ByOk.nf {b : Fr} (h : ByOk b) (h1 : Nf b) {D : Int} (hD : 0 < D) : ∃ c, b = nf c (1000 * D) ∧ c ≤ 2 * (1000 * D) ∧ -(2 * (1000 * D)) ≤ c := by
  have e : ∃ m : Int, 1000 = b.2 * m ∧ 1 ≤ m ∧ m ≤ 1000 := by
    rcases h.den with e | e | e
    · exact ⟨1000, by rw [e]; rfl, by decide, by decide⟩
    · exact ⟨500, by rw [e]; rfl, by decide, by decide⟩
    · exact ⟨1, by rw [e]; rfl, by decide, by decide⟩
  obtain ⟨m, hm, m1, m2⟩ := e
  have e2 : b.1 * m ≤ 2 * 1000 ∧ -(2 * 1000) ≤ b.1 * m := by
    have a1 := Int.mul_le_mul_of_nonneg_right h.hi (show 0 ≤ m by omega)
    have a2 := Int.mul_le_mul_of_nonneg_right h.lo (show 0 ≤ m by omega)
    omega
  refine ⟨b.1 * m * D, ?_, ?_, ?_⟩
  · have h2 := h1.self
    refine h2.symm.trans (nf_eq h1.pos (Int.mul_pos (by decide) hD) ?_)
    rw [hm]
    grind
  · have := Int.mul_le_mul_of_nonneg_right e2.1 (Int.le_of_lt hD)
    rw [Int.mul_assoc 2 1000 D] at this
    exact this
  · have := Int.mul_le_mul_of_nonneg_right e2.2 (Int.le_of_lt hD)
    rw [Int.neg_mul, Int.mul_assoc 2 1000 D] at this
    exact this
theorem fr_set {D : Int} {as : List Int} {i : Nat} {a : Int} : (fr D as).set i (nf a D) = fr D (as.set i a) := by
  unfold fr
  rw [List.map_set]
theorem fr_up {D k : Int} {as : List Int} (hD : 0 < D) (hk : 0 < k) : fr D as = fr (k * D) (as.map (k * ·)) := by
  unfold fr
  rw [List.map_map]
  refine List.map_congr_left fun a _ => ?_
  exact (nf_scale hD hk).symm
theorem led_sf {n : Nat} {D : Int} {as : List Int} (hD : 0 < D) (dl : D ≤ 2 ^ 170) {c : Int} (h : c ≤ 2 ^ 22 * D ∧ -(2 ^ 22 * D) ≤ c) : Sf (nf c D) := by
  have h1 : 2 ^ 22 * D ≤ 2 ^ 192 := by
    have := Int.mul_le_mul_of_nonneg_left dl (show (0 : Int) ≤ 2 ^ 22 by decide)
    rw [← Int.pow_add] at this
    exact this
  exact nf_sf hD (abs_lt h (Int.lt_of_le_of_lt h1 (by decide +kernel))) (abs_lt (Z := 2 ^ 170) (by omega) (by decide +kernel))
section
variable {mg : Str → Option Value} {base : Heap} {K : PySem.W.Frag} {P : Program} {w : World}
abbrev s__law_slid : Stmt := topS 55
abbrev N__law_slid : List Str := ["well", "slant", "found", "one", "two", "by"]
theorem sc__law_slid : FnScope N__law_slid ["well", "slant"] (defScope s__law_slid) := ⟨rfl, rfl, rfl, by decide +kernel, rfl, by decide +kernel, by decide +kernel⟩
def spSlid (K : PySem.W.Frag) : Sp := fun vs H Q _ => ∃ (a : Addr) (v : V) (n k : Nat) (D : Int) (as : List Int), vs = [.ref a, v] ∧ Well H a k ∧ k ≤ 700000 ∧ DpT K H v (rowD (fr D as)) ∧ 1 ≤ n ∧ n ≤ 6 ∧ Led n (2 ^ 20) (2 ^ 160) (D, as) ∧
  ∀ H' p ys bs, But a H H' → Well H' a (k + 4) → H' p = some (.tup ys) → DpTAll K H' ys ((fr (1000 * D) bs).map frD) → Led n (2 ^ 21) (2 ^ 170) (1000 * D, bs) → Q (.ref p) H'
theorem ok_slid (T : Gs mg) (D1 : Df P w K mg base "_law_draw" 1 ["well", "limit"] spDraw) (D2 : Df P w K mg base "_law_pick" 2 ["well", "some"] (spPick K)) (D3 : Df P w K mg base "_law_add" 2 ["one", "two"] (spF2 K qadd)) (D4 : Df P w K mg base "_law_sub" 2 ["one", "two"] (spF2 K qsub)) (F : At K mg "_law_slid" s__law_slid) :
    Df P w K mg base "_law_slid" 3 ["well", "slant"] (spSlid K) := by
  have sc := sc__law_slid
  refine Df.mk' F sc (fun vs H Q E h => ?_) (fun _ _ _ _ _ _ us hl => match us, hl with | [_, _], _ => rfl) (fun f cdv A outer s H vs Q E hr h => ?_)
  · obtain ⟨a, v, n, k, D, as, rfl, _⟩ := h
    rfl
  · obtain ⟨a, v, n, k, D, as, rfl, hw, kl, hv, n1, n6, led, q⟩ := h
    obtain ⟨pa, xs, rfl, hp, hA⟩ := dtTup hv
    have hl : xs.length = n := by rw [dtAll_len hA, List.length_map, fr_len, led.len]
    refine ⟨_, (pss_cons (ps_set (i := 2) sc.nd rfl (Or.inl rfl) (pe_callTy call_list_of (by rfl) T.list_ (by decide +kernel) (pa_cons (pv 1) pa_nil)))
  (pss_cons (ps_par (i := 3) (j := 4) rfl sc.nd rfl rfl (by decide) rfl rfl (pa_cons (pe_fn D1 (by decide) hr (pa_cons (pv 0) (pa_cons (pe_callB call_len_seq (by rfl) T.len PySem.boot_len (pa_cons (pv 2) pa_nil)) pa_nil))) (pa_cons (pe_fn D1 (by decide) hr (pa_cons (pv 0) (pa_cons (pe_callB call_len_seq (by rfl) T.len PySem.boot_len (pa_cons (pv 2) pa_nil)) pa_nil))) pa_nil)) (by rfl))
  (pss_cons (ps_set (i := 5) sc.nd rfl (Or.inl rfl) (pe_fn D2 (by decide) hr (pa_cons (pv 0) (pa_cons (pe_tup (pa_cons (pe_tup (pa_cons pe_int (pa_cons pe_int pa_nil))) (pa_cons (pe_tup (pa_cons pe_int (pa_cons pe_int pa_nil))) (pa_cons (pe_tup (pa_cons (pe_un un_neg pe_int) (pa_cons pe_int pa_nil))) (pa_cons (pe_tup (pa_cons pe_int (pa_cons pe_int pa_nil))) (pa_cons (pe_tup (pa_cons pe_int (pa_cons pe_int pa_nil))) pa_nil)))))) pa_nil))))
  (pss_cons (ps_asg (pe_fn D3 (by decide) hr (pa_cons (pe_ix ix_list (pv 2) (pv 3) (fun _ _ => rfl)) (pa_cons (pv 5) pa_nil))) (pg_sub (pv 2) (pv 3) set_list))
  (pss_cons (ps_if (PW.pt (pw_or (pt_cmpR op_ne (pv 3) (pv 4) (nomark _)) (pw_or1 (pt_cmpR op_eq (pe_fn D1 (by decide) hr (pa_cons (pv 0) (pa_cons pe_int pa_nil))) pe_int (nomark _)))))
   (pss_one (ps_asg (pe_fn D4 (by decide) hr (pa_cons (pe_ix ix_list (pv 2) (pv 4) (fun _ _ => rfl)) (pa_cons (pv 5) pa_nil))) (pg_sub (pv 2) (pv 4) set_list)))
   pss_nil)
  (pss_one (ps_ret (pe_callTy call_tuple_of (by rfl) T.tuple_ (by decide +kernel) (pa_cons (pv 2) pa_nil))))))))), ?_⟩
    refine ⟨_, rfl, pa, xs, rfl, .inr hp, fun pn hpn0 => ?_⟩
    have hne : a ≠ pn := fun e => by
      obtain ⟨xs, hx⟩ := hw.lst
      rw [e, hpn0] at hx
      cases hx
    have s0 : Same H (upd H pn (.lst xs)) := same_upd hpn0
    have hz0 : (upd H pn (.lst xs)) pn = some (.lst xs) := upd_same
    generalize upd H pn (.lst xs) = H0 at s0 hz0
    have w0 := hw.same s0
    refine ⟨_, rfl, _, rfl, pn, _, rfl, .inl (SqL.of hz0), a, _, k, rfl, w0, by omega, by omega, by omega, fun H1 d1 b1 w1 d10 d1l => ?_⟩
    have hz1 : H1 pn = some (.lst xs) := b1 _ _ (Ne.symm hne) hz0
    refine ⟨_, rfl, _, rfl, pn, _, rfl, .inl (SqL.of hz1), a, _, k + 1, rfl, w1, by omega, by omega, by omega, fun H2 d2 b2 w2 d20 d2l => ?_⟩
    have hz2 : H2 pn = some (.lst xs) := b2 _ _ (Ne.symm hne) hz1
    rw [hl] at d1l d2l
    obtain ⟨i, rfl⟩ : ∃ i : Nat, d1 = i := ⟨d1.toNat, by omega⟩
    obtain ⟨j, rfl⟩ : ∃ j : Nat, d2 = j := ⟨d2.toNat, by omega⟩
    refine ⟨_, _, rfl, _, rfl, ?_⟩
    refine ⟨by show 2 ≤ sizeLine; decide, fun T1 hT1 => ?_⟩
    have st1 : Same H2 (upd H2 T1 (.tup [.int 1, .int 1])) := same_upd hT1
    have et1 : (upd H2 T1 (.tup [.int 1, .int 1])) T1 = some (.tup [.int 1, .int 1]) := upd_same
    generalize upd H2 T1 (.tup [.int 1, .int 1]) = G1 at st1 et1
    refine ⟨by show 2 ≤ sizeLine; decide, fun T2 hT2 => ?_⟩
    have st2 : Same G1 (upd G1 T2 (.tup [.int 1, .int 2])) := same_upd hT2
    have et2 : (upd G1 T2 (.tup [.int 1, .int 2])) T2 = some (.tup [.int 1, .int 2]) := upd_same
    generalize upd G1 T2 (.tup [.int 1, .int 2]) = G2 at st2 et2
    refine ⟨_, rfl, by show 2 ≤ sizeLine; decide, fun T3 hT3 => ?_⟩
    have st3 : Same G2 (upd G2 T3 (.tup [.int (-1), .int 1])) := same_upd hT3
    have et3 : (upd G2 T3 (.tup [.int (-1), .int 1])) T3 = some (.tup [.int (-1), .int 1]) := upd_same
    generalize upd G2 T3 (.tup [.int (-1), .int 1]) = G3 at st3 et3
    refine ⟨by show 2 ≤ sizeLine; decide, fun T4 hT4 => ?_⟩
    have st4 : Same G3 (upd G3 T4 (.tup [.int 2, .int 1])) := same_upd hT4
    have et4 : (upd G3 T4 (.tup [.int 2, .int 1])) T4 = some (.tup [.int 2, .int 1]) := upd_same
    generalize upd G3 T4 (.tup [.int 2, .int 1]) = G4 at st4 et4
    refine ⟨by show 2 ≤ sizeLine; decide, fun T5 hT5 => ?_⟩
    have st5 : Same G4 (upd G4 T5 (.tup [.int 1, .int 1000])) := same_upd hT5
    have et5 : (upd G4 T5 (.tup [.int 1, .int 1000])) T5 = some (.tup [.int 1, .int 1000]) := upd_same
    generalize upd G4 T5 (.tup [.int 1, .int 1000]) = G5 at st5 et5
    refine ⟨by show 5 ≤ sizeLine; decide, fun T6 hT6 => ?_⟩
    have st6 : Same G5 (upd G5 T6 (.tup [.ref T1, .ref T2, .ref T3, .ref T4, .ref T5])) := same_upd hT6
    have et6 : (upd G5 T6 (.tup [.ref T1, .ref T2, .ref T3, .ref T4, .ref T5])) T6 = some (.tup [.ref T1, .ref T2, .ref T3, .ref T4, .ref T5]) := upd_same
    generalize upd G5 T6 (.tup [.ref T1, .ref T2, .ref T3, .ref T4, .ref T5]) = G6 at st6 et6
    have s26 : Same H2 G6 := ((((st1.trans st2).trans st3).trans st4).trans st5).trans st6
    refine ⟨a, T6, _, k + 2, rfl, w2.same s26, by omega, SqT.of et6, Nat.succ_pos _, by show 5 ≤ 1000; decide, fun H3 ix x b3 w3 hx => ?_⟩
    have k63 : KeepT G6 H3 := b3.ktW (w2.same s26)
    have hby : ∃ b : Fr, DpT K H3 x (frD b) ∧ ByOk b ∧ Nf b := by
      have hm := List.mem_of_getElem? hx
      (simp only [List.mem_cons, List.not_mem_nil, or_false] at hm)
      rcases hm with rfl | rfl | rfl | rfl | rfl
      · exact ⟨(1, 1), DpT.keep ((Same.kt ((((st2.trans st3).trans st4).trans st5).trans st6)).trans k63) (tFrU et1), ⟨by decide, by decide, by decide⟩, ⟨by decide, by decide⟩⟩
      · exact ⟨(1, 2), DpT.keep ((Same.kt (((st3.trans st4).trans st5).trans st6)).trans k63) (tFrU et2), ⟨by decide, by decide, by decide⟩, ⟨by decide, by decide⟩⟩
      · exact ⟨(-1, 1), DpT.keep ((Same.kt ((st4.trans st5).trans st6)).trans k63) (tFrU et3), ⟨by decide, by decide, by decide⟩, ⟨by decide, by decide⟩⟩
      · exact ⟨(2, 1), DpT.keep ((Same.kt (st5.trans st6)).trans k63) (tFrU et4), ⟨by decide, by decide, by decide⟩, ⟨by decide, by decide⟩⟩
      · exact ⟨(1, 1000), DpT.keep ((Same.kt st6).trans k63) (tFrU et5), ⟨by decide, by decide, by decide⟩, ⟨by decide, by decide⟩⟩
    obtain ⟨b, hb, bok, bnf⟩ := hby
    have hD : 0 < D := led.pos
    have hE : 0 < 1000 * D := Int.mul_pos (by decide) hD
    obtain ⟨c, ec, c1, c2⟩ := bok.nf bnf hD
    have Dl : D ≤ 2 ^ 160 := led.le
    have El : 1000 * D ≤ 2 ^ 170 := by omega
    have fup := fr_up (as := as) hD (show (0 : Int) < 1000 by decide)
    have la : as.length = n := led.len
    obtain ⟨es, hes⟩ : ∃ es, es = as.map (1000 * ·) := ⟨_, rfl⟩
    rw [← hes] at fup
    have le : es.length = n := by rw [hes, List.length_map, la]
    have eb : ∀ z ∈ es, z ≤ 2 ^ 20 * (1000 * D) ∧ -(2 ^ 20 * (1000 * D)) ≤ z := fun z hz => by
      rw [hes] at hz
      obtain ⟨a0, ha0, rfl⟩ := List.mem_map.mp hz
      have m := led.num a0 ha0
      simp only [] at m
      omega
    have hz3 : H3 pn = some (.lst xs) := b3 _ _ (Ne.symm hne) (s26 _ _ hz2)
    have b03 : But a H0 H3 := ((b1.trans b2).trans (Same.but s26)).trans b3
    have hA3 : DpTAll K H3 xs ((fr (1000 * D) es).map frD) := by
      rw [← fup]
      exact (hA.keep (Same.kt s0)).keep (b03.ktW w0)
    have bH3 : But a H H3 := (Same.but s0).trans b03
    have sfz : ∀ z : Int, z ≤ 2 ^ 22 * (1000 * D) ∧ -(2 ^ 22 * (1000 * D)) ≤ z → Sf (nf z (1000 * D)) := fun z hz => led_sf (n := n) (as := as) hE El hz
    generalize 1000 * D = E0 at *
    have ie : i < es.length := by omega
    have je : j < es.length := by omega
    have ixs : i < xs.length := by omega
    obtain ⟨vi, hvi, dvi⟩ := dtAll_get hA3 (show ((fr E0 es).map frD)[i]? = some (frD (nf (es.getD i 0) E0)) by rw [List.getElem?_map, fr_get ie]; rfl)
    have bi := eb _ (getD_mem ie)
    -- found[one] = _law_add(found[one], by)
    refine ⟨_, rfl, _, rfl, pn, xs, _, vi, rfl, rfl, SqL.of hz3, at_of rfl hvi, ?_⟩
    refine ⟨_, rfl, _, _, _, b, rfl, dvi.dp, hb.dp, sfz _ (by omega), by rw [ec]; exact sfz c (by omega), fun H4 p4 s4 h4 => ?_⟩
    rw [ec, qadd_nf hE] at h4
    have hz4 := s4 _ _ hz3
    refine ⟨_, rfl, _, rfl, pn, _, _, i, rfl, rfl, hz4, ixN_nat rfl (by omega), ?_⟩
    have k5 : KeepT H4 (upd H4 pn (.lst (xs.set i (.ref p4)))) := kt_lst hz4
    have hz5 : (upd H4 pn (.lst (xs.set i (.ref p4)))) pn = some (.lst (xs.set i (.ref p4))) := upd_same
    have bH5 : But a H (upd H4 pn (.lst (xs.set i (.ref p4)))) := But.updN (bH3.trans (Same.but s4)) hpn0
    have w5 : Well (upd H4 pn (.lst (xs.set i (.ref p4)))) a (k + 3) := by
      obtain ⟨x1, x2, x3, x4, x5⟩ := w3.same s4
      exact ⟨x1, x2, x3, by rw [upd_ne hne]; exact x4, x5⟩
    generalize upd H4 pn (.lst (xs.set i (.ref p4))) = H5 at k5 hz5 bH5 w5
    have k35 : KeepT H3 H5 := (Same.kt s4).trans k5
    obtain ⟨e1, he1⟩ : ∃ e1, e1 = es.set i (es.getD i 0 + c) := ⟨_, rfl⟩
    have hA5 : DpTAll K H5 (xs.set i (.ref p4)) ((fr E0 e1).map frD) := by
      rw [he1, ← fr_set, List.map_set]
      exact dtAll_set _ (hA3.keep k35) (DpT.keep k5 (tFrU h4))
    have le1 : e1.length = n := by rw [he1, List.length_set, le]
    have eb1 : ∀ z ∈ e1, z ≤ (2 ^ 20 + 2) * E0 ∧ -((2 ^ 20 + 2) * E0) ≤ z := fun z hz => by
      rw [he1] at hz
      rcases List.mem_or_eq_of_mem_set hz with h | h
      · have := eb z h
        omega
      · rw [h]
        omega
    have lx5 : (xs.set i (V.ref p4)).length = n := by rw [List.length_set, hl]
    have fin : ∀ (k' : Nat) (H6 : Hp) (zs : List V) (e2 : List Int), But a H H6 → Well H6 a k' → k' ≤ k + 4 → DpTAll K H6 zs ((fr E0 e2).map frD) → e2.length = n → (∀ z ∈ e2, z ≤ (2 ^ 20 + 4) * E0 ∧ -((2 ^ 20 + 4) * E0) ≤ z) → ∀ l, H6 l = none → Q (.ref l) (upd H6 l (.tup zs)) :=
      fun k' H6 zs e2 b6 w6 hk hzs hl2 hbd l hl' => q _ l zs e2 (b6.trans (Same.but (same_upd hl'))) ((w6.same (same_upd hl')).mono hk) upd_same (hzs.keep (Same.kt (same_upd hl'))) ⟨hl2, hE, El, fun z hz => by
        have := hbd z hz
        simp only []
        omega⟩
    generalize xs.set i (.ref p4) = x5 at hz5 hA5 lx5
    have je1 : j < e1.length := by omega
    obtain ⟨vj, hvj, dvj⟩ := dtAll_get hA5 (show ((fr E0 e1).map frD)[j]? = some (frD (nf (e1.getD j 0) E0)) by rw [List.getElem?_map, fr_get je1]; rfl)
    have bj := eb1 _ (getD_mem je1)
    refine ⟨_, rfl, _, rfl, rfl, _, rfl, if2 (fun e => ?_) (fun e => ?_)⟩
    · refine ⟨_, rfl, _, rfl, pn, x5, _, vj, rfl, rfl, SqL.of hz5, at_of rfl hvj, ?_⟩
      refine ⟨_, rfl, _, _, _, b, rfl, (DpT.keep (KeepT.refl H5) dvj).dp, (DpT.keep (k35.trans (KeepT.refl H5)) hb).dp, sfz _ (by omega), by rw [ec]; exact sfz c (by omega), fun H7 p7 s7 h7 => ?_⟩
      rw [ec, qsub_nf hE] at h7
      have hz7 := s7 _ _ hz5
      refine ⟨_, rfl, _, rfl, pn, _, _, j, rfl, rfl, hz7, ixN_nat rfl (by omega), ?_⟩
      refine ⟨_, rfl, pn, _, rfl, .inl ⟨SqL.of upd_same, fin (k + 3) _ (x5.set j (.ref p7)) (e1.set j (e1.getD j 0 - c)) (But.updN (bH5.trans (Same.but s7)) hpn0) ?_ (by omega) ?_ (by rw [List.length_set, le1]) fun z hz => ?_⟩⟩
      · obtain ⟨x1, x2, x3, x4, x5'⟩ := w5.same s7
        exact ⟨x1, x2, x3, by rw [upd_ne hne]; exact x4, x5'⟩
      · rw [← fr_set, List.map_set]
        exact dtAll_set _ (hA5.keep ((KeepT.refl H5).trans ((Same.kt s7).trans (kt_lst hz7)))) (DpT.keep (kt_lst hz7) (tFrU h7))
      · rcases List.mem_or_eq_of_mem_set hz with h | h
        · have := eb1 z h
          omega
        · rw [h]
          omega
    · refine ⟨_, rfl, a, _, k + 3, rfl, w5, by omega, by decide, by decide, fun H6 d b6 w6 d0 dl => ?_⟩
      have hz6 : H6 pn = some (.lst x5) := b6 _ _ (Ne.symm hne) hz5
      have k56 := b6.ktW w5
      refine ⟨rfl, _, rfl, if2 (fun e2 => ?_) (fun e2 => ?_)⟩
      · refine ⟨_, rfl, _, rfl, pn, x5, _, vj, rfl, rfl, SqL.of hz6, at_of rfl hvj, ?_⟩
        refine ⟨_, rfl, _, _, _, b, rfl, (DpT.keep k56 dvj).dp, (DpT.keep (k35.trans k56) hb).dp, sfz _ (by omega), by rw [ec]; exact sfz c (by omega), fun H7 p7 s7 h7 => ?_⟩
        rw [ec, qsub_nf hE] at h7
        have hz7 := s7 _ _ hz6
        refine ⟨_, rfl, _, rfl, pn, _, _, j, rfl, rfl, hz7, ixN_nat rfl (by omega), ?_⟩
        refine ⟨_, rfl, pn, _, rfl, .inl ⟨SqL.of upd_same, fin (k + 4) _ (x5.set j (.ref p7)) (e1.set j (e1.getD j 0 - c)) (But.updN ((bH5.trans b6).trans (Same.but s7)) hpn0) ?_ (by omega) ?_ (by rw [List.length_set, le1]) fun z hz => ?_⟩⟩
        · obtain ⟨x1, x2, x3, x4, x5'⟩ := w6.same s7
          exact ⟨x1, x2, x3, by rw [upd_ne hne]; exact x4, x5'⟩
        · rw [← fr_set, List.map_set]
          exact dtAll_set _ (hA5.keep (k56.trans ((Same.kt s7).trans (kt_lst hz7)))) (DpT.keep (kt_lst hz7) (tFrU h7))
        · rcases List.mem_or_eq_of_mem_set hz with h | h
          · have := eb1 z h
            omega
          · rw [h]
            omega
      · exact ⟨_, rfl, pn, _, rfl, .inl ⟨SqL.of hz6, fin (k + 4) _ x5 e1 (bH5.trans b6) w6 (by omega) (hA5.keep k56) le1 fun z hz => by
          have := eb1 z hz
          omega⟩⟩
end
end V3
namespace V3
open PySem.Spec PySem L2 PyProof.Rows RZ GxR
theorem lc_zipL {K : PySem.W.Frag} {a b : Addr} {xs₀ ys₀ : List V} {g : TG} {tt₀ : TT} {te₀ : TE} {vs₀ : List Nat} {σ : L2.St} {H1 : Hp} {D : Addr} {Qd₀ : Hp → Prop} (hl₀ : xs₀.length = ys₀.length) (Pv₀ : Nat → Hp → Prop) (h0₀ : Pv₀ 0 (upd H1 D (.lst []))) (hq₀ : ∀ i H, Pv₀ i H → SqL K H a xs₀ ∧ SqL K H b ys₀)
    (hs₀ : ∀ (i : Nat) (x y : V) (T : Addr) (H : Hp), xs₀[i]? = some x → ys₀[i]? = some y → Pv₀ i H → H T = none → g (.ref T) (wipe σ vs₀) (upd H T (.tup [x, y])) fun σ2₀ H2 => wipe σ2₀ vs₀ = wipe σ vs₀ ∧ tt₀ σ2₀ H2 fun b H3₀ =>
      if b = true then te₀ σ2₀ H3₀ fun y H4₀ => ∃ acc₀, H4₀ D = some (.lst acc₀) ∧ acc₀.length < sizeLine ∧ Pv₀ (i + 1) (upd H4₀ D (.lst (acc₀ ++ [y]))) else Pv₀ (i + 1) H3₀) (hd₀ : ∀ H, Pv₀ xs₀.length H → Qd₀ H) :
    ∃ Way : Nat → Nat → Hp → Prop, (∃ m, Way 0 m (upd H1 D (.lst []))) ∧ ∀ i m H, Way i m H →
      ((Itz K a b).stop i H ∧ Qd₀ H) ∨ ((Itz K a b).go i H ∧ ∃ Nx₀ : Hp → Prop, (∀ H', Nx₀ H' → ∃ m', m' < m ∧ Way (i + 1) m' H') ∧ ∀ x H', (Itz K a b).yld i H x H' → g x (wipe σ vs₀) H' fun σ2₀ H2 => wipe σ2₀ vs₀ = wipe σ vs₀ ∧ tt₀ σ2₀ H2 fun b H3₀ =>
        if b = true then te₀ σ2₀ H3₀ fun y H4₀ => ∃ acc₀, H4₀ D = some (.lst acc₀) ∧ acc₀.length < sizeLine ∧ Nx₀ (upd H4₀ D (.lst (acc₀ ++ [y]))) else Nx₀ H3₀) := by
  refine ⟨fun i m H => m = xs₀.length - i ∧ i ≤ xs₀.length ∧ Pv₀ i H, ⟨xs₀.length, by simp, Nat.zero_le _, h0₀⟩, ?_⟩
  rintro i m H ⟨rfl, hi, p⟩
  obtain ⟨qx₀, qy₀⟩ := hq₀ i H p
  by_cases hlt₀ : i < xs₀.length
  · have hx₀ : xs₀[i]? = some xs₀[i] := List.getElem?_eq_getElem hlt₀
    have hlt2₀ : i < ys₀.length := by omega
    have hy₀ : ys₀[i]? = some ys₀[i] := List.getElem?_eq_getElem hlt2₀
    refine .inr ⟨⟨xs₀, ys₀, _, _, qx₀, qy₀, hx₀, hy₀⟩, Pv₀ (i + 1), fun H' p' => ⟨xs₀.length - (i + 1), by omega, rfl, hlt₀, p'⟩, fun v H' y => ?_⟩
    obtain ⟨T, x₀', y₀', rfl, hT₀, rfl, f1₀, f2₀⟩ := y
    exact hs₀ i x₀' y₀' T H (f1₀ xs₀ qx₀) (f2₀ ys₀ qy₀) p hT₀
  · have e : i = xs₀.length := by omega
    subst e
    exact .inl ⟨⟨xs₀, ys₀, qx₀, qy₀, Or.inl (Nat.le_refl _)⟩, hd₀ H p⟩
theorem lc_zipT {K : PySem.W.Frag} {a b : Addr} {xs₀ ys₀ : List V} {g : TG} {tt₀ : TT} {te₀ : TE} {vs₀ : List Nat} {σ : L2.St} {H1 : Hp} {D : Addr} {Qd₀ : Hp → Prop} (hl₀ : xs₀.length = ys₀.length) (Pv₀ : Nat → Hp → Prop) (h0₀ : Pv₀ 0 (upd H1 D (.lst []))) (hq₀ : ∀ i H, Pv₀ i H → SqT K H a xs₀ ∧ SqT K H b ys₀)
    (hs₀ : ∀ (i : Nat) (x y : V) (T : Addr) (H : Hp), xs₀[i]? = some x → ys₀[i]? = some y → Pv₀ i H → H T = none → g (.ref T) (wipe σ vs₀) (upd H T (.tup [x, y])) fun σ2₀ H2 => wipe σ2₀ vs₀ = wipe σ vs₀ ∧ tt₀ σ2₀ H2 fun b H3₀ =>
      if b = true then te₀ σ2₀ H3₀ fun y H4₀ => ∃ acc₀, H4₀ D = some (.lst acc₀) ∧ acc₀.length < sizeLine ∧ Pv₀ (i + 1) (upd H4₀ D (.lst (acc₀ ++ [y]))) else Pv₀ (i + 1) H3₀) (hd₀ : ∀ H, Pv₀ xs₀.length H → Qd₀ H) :
    ∃ Way : Nat → Nat → Hp → Prop, (∃ m, Way 0 m (upd H1 D (.lst []))) ∧ ∀ i m H, Way i m H →
      ((ItzT K a b).stop i H ∧ Qd₀ H) ∨ ((ItzT K a b).go i H ∧ ∃ Nx₀ : Hp → Prop, (∀ H', Nx₀ H' → ∃ m', m' < m ∧ Way (i + 1) m' H') ∧ ∀ x H', (ItzT K a b).yld i H x H' → g x (wipe σ vs₀) H' fun σ2₀ H2 => wipe σ2₀ vs₀ = wipe σ vs₀ ∧ tt₀ σ2₀ H2 fun b H3₀ =>
        if b = true then te₀ σ2₀ H3₀ fun y H4₀ => ∃ acc₀, H4₀ D = some (.lst acc₀) ∧ acc₀.length < sizeLine ∧ Nx₀ (upd H4₀ D (.lst (acc₀ ++ [y]))) else Nx₀ H3₀) := by
  refine ⟨fun i m H => m = xs₀.length - i ∧ i ≤ xs₀.length ∧ Pv₀ i H, ⟨xs₀.length, by simp, Nat.zero_le _, h0₀⟩, ?_⟩
  rintro i m H ⟨rfl, hi, p⟩
  obtain ⟨qx₀, qy₀⟩ := hq₀ i H p
  by_cases hlt₀ : i < xs₀.length
  · have hx₀ : xs₀[i]? = some xs₀[i] := List.getElem?_eq_getElem hlt₀
    have hlt2₀ : i < ys₀.length := by omega
    have hy₀ : ys₀[i]? = some ys₀[i] := List.getElem?_eq_getElem hlt2₀
    refine .inr ⟨⟨xs₀, ys₀, _, _, qx₀, qy₀, hx₀, hy₀⟩, Pv₀ (i + 1), fun H' p' => ⟨xs₀.length - (i + 1), by omega, rfl, hlt₀, p'⟩, fun v H' y => ?_⟩
    obtain ⟨T, x₀', y₀', rfl, hT₀, rfl, f1₀, f2₀⟩ := y
    exact hs₀ i x₀' y₀' T H (f1₀ xs₀ qx₀) (f2₀ ys₀ qy₀) p hT₀
  · have e : i = xs₀.length := by omega
    subst e
    exact .inl ⟨⟨xs₀, ys₀, qx₀, qy₀, Or.inl (Nat.le_refl _)⟩, hd₀ H p⟩

theorem tyT {K : PySem.W.Frag} {H : Hp} {a : Addr} {xs : List V} (h : SqT K H a xs) : TyX K H (.ref a) (.type "tuple") := by
  rcases h with (h | ⟨o, h⟩) | ⟨o, its, n, h1, h2, _⟩
  · exact .base (.tup h)
  · exact .fTuple h
  · exact .kTuple h1 h2
theorem tyL {K : PySem.W.Frag} {H : Hp} {a : Addr} {xs : List V} (h : SqL K H a xs) : TyX K H (.ref a) (.type "list") := by
  rcases h with (h | ⟨o, h⟩) | ⟨o, its, n, h1, h2, _⟩
  · exact .base (.lst h)
  · exact .base (.frz h)
  · exact .kList h1 h2
theorem dpBl {K : PySem.W.Frag} {H : Hp} {v : V} {b : Bool} (h : Dp K H v (.bool b)) : v = .bl b := by
  cases h
  rfl
/-- data of tuples, lists, whole numbers and truths, so deep -/
inductive Lay : Nat → PyData → Prop
  | int (n : Nat) (i : Int) : Lay n (.int i)
  | bl (n : Nat) (b : Bool) : Lay n (.bool b)
  | lst {n : Nat} {ds : List PyData} (hl : ds.length ≤ 1000) (h : ∀ d ∈ ds, Lay n d) : Lay (n + 1) (.list ds)
  | tup {n : Nat} {ds : List PyData} (hl : ds.length ≤ 1000) (h : ∀ d ∈ ds, Lay n d) : Lay (n + 1) (.tuple ds)
theorem lay_fr (q : Fr) (n : Nat) : Lay (n + 1) (frD q) := .tup (by show 2 ≤ 1000; decide) fun d hd => by
  simp only [List.mem_cons, List.not_mem_nil, or_false] at hd
  rcases hd with rfl | rfl <;> exact .int _ _
theorem lay_row {qs : List Fr} (h : qs.length ≤ 1000) (n : Nat) : Lay (n + 2) (rowD qs) := .tup (by rw [List.length_map]; exact h) fun d hd => by
  obtain ⟨q, _, rfl⟩ := List.mem_map.mp hd
  exact lay_fr q n
section
variable {mg : Str → Option Value} {base : Heap} {K : PySem.W.Frag} {P : Program} {w : World}
abbrev s__law_same : Stmt := topS 47
abbrev N__law_same : List Str := ["told", "due", "x", "y"]
theorem sc__law_same : FnScope N__law_same ["told", "due"] (defScope s__law_same) := ⟨rfl, rfl, rfl, by decide +kernel, rfl, by decide +kernel, by decide +kernel⟩
def spSame (K : PySem.W.Frag) : Nat → Sp
  | 0 => fun _ _ _ _ => False
  | n + 1 => fun vs H Q _ => ∃ (v w : V) (d : PyData), vs = [v, w] ∧ Dp K H v d ∧ Dp K H w d ∧ Lay n d ∧ ∀ H', Same H H' → Q (.bl true) H'
theorem ok_same (T : Gs mg) (F : At K mg "_law_same" s__law_same) : ∀ n : Nat, Df P w K mg base "_law_same" (n + 1) ["told", "due"] (spSame K n)
  | 0 => by
    have sc := sc__law_same
    exact Df.mk' F sc (fun vs H Q E h => False.elim h) (fun _ _ _ _ _ _ us hl => match us, hl with | [_, _], _ => rfl) (fun f cdv A outer s H vs Q E hr h => False.elim h)
  | n + 1 => by
    have D1 := ok_same T F n
    have sc := sc__law_same
    refine Df.mk' F sc (fun vs H Q E h => ?_) (fun _ _ _ _ _ _ us hl => match us, hl with | [_, _], _ => rfl) (fun f cdv A outer s H vs Q E hr h => ?_)
    · obtain ⟨v, w, d, rfl, _⟩ := h
      rfl
    · obtain ⟨v, w', d, rfl, hv, hw, lay, q⟩ := h
      refine ⟨_, (pss_cons (ps_if (pt_val (pe_callB call_isiT (by rfl) T.isinstance (by decide +kernel) (pa_cons (pv 1) (pa_cons (pe_tup (pa_cons (pe_bltn (v := .ty "list") (by rfl) T.list_ (by decide +kernel) rfl) (pa_cons (pe_bltn (v := .ty "tuple") (by rfl) T.tuple_ (by decide +kernel) rfl) pa_nil))) pa_nil))))
   (pss_cons (ps_if (PW.pt (pw_or (pt_cmpR op_ne (pe_callB call_isi (by rfl) T.isinstance (by decide +kernel) (pa_cons (pv 0) (pa_cons (pe_bltn (v := .ty "list") (by rfl) T.list_ (by decide +kernel) rfl) pa_nil))) (pe_callB call_isi (by rfl) T.isinstance (by decide +kernel) (pa_cons (pv 1) (pa_cons (pe_bltn (v := .ty "list") (by rfl) T.list_ (by decide +kernel) rfl) pa_nil))) (nomark _)) (pw_or1 (pt_cmpR op_ne (pe_callB call_isi (by rfl) T.isinstance (by decide +kernel) (pa_cons (pv 0) (pa_cons (pe_bltn (v := .ty "tuple") (by rfl) T.tuple_ (by decide +kernel) rfl) pa_nil))) (pe_callB call_isi (by rfl) T.isinstance (by decide +kernel) (pa_cons (pv 1) (pa_cons (pe_bltn (v := .ty "tuple") (by rfl) T.tuple_ (by decide +kernel) rfl) pa_nil))) (nomark _)))))
   (pss_one (ps_ret pe_bl))
   pss_nil)
  (pss_one (ps_ret (pe_and (pe_cmpR op_eq (pe_callB call_len_seq (by rfl) T.len PySem.boot_len (pa_cons (pv 0) pa_nil)) (pe_callB call_len_seq (by rfl) T.len PySem.boot_len (pa_cons (pv 1) pa_nil)) (nomark _)) (pe_one (pe_callB (cr_all rfl) (by rfl) T.all (by decide +kernel) (pa_cons (pe_lc (own := [("x", 2), ("y", 3)]) (g := gTup K 2 (gCons (gName 2) (gCons (gName 3) gNil))) rfl sc.nd (pi_zipA (by rfl) T.zip (pa_cons (pv 0) (pa_cons (pv 1) pa_nil))) (blkOk_by (own := [("x", 2), ("y", 3)]) (N := N__law_same) (sc := defScope s__law_same) (by decide +kernel)) (fun _ _ _ _ _ => (pg_tup rfl (pgs_cons (pg_name (i := 2) sc.nd rfl (Or.inl rfl)) (pgs_cons (pg_name (i := 3) sc.nd rfl (Or.inl rfl)) pgs_nil)))) (fun _ _ _ _ _ => pts_nil) (fun _ _ _ _ _ => (pe_fn D1 (by omega) hr (pa_cons (pv 2) (pa_cons (pv 3) pa_nil))))) pa_nil)))))))
   pss_nil)
  (pss_cons (ps_if (pt_cmpR op_isN (pv 1) pe_non (nomark _))
   (pss_one (ps_ret (pe_cmpR op_isN (pv 0) pe_non (nomark _))))
   pss_nil)
  (pss_cons (ps_if (pt_val (pe_callB call_isi (by rfl) T.isinstance (by decide +kernel) (pa_cons (pv 1) (pa_cons (pe_bltn (v := .ty "str") (by rfl) T.str_ (by decide +kernel) rfl) pa_nil))))
   (pss_one (ps_ret (pe_and (pe_callB call_isi (by rfl) T.isinstance (by decide +kernel) (pa_cons (pv 0) (pa_cons (pe_bltn (v := .ty "str") (by rfl) T.str_ (by decide +kernel) rfl) pa_nil))) (pe_one (pe_cmpR op_eq (pv 0) (pv 1) (nomark _))))))
   pss_nil)
  (pss_one (ps_ret (pe_and (pe_callB call_isi (by rfl) T.isinstance (by decide +kernel) (pa_cons (pv 0) (pa_cons (pe_bltn (v := .ty "int") (by rfl) T.int_ (by decide +kernel) rfl) pa_nil))) (pe_and (pe_cmpR op_eq (pe_callB call_isi (by rfl) T.isinstance (by decide +kernel) (pa_cons (pv 0) (pa_cons (pe_bltn (v := .ty "bool") (by rfl) T.bool_ (by decide +kernel) rfl) pa_nil))) (pe_callB call_isi (by rfl) T.isinstance (by decide +kernel) (pa_cons (pv 1) (pa_cons (pe_bltn (v := .ty "bool") (by rfl) T.bool_ (by decide +kernel) rfl) pa_nil))) (nomark _)) (pe_one (pe_cmpR op_eq (pv 0) (pv 1) (nomark _)))))))))), ?_⟩
      refine ⟨_, rfl, by show 2 ≤ sizeLine; decide, fun T0 hT0 => ?_⟩
      have s0 : Same H (upd H T0 (.tup [.ty "list", .ty "tuple"])) := same_upd hT0
      have e0 : (upd H T0 (.tup [.ty "list", .ty "tuple"])) T0 = some (.tup [.ty "list", .ty "tuple"]) := upd_same
      generalize upd H T0 (.tup [.ty "list", .ty "tuple"]) = H0 at s0 e0
      have pr : Paired ClsV [.ty "list", .ty "tuple"] [.type "list", .type "tuple"] := .cons (.ty _) (.cons (.ty _) .nil)
      have hv0 := Dp.same s0 hv
      have hw0 := Dp.same s0 hw
      cases lay with
      | int _ i =>
        rw [dpInt hv, dpInt hw]
        refine ⟨_, T0, _, _, _, _, rfl, e0, pr, .base (.int i), rfl, _, rfl, ifF rfl ?_⟩
        refine ⟨_, rfl, rfl, _, rfl, ifF (by simp) ?_⟩
        refine ⟨_, rfl, _, _, _, _, _, rfl, .ty _, .base (.int i), rfl, _, rfl, ifF rfl ?_⟩
        refine ⟨_, rfl, _, _, _, _, _, rfl, .ty _, .base (.int i), rfl, _, rfl, ifT rfl ?_⟩
        refine ⟨_, rfl, _, _, _, _, _, rfl, .ty _, .base (.int i), rfl, _, rfl, _, _, _, _, _, rfl, .ty _, .base (.int i), rfl, rfl, _, rfl, ifT (by decide) ?_⟩
        refine ⟨_, rfl, _, rfl, rfl, ?_⟩
        have e : decide (V.int i = V.int i) = true := by simp
        rw [e]
        exact q _ s0
      | bl _ b =>
        rw [dpBl hv, dpBl hw]
        refine ⟨_, T0, _, _, _, _, rfl, e0, pr, .base (.bl b), rfl, _, rfl, ifF rfl ?_⟩
        refine ⟨_, rfl, rfl, _, rfl, ifF (by simp) ?_⟩
        refine ⟨_, rfl, _, _, _, _, _, rfl, .ty _, .base (.bl b), rfl, _, rfl, ifF rfl ?_⟩
        refine ⟨_, rfl, _, _, _, _, _, rfl, .ty _, .base (.bl b), rfl, _, rfl, ifT rfl ?_⟩
        refine ⟨_, rfl, _, _, _, _, _, rfl, .ty _, .base (.bl b), rfl, _, rfl, _, _, _, _, _, rfl, .ty _, .base (.bl b), rfl, rfl, _, rfl, ifT (by decide) ?_⟩
        refine ⟨_, rfl, _, rfl, rfl, ?_⟩
        have e : decide (V.bl b = V.bl b) = true := by simp
        rw [e]
        exact q _ s0
      | @lst m ds hl h =>
        obtain ⟨p, xs, rfl, hp, hA⟩ := dpLst hv0
        obtain ⟨p', ys, rfl, hp', hB⟩ := dpLst hw0
        have lx : xs.length = ds.length := dpAll_len hA
        have ly : ys.length = ds.length := dpAll_len hB
        refine ⟨_, T0, _, _, _, _, rfl, e0, pr, tyL hp', rfl, _, rfl, ifT rfl ?_⟩
        refine ⟨_, rfl, _, _, _, _, _, rfl, .ty _, tyL hp, rfl, _, rfl, _, _, _, _, _, rfl, .ty _, tyL hp', rfl, rfl, _, rfl, ifF (by decide) ?_⟩
        refine ⟨_, rfl, _, _, _, _, _, rfl, .ty _, tyL hp, rfl, _, rfl, _, _, _, _, _, rfl, .ty _, tyL hp', rfl, rfl, _, rfl, ifF (by decide) ?_⟩
        refine ⟨_, rfl, _, _, rfl, .inl hp, _, rfl, _, _, rfl, .inl hp', rfl, _, rfl, ifT (by rw [lx, ly]; simp) ?_⟩
        refine ⟨_, rfl, _, rfl, p, p', xs, ys, rfl, .inl ⟨hp, hp', fun D hD => lc_zipL (K := K) (a := p) (b := p') (xs₀ := xs) (ys₀ := ys) (by rw [lx, ly]) (fun i H' => Same H0 H' ∧ ∃ bs : List Bool, H' D = some (.lst (bs.map V.bl)) ∧ bs.length = i ∧ bs.all id = true) ⟨same_upd hD, [], upd_same, rfl, rfl⟩ (fun i H' h => ⟨h.1.seq hp, h.1.seq hp'⟩) ?_ ?_⟩⟩
        · rintro i x y T1 H1 hx hy ⟨sm, bs, hbs, hbl, hba⟩ hT1
          obtain ⟨d1, hd1, hdp1⟩ := dpAll_getV hA hx
          obtain ⟨d2, hd2, hdp2⟩ := dpAll_getV hB hy
          rw [hd1] at hd2
          cases hd2
          have hil : i < ds.length := (List.getElem?_eq_some_iff.mp hd1).1
          have sm2 : Same H0 (upd H1 T1 (.tup [x, y])) := sm.trans (same_upd hT1)
          have hbs2 := (same_upd (o := .tup [x, y]) hT1) _ _ hbs
          refine ⟨T1, _, rfl, SqT.of upd_same, rfl, _, _, rfl, _, _, rfl, rfl, rfl, yesIf ?_⟩
          refine ⟨_, rfl, _, rfl, _, _, d1, rfl, Dp.same sm2 hdp1, Dp.same sm2 hdp2, h d1 (List.mem_of_getElem? hd1), fun H3 s3 => ?_⟩
          refine ⟨_, s3 _ _ hbs2, small1000 (by rw [List.length_map]; omega), same_updN (sm2.trans s3) hD, bs ++ [true], ?_, by rw [List.length_append, hbl]; rfl, by rw [List.all_append, hba]; rfl⟩
          rw [upd_same, List.map_append]
          rfl
        · rintro H1 ⟨sm, bs, hbs, hbl, hba⟩
          refine ⟨D, bs, rfl, SqL.of hbs, ?_⟩
          rw [hba]
          exact q _ (s0.trans sm)
      | @tup m ds hl h =>
        obtain ⟨p, xs, rfl, hp, hA⟩ := dpTup hv0
        obtain ⟨p', ys, rfl, hp', hB⟩ := dpTup hw0
        have lx : xs.length = ds.length := dpAll_len hA
        have ly : ys.length = ds.length := dpAll_len hB
        refine ⟨_, T0, _, _, _, _, rfl, e0, pr, tyT hp', rfl, _, rfl, ifT rfl ?_⟩
        refine ⟨_, rfl, _, _, _, _, _, rfl, .ty _, tyT hp, rfl, _, rfl, _, _, _, _, _, rfl, .ty _, tyT hp', rfl, rfl, _, rfl, ifF (by decide) ?_⟩
        refine ⟨_, rfl, _, _, _, _, _, rfl, .ty _, tyT hp, rfl, _, rfl, _, _, _, _, _, rfl, .ty _, tyT hp', rfl, rfl, _, rfl, ifF (by decide) ?_⟩
        refine ⟨_, rfl, _, _, rfl, .inr hp, _, rfl, _, _, rfl, .inr hp', rfl, _, rfl, ifT (by rw [lx, ly]; simp) ?_⟩
        refine ⟨_, rfl, _, rfl, p, p', xs, ys, rfl, .inr ⟨hp, hp', fun D hD => lc_zipT (K := K) (a := p) (b := p') (xs₀ := xs) (ys₀ := ys) (by rw [lx, ly]) (fun i H' => Same H0 H' ∧ ∃ bs : List Bool, H' D = some (.lst (bs.map V.bl)) ∧ bs.length = i ∧ bs.all id = true) ⟨same_upd hD, [], upd_same, rfl, rfl⟩ (fun i H' h => ⟨sameT h.1 hp, sameT h.1 hp'⟩) ?_ ?_⟩⟩
        · rintro i x y T1 H1 hx hy ⟨sm, bs, hbs, hbl, hba⟩ hT1
          obtain ⟨d1, hd1, hdp1⟩ := dpAll_getV hA hx
          obtain ⟨d2, hd2, hdp2⟩ := dpAll_getV hB hy
          rw [hd1] at hd2
          cases hd2
          have hil : i < ds.length := (List.getElem?_eq_some_iff.mp hd1).1
          have sm2 : Same H0 (upd H1 T1 (.tup [x, y])) := sm.trans (same_upd hT1)
          have hbs2 := (same_upd (o := .tup [x, y]) hT1) _ _ hbs
          refine ⟨T1, _, rfl, SqT.of upd_same, rfl, _, _, rfl, _, _, rfl, rfl, rfl, yesIf ?_⟩
          refine ⟨_, rfl, _, rfl, _, _, d1, rfl, Dp.same sm2 hdp1, Dp.same sm2 hdp2, h d1 (List.mem_of_getElem? hd1), fun H3 s3 => ?_⟩
          refine ⟨_, s3 _ _ hbs2, small1000 (by rw [List.length_map]; omega), same_updN (sm2.trans s3) hD, bs ++ [true], ?_, by rw [List.length_append, hbl]; rfl, by rw [List.all_append, hba]; rfl⟩
          rw [upd_same, List.map_append]
          rfl
        · rintro H1 ⟨sm, bs, hbs, hbl, hba⟩
          refine ⟨D, bs, rfl, SqL.of hbs, ?_⟩
          rw [hba]
          exact q _ (s0.trans sm)
end
end V3
namespace V3
open PySem.Spec PySem L2 PyProof.Rows RZ GxR
section
variable {mg : Str → Option Value} {base : Heap} {K : PySem.W.Frag} {P : Program} {w : World}
abbrev s__law_is_whole : Stmt := topS 48
abbrev N__law_thing : List Str := ["thing"]
theorem sc__law_is_whole : FnScope N__law_thing ["thing"] (defScope s__law_is_whole) := ⟨rfl, rfl, rfl, by decide +kernel, rfl, by decide +kernel, by decide +kernel⟩
def spLWhole : Sp := fun vs H Q _ => ∃ i : Int, vs = [.int i] ∧ Q (.bl true) H
theorem ok_lwhole (T : Gs mg) (F : At K mg "_law_is_whole" s__law_is_whole) : Df P w K mg base "_law_is_whole" 1 ["thing"] spLWhole := by
  have sc := sc__law_is_whole
  refine Df.mk' F sc (fun vs H Q E h => ?_) (fun _ _ _ _ _ _ us hl => match us, hl with | [_], _ => rfl) (fun f cdv A outer s H vs Q E hr h => ?_)
  · obtain ⟨i, rfl, _⟩ := h
    rfl
  · obtain ⟨i, rfl, q⟩ := h
    refine ⟨_, (pss_one (ps_ret (pe_and (pe_callB call_isi (by rfl) T.isinstance (by decide +kernel) (pa_cons (pv 0) (pa_cons (pe_bltn (v := .ty "int") (by rfl) T.int_ (by decide +kernel) rfl) pa_nil))) (pe_one (pe_not (pe_callB call_isi (by rfl) T.isinstance (by decide +kernel) (pa_cons (pv 0) (pa_cons (pe_bltn (v := .ty "bool") (by rfl) T.bool_ (by decide +kernel) rfl) pa_nil)))))))), ?_⟩
    refine ⟨_, rfl, _, _, _, _, _, rfl, .ty _, .base (.int i), rfl, _, rfl, ifT rfl ?_⟩
    exact ⟨_, rfl, _, _, _, _, _, rfl, .ty _, .base (.int i), rfl, _, rfl, q⟩
abbrev s__law_is_frac : Stmt := topS 49
theorem sc__law_is_frac : FnScope N__law_thing ["thing"] (defScope s__law_is_frac) := ⟨rfl, rfl, rfl, by decide +kernel, rfl, by decide +kernel, by decide +kernel⟩
def spLFrac (K : PySem.W.Frag) : Sp := fun vs H Q _ => ∃ (v : V) (q : Fr), vs = [v] ∧ Dp K H v (frD q) ∧ Nf q ∧ Sf q ∧ ∀ H', Same H H' → Q (.bl true) H'
theorem ok_lfrac (T : Gs mg) (D1 : Df P w K mg base "_law_is_whole" 1 ["thing"] spLWhole) (D2 : Df P w K mg base "_law_cut" 1 ["top", "under"] spFraction) (D3 : Df P w K mg base "_law_same" 3 ["told", "due"] (spSame K 2)) (F : At K mg "_law_is_frac" s__law_is_frac) :
    Df P w K mg base "_law_is_frac" 4 ["thing"] (spLFrac K) := by
  have sc := sc__law_is_frac
  refine Df.mk' F sc (fun vs H Q E h => ?_) (fun _ _ _ _ _ _ us hl => match us, hl with | [_], _ => rfl) (fun f cdv A outer s H vs Q E hr h => ?_)
  · obtain ⟨v, q, rfl, _⟩ := h
    rfl
  · obtain ⟨v, x, rfl, hv, ok, sf, q⟩ := h
    obtain ⟨p, rfl, hp⟩ := dpFr hv
    refine ⟨_, (pss_cons (ps_if (PW.pt (pw_or (pt_not (pt_val (pe_callB call_isi (by rfl) T.isinstance (by decide +kernel) (pa_cons (pv 0) (pa_cons (pe_bltn (v := .ty "tuple") (by rfl) T.tuple_ (by decide +kernel) rfl) pa_nil))))) (pw_or (pt_cmpR op_ne (pe_callB call_len_seq (by rfl) T.len PySem.boot_len (pa_cons (pv 0) pa_nil)) pe_int (nomark _)) (pw_or (pt_not (pt_val (pe_fn D1 (by decide) hr (pa_cons (pe_ix ix_tup (pv 0) pe_int (fun _ _ => rfl)) pa_nil)))) (pw_or1 (pt_not (pt_val (pe_fn D1 (by decide) hr (pa_cons (pe_ix ix_tup (pv 0) pe_int (fun _ _ => rfl)) pa_nil)))))))))
   (pss_one (ps_ret pe_bl))
   pss_nil)
  (pss_one (ps_ret (pe_and (pe_cmpR op_gt (pe_ix ix_tup (pv 0) pe_int (fun _ _ => rfl)) pe_int (nomark _)) (pe_one (pe_fn D3 (by decide) hr (pa_cons (pe_fn D2 (by decide) hr (pa_cons (pe_ix ix_tup (pv 0) pe_int (fun _ _ => rfl)) (pa_cons (pe_ix ix_tup (pv 0) pe_int (fun _ _ => rfl)) pa_nil))) (pa_cons (pe_tup (pa_cons (pe_ix ix_tup (pv 0) pe_int (fun _ _ => rfl)) (pa_cons (pe_ix ix_tup (pv 0) pe_int (fun _ _ => rfl)) pa_nil))) pa_nil)))))))), ?_⟩
    refine ⟨_, rfl, _, _, _, _, _, rfl, .ty _, tyT hp, rfl, _, rfl, ifF rfl ?_⟩
    refine ⟨_, rfl, _, _, rfl, .inr hp, rfl, _, rfl, ifF (by simp) ?_⟩
    refine ⟨_, rfl, _, _, _, _, rfl, rfl, hp, at0, _, rfl, _, rfl, ifF rfl ?_⟩
    refine ⟨_, rfl, _, _, _, _, rfl, rfl, hp, at1, _, rfl, _, rfl, ifF rfl ?_⟩
    refine ⟨_, rfl, _, _, _, _, rfl, rfl, hp, at1, _, _, rfl, rfl, _, rfl, ifT (decide_eq_true ok.pos) ?_⟩
    refine ⟨_, rfl, _, _, _, _, rfl, rfl, hp, at0, _, rfl, _, _, _, _, rfl, rfl, hp, at1, _, _, rfl, ok.pos, Nat.lt_of_lt_of_le sf.s2 (pow_le_pow' (by decide)), fun H1 p1 s1 h1 => ?_⟩
    rw [ok.self] at h1
    refine ⟨_, rfl, _, _, _, _, rfl, rfl, sameT s1 hp, at0, _, rfl, _, _, _, _, rfl, rfl, sameT s1 hp, at1, by show 2 ≤ sizeLine; decide, fun p2 hp2 => ?_⟩
    refine ⟨_, _, frD x, rfl, Dp.same (same_upd hp2) (mkFrU h1), mkFrU upd_same, lay_fr x 0, fun H3 s3 => ?_⟩
    exact q _ (s1.trans ((same_upd hp2).trans s3))
abbrev s__law_is_step : Stmt := topS 52
abbrev N__law_is_step : List Str := ["thing", "wide"]
theorem sc__law_is_step : FnScope N__law_is_step ["thing", "wide"] (defScope s__law_is_step) := ⟨rfl, rfl, rfl, by decide +kernel, rfl, by decide +kernel, by decide +kernel⟩
theorem ok_step (T : Gs mg) (D1 : Df P w K mg base "_law_is_whole" 1 ["thing"] spLWhole) (D2 : Df P w K mg base "_law_is_frac" 4 ["thing"] (spLFrac K)) (F : At K mg "_law_is_step" s__law_is_step) :
    Df P w K mg base "_law_is_step" 5 ["thing", "wide"] (spIsTurn K) := by
  have sc := sc__law_is_step
  refine Df.mk' F sc (fun vs H Q E h => ?_) (fun _ _ _ _ _ _ us hl => match us, hl with | [_, _], _ => rfl) (fun f cdv A outer s H vs Q E hr h => ?_)
  · obtain ⟨v, t, n, rfl, _⟩ := h
    rfl
  · obtain ⟨v, t, n, rfl, hv, ok, q⟩ := h
    obtain ⟨p, p1, rfl, hp, hp1⟩ := dpTurn hv
    have oi := ok.i
    have oj := ok.j
    have one := ok.ne
    refine ⟨_, (pss_cons (ps_if (PW.pt (pw_or (pt_not (pt_val (pe_callB call_isi (by rfl) T.isinstance (by decide +kernel) (pa_cons (pv 0) (pa_cons (pe_bltn (v := .ty "tuple") (by rfl) T.tuple_ (by decide +kernel) rfl) pa_nil))))) (pw_or (pt_cmpR op_ne (pe_callB call_len_seq (by rfl) T.len PySem.boot_len (pa_cons (pv 0) pa_nil)) pe_int (nomark _)) (pw_or (pt_not (pt_val (pe_fn D1 (by decide) hr (pa_cons (pe_ix ix_tup (pv 0) pe_int (fun _ _ => rfl)) pa_nil)))) (pw_or1 (pt_not (pt_val (pe_fn D1 (by decide) hr (pa_cons (pe_ix ix_tup (pv 0) pe_int (fun _ _ => rfl)) pa_nil)))))))))
   (pss_one (ps_ret pe_bl))
   pss_nil)
  (pss_cons (ps_if (PW.pt (pw_or (pt_not (pt_chain op_le op_lt pe_int (pe_ix ix_tup (pv 0) pe_int (fun _ _ => rfl)) (pv 1))) (pw_or (pt_not (pt_chain op_le op_lt pe_int (pe_ix ix_tup (pv 0) pe_int (fun _ _ => rfl)) (pv 1))) (pw_or (pt_cmpR op_eq (pe_ix ix_tup (pv 0) pe_int (fun _ _ => rfl)) (pe_ix ix_tup (pv 0) pe_int (fun _ _ => rfl)) (nomark _)) (pw_or1 (pt_not (pt_val (pe_fn D2 (by decide) hr (pa_cons (pe_ix ix_tup (pv 0) pe_int (fun _ _ => rfl)) pa_nil)))))))))
   (pss_one (ps_ret pe_bl))
   pss_nil)
  (pss_one (ps_ret (pe_chain op_le op_le pe_int (pe_ix ix_tup (pe_ix ix_tup (pv 0) pe_int (fun _ _ => rfl)) pe_int (fun _ _ => rfl)) (pe_ix ix_tup (pe_ix ix_tup (pv 0) pe_int (fun _ _ => rfl)) pe_int (fun _ _ => rfl))))))), ?_⟩
    refine ⟨_, rfl, _, _, _, _, _, rfl, .ty _, tyT hp, rfl, _, rfl, ifF rfl ?_⟩
    refine ⟨_, rfl, _, _, rfl, .inr hp, rfl, _, rfl, ifF (by simp) ?_⟩
    refine ⟨_, rfl, _, _, _, _, rfl, rfl, hp, at30, _, rfl, _, rfl, ifF rfl ?_⟩
    refine ⟨_, rfl, _, _, _, _, rfl, rfl, hp, at31, _, rfl, _, rfl, ifF rfl ?_⟩
    refine ⟨_, rfl, _, _, _, _, rfl, rfl, hp, at30, _, _, rfl, rfl, _, rfl, ifT (decide_eq_true (by omega)) ?_⟩
    refine ⟨_, rfl, _, _, rfl, rfl, _, rfl, ifF (by simp; omega) ?_⟩
    refine ⟨_, rfl, _, _, _, _, rfl, rfl, hp, at31, _, _, rfl, rfl, _, rfl, ifT (decide_eq_true (by omega)) ?_⟩
    refine ⟨_, rfl, _, _, rfl, rfl, _, rfl, ifF (by simp; omega) ?_⟩
    refine ⟨_, rfl, _, _, _, _, rfl, rfl, hp, at30, _, rfl, _, _, _, _, rfl, rfl, hp, at31, rfl, _, rfl, ifF (by simp; omega) ?_⟩
    refine ⟨_, rfl, _, _, _, _, rfl, rfl, hp, at2, _, t.2.2, rfl, mkFr hp1, ok.nf, ok.sf, fun H1 s1 => ?_⟩
    refine ⟨_, rfl, ifF rfl ?_⟩
    have hq := sameT s1 hp
    have hq1 := sameT s1 hp1
    refine ⟨_, rfl, _, _, _, _, rfl, rfl, hq, at2, _, _, _, _, rfl, rfl, hq1, at0, _, _, rfl, rfl, _, rfl, ifT (decide_eq_true ok.p0) ?_⟩
    refine ⟨_, rfl, _, _, _, _, rfl, rfl, hq, at2, _, _, _, _, rfl, rfl, hq1, at1, _, _, rfl, rfl, ?_⟩
    have e : decide (t.2.2.1 ≤ t.2.2.2) = true := decide_eq_true ok.pg
    show Q (.bl (decide (t.2.2.1 ≤ t.2.2.2))) H1
    rw [e]
    exact q H1 s1
abbrev s__law_are_steps : Stmt := topS 53
abbrev N__law_are_steps : List Str := ["thing", "wide", "x"]
theorem sc__law_are_steps : FnScope N__law_are_steps ["thing", "wide"] (defScope s__law_are_steps) := ⟨rfl, rfl, rfl, by decide +kernel, rfl, by decide +kernel, by decide +kernel⟩
def spAreSteps (K : PySem.W.Frag) : Sp := fun vs H Q _ => ∃ (v : V) (T : List TurnI) (n : Nat), vs = [v, .int n] ∧ Dp K H v (.tuple (T.map turnD)) ∧ (∀ t ∈ T, TurnOk n (2 ^ 250) t) ∧ ∀ H', Same H H' → Q (.bl true) H'
theorem ok_are_steps (T : Gs mg) (D1 : Df P w K mg base "_law_is_step" 5 ["thing", "wide"] (spIsTurn K)) (F : At K mg "_law_are_steps" s__law_are_steps) : Df P w K mg base "_law_are_steps" 6 ["thing", "wide"] (spAreSteps K) := by
  have sc := sc__law_are_steps
  refine Df.mk' F sc (fun vs H Q E h => ?_) (fun _ _ _ _ _ _ us hl => match us, hl with | [_, _], _ => rfl) (fun f cdv A outer s H vs Q E hr h => ?_)
  · obtain ⟨v, t, n, rfl, _⟩ := h
    rfl
  · obtain ⟨v, ts, n, rfl, hv, ok, q⟩ := h
    obtain ⟨p, xs, rfl, hp, ha⟩ := dpTup hv
    have hl : xs.length = ts.length := by rw [dpAll_len ha, List.length_map]
    refine ⟨_, (pss_one (ps_ret (pe_and (pe_callB call_isi (by rfl) T.isinstance (by decide +kernel) (pa_cons (pv 0) (pa_cons (pe_bltn (v := .ty "tuple") (by rfl) T.tuple_ (by decide +kernel) rfl) pa_nil))) (pe_one (pe_cmpR (op_eqD hr.units) (pe_lc (own := [("x", 2)]) (g := gName 2) rfl sc.nd (pi_tup (pv 0)) (blkOk_by (own := [("x", 2)]) (N := N__law_are_steps) (sc := defScope s__law_are_steps) (by decide +kernel)) (fun _ _ _ _ _ => (pg_name (i := 2) sc.nd rfl (Or.inl rfl))) (fun _ _ _ _ _ => (pts_one (pt_not (pt_val (pe_fn D1 (by decide) hr (pa_cons (pv 2) (pa_cons (pv 1) pa_nil))))))) (fun _ _ _ _ _ => (pv 2))) (pe_lst pa_nil) (nomark _)))))), ?_⟩
    refine ⟨_, rfl, _, _, _, _, _, rfl, .ty _, tyT hp, rfl, _, rfl, ifT rfl ?_⟩
    refine ⟨_, rfl, p, rfl, ⟨_, hp⟩, fun D hD => lc_tup (K := K) (a := p) (xs := xs) (fun i H' => Same H H' ∧ H' D = some (.lst [])) ⟨same_upd hD, upd_same⟩ (fun i H' _ h => sameT h.1 hp) ?_ ?_⟩
    · rintro i x H' hi ⟨sm, hd⟩
      obtain ⟨d, hd', hdp⟩ := dpAll_getV ha hi
      rw [List.getElem?_map] at hd'
      obtain ⟨t, ht, rfl⟩ := Option.map_eq_some_iff.mp hd'
      refine ⟨rfl, ?_⟩
      refine ⟨_, rfl, _, rfl, _, t, n, rfl, Dp.same sm hdp, ok t (List.mem_of_getElem? ht), fun H3 s3 => ?_⟩
      exact ⟨_, rfl, ifF rfl ⟨sm.trans s3, s3 _ _ hd⟩⟩
    · rintro H' ⟨sm, hd⟩
      refine ⟨by show 0 ≤ sizeLine; decide, fun e he => ?_⟩
      have s2 := same_upd (o := .lst []) he
      exact ⟨.list [], .list [], .lst (SqL.of (s2 _ _ hd)) .nil, .lst (SqL.of upd_same) .nil, rfl, rfl, q _ (sm.trans s2)⟩
end
end V3
set_option maxHeartbeats 4100000
/-! Two rows beside one another, over their common denominator. -/
namespace V3
open PySem.Spec PySem L2 PyProof.Rows RZ GxR
theorem lcmRow_dvd_of {E : Nat} : ∀ (r : List Fr) (u : Nat), u ∣ E → (∀ q ∈ r, q.2.natAbs ∣ E) → lcmRow u r ∣ E
  | [], u, h, _ => h
  | q :: r, u, h, k => lcmRow_dvd_of r _ (Nat.lcm_dvd h (k q List.mem_cons_self)) fun x hx => k x (List.mem_cons_of_mem _ hx)
theorem lcmAll_dvd_of {E : Nat} : ∀ (rows : List (List Fr)) (u : Nat), u ∣ E → (∀ r ∈ rows, ∀ q ∈ r, q.2.natAbs ∣ E) → rows.foldl lcmRow u ∣ E
  | [], u, h, _ => h
  | r :: rs, u, h, k => lcmAll_dvd_of rs _ (lcmRow_dvd_of r u h (k r List.mem_cons_self)) fun x hx => k x (List.mem_cons_of_mem _ hx)
theorem common_le {tops slant : List Fr} {E : Int} (hE : 0 < E) (h1 : ∀ q ∈ tops, q.2 ∣ E) (h2 : ∀ q ∈ slant, q.2 ∣ E) : common tops slant ≤ E := by
  have h : lcmAll [tops, slant] ∣ E.natAbs := lcmAll_dvd_of _ 1 (Nat.one_dvd _) fun r hr q hq => by
    (rcases List.mem_cons.mp hr with rfl | hr)
    · exact Int.natAbs_dvd_natAbs.mpr (h1 q hq)
    · rcases List.mem_cons.mp hr with rfl | hr
      · exact Int.natAbs_dvd_natAbs.mpr (h2 q hq)
      · cases hr
  have := Nat.le_of_dvd (by omega) h
  unfold common
  omega
theorem dvd_common1 {tops slant : List Fr} {q : Fr} (h : q ∈ tops) : q.2 ∣ common tops slant :=
  Int.natAbs_dvd_natAbs.mp (by unfold common; rw [Int.natAbs_natCast]; exact lcmAll_mem (rows := [tops, slant]) List.mem_cons_self h)
theorem dvd_common2 {tops slant : List Fr} {q : Fr} (h : q ∈ slant) : q.2 ∣ common tops slant :=
  Int.natAbs_dvd_natAbs.mp (by unfold common; rw [Int.natAbs_natCast]; exact lcmAll_mem (rows := [tops, slant]) (List.mem_cons_of_mem _ List.mem_cons_self) h)
/-- a row over a common denominator is the row -/
theorem fr_whole {c : Int} (hc : 0 < c) : ∀ {qs : List Fr}, (∀ q ∈ qs, Nf q) → (∀ q ∈ qs, q.2 ∣ c) → fr c (wholeRow c qs) = qs
  | [], _, _ => rfl
  | q :: r, h, k => by
    have ih := fr_whole hc (fun x hx => h x (List.mem_cons_of_mem _ hx)) fun x hx => k x (List.mem_cons_of_mem _ hx)
    show nf (q.1 * (c / q.2)) c :: fr c (wholeRow c r) = _
    rw [ih, (h q List.mem_cons_self).scaled hc (k q List.mem_cons_self)]
theorem scaled_cross {q : Fr} {c : Int} (hq : 0 < q.2) (d : q.2 ∣ c) : q.1 * (c / q.2) * q.2 = q.1 * c := by
  rw [Int.mul_assoc, Int.ediv_mul_cancel d]
theorem scaled_bound {a D c : Int} (hD : 0 < D) (hc : 0 < c) (d : (nf a D).2 ∣ c) (h : a ≤ 2 ^ 21 * D ∧ -(2 ^ 21 * D) ≤ a) : (nf a D).1 * (c / (nf a D).2) ≤ 2 ^ 21 * c ∧ -(2 ^ 21 * c) ≤ (nf a D).1 * (c / (nf a D).2) := by
  have p := nf_pos2 (n := a) hD
  have e := scaled_cross p d
  have cr := nf_cross (n := a) hD
  generalize (nf a D).1 * (c / (nf a D).2) = z at *
  generalize (nf a D).1 = x at *
  generalize (nf a D).2 = y at *
  -- z y = x c, x D = a y
  have e2 : z * (D * y) = a * (c * y) := by
    have : z * y * D = x * D * c := by rw [e]; grind
    rw [cr] at this
    grind
  have h1 := Int.mul_le_mul_of_nonneg_right h.1 (Int.le_of_lt (Int.mul_pos hc p))
  have h2 := Int.mul_le_mul_of_nonneg_right h.2 (Int.le_of_lt (Int.mul_pos hc p))
  rw [← e2] at h1 h2
  have r1 : 2 ^ 21 * D * (c * y) = 2 ^ 21 * c * (D * y) := by grind
  have r2 : -(2 ^ 21 * D) * (c * y) = -(2 ^ 21 * c) * (D * y) := by grind
  rw [r1] at h1
  rw [r2] at h2
  have pp := Int.mul_pos hD p
  exact ⟨Int.le_of_mul_le_mul_right h1 pp, Int.le_of_mul_le_mul_right h2 pp⟩
theorem whole_bd {D c : Int} {as : List Int} (hD : 0 < D) (hc : 0 < c) (d : ∀ q ∈ fr D as, q.2 ∣ c) (h : ∀ a ∈ as, a ≤ 2 ^ 21 * D ∧ -(2 ^ 21 * D) ≤ a) : ∀ x ∈ wholeRow c (fr D as), x ≤ 2 ^ 21 * c ∧ -(2 ^ 21 * c) ≤ x := by
  intro x hx
  obtain ⟨q, hq, rfl⟩ := List.mem_map.mp hx
  have dq := d q hq
  obtain ⟨a, ha, rfl⟩ := List.mem_map.mp hq
  exact scaled_bound hD hc dq (h a ha)
theorem Dn.whole {q r : Fr} {c : Int} (hq : 0 < q.2) (hr : 0 < r.2) (hc : 0 < c) (dq : q.2 ∣ c) (dr : r.2 ∣ c) (h : Dn q r) : r.1 * (c / r.2) ≤ q.1 * (c / q.2) := by
  have e1 := scaled_cross hq dq
  have e2 := scaled_cross hr dr
  unfold Dn at h
  generalize r.1 * (c / r.2) = y at *
  generalize q.1 * (c / q.2) = x at *
  have h1 := Int.mul_le_mul_of_nonneg_right h (Int.le_of_lt hc)
  have r1 : r.1 * q.2 * c = y * (r.2 * q.2) := by grind
  have r2 : q.1 * r.2 * c = x * (r.2 * q.2) := by grind
  rw [r1, r2] at h1
  exact Int.le_of_mul_le_mul_right h1 (Int.mul_pos hr hq)
theorem srt_whole {c : Int} (hc : 0 < c) : ∀ {qs : List Fr}, (∀ q ∈ qs, 0 < q.2) → (∀ q ∈ qs, q.2 ∣ c) → Srt qs → (wholeRow c qs).Pairwise (· ≥ ·)
  | [], _, _, _ => .nil
  | q :: r, p, d, h => by
    (obtain ⟨h1, h2⟩ := List.pairwise_cons.mp h)
    refine List.pairwise_cons.mpr ⟨fun y hy => ?_, srt_whole hc (fun x hx => p x (List.mem_cons_of_mem _ hx)) (fun x hx => d x (List.mem_cons_of_mem _ hx)) h2⟩
    obtain ⟨x, hx, rfl⟩ := List.mem_map.mp hy
    exact (h1 x hx).whole (p q List.mem_cons_self) (p x (List.mem_cons_of_mem _ hx)) hc (d q List.mem_cons_self) (d x (List.mem_cons_of_mem _ hx))
/-- what the law's worlds are -/
structure W2 (n : Nat) (tops slant : List Fr) : Prop where
  p : Pair tops slant
  n : tops.length = n
  small : common tops slant ≤ 2 ^ 170
  bt : ∀ x ∈ wholeRow (common tops slant) tops, x ≤ 2 ^ 21 * common tops slant ∧ -(2 ^ 21 * common tops slant) ≤ x
  bs : ∀ x ∈ wholeRow (common tops slant) slant, x ≤ 2 ^ 21 * common tops slant ∧ -(2 ^ 21 * common tops slant) ≤ x
theorem W2.mk' {n : Nat} {D E : Int} {as bs : List Int} (h1 : 1 ≤ n) (h6 : n ≤ 6) (la : as.length = n) (lb : bs.length = n) (hD : 0 < D) (hE : 0 < E) (dvd : D ∣ E) (El : E ≤ 2 ^ 170) (ha : ∀ a ∈ as, a ≤ 2 ^ 21 * D ∧ -(2 ^ 21 * D) ≤ a) (hb : ∀ a ∈ bs, a ≤ 2 ^ 21 * E ∧ -(2 ^ 21 * E) ≤ a)
    (hs : Srt (fr D as)) : W2 n (fr D as) (fr E bs) := by
  have d1 : ∀ q ∈ fr D as, q.2 ∣ E := fun q hq => by
    obtain ⟨a, _, rfl⟩ := List.mem_map.mp hq
    exact Int.dvd_trans nf_den_dvd dvd
  have d2 : ∀ q ∈ fr E bs, q.2 ∣ E := fun q hq => by
    obtain ⟨a, _, rfl⟩ := List.mem_map.mp hq
    exact nf_den_dvd
  have cl := common_le hE d1 d2
  have Dl : D ≤ 2 ^ 170 := Int.le_trans (Int.le_of_dvd hE dvd) El
  have s1 : ∀ q ∈ fr D as, Sf q := fun q hq => by
    obtain ⟨a, h, rfl⟩ := List.mem_map.mp hq
    have := ha a h
    exact led_sf (n := n) (as := as) hD Dl (by omega)
  have s2 : ∀ q ∈ fr E bs, Sf q := fun q hq => by
    obtain ⟨a, h, rfl⟩ := List.mem_map.mp hq
    have := hb a h
    exact led_sf (n := n) (as := as) hE El (by omega)
  have lt : (fr D as).length = n := by rw [fr_len, la]
  have pr : Pair (fr D as) (fr E bs) := ⟨fr_all hD, fr_all hE, s1, s2, by omega, by omega, by rw [fr_len, fr_len]; omega, hs.desc, by
    have : (common (fr D as) (fr E bs)) < 2 ^ 3000 := Int.lt_of_le_of_lt (Int.le_trans cl El) (by decide +kernel)
    unfold common at this
    rw [← two_pow_int] at this
    exact Int.ofNat_lt.mp this⟩
  exact ⟨pr, lt, Int.le_trans cl El, whole_bd hD pr.pos (fun q hq => dvd_common1 hq) ha, whole_bd hE pr.pos (fun q hq => dvd_common2 hq) hb⟩
theorem eqv_fr (q r : Fr) : PyData.eqv (frD q) (frD r) = decide (q = r) := by
  obtain ⟨a, b⟩ := q
  obtain ⟨c, d⟩ := r
  unfold frD
  simp [PyData.eqv, PyData.eqvAll]
  rfl
end V3
set_option maxHeartbeats 8000000
namespace V3
open PySem.Spec PySem L2 PyProof.Rows RZ GxR
theorem shaped_fr (q : Fr) : SeqAt.shaped (frD q) = true := rfl
theorem sum_take_more {xs : List Int} {i : Nat} {x : Int} (h : xs[i]? = some x) : (xs.take (i + 1)).sum = (xs.take i).sum + x := pre_succ xs i x h
theorem wr_get {c : Int} {qs : List Fr} {i : Nat} {q : Fr} (h : qs[i]? = some q) : (wholeRow c qs)[i]? = some (q.1 * (c / q.2)) := by
  unfold wholeRow
  rw [List.getElem?_map, h]
  rfl
section
variable {mg : Str → Option Value} {base : Heap} {K : PySem.W.Frag} {P : Program} {w : World}
abbrev s__law_is_spread : Stmt := topS 50
abbrev N__law_is_spread : List Str := ["tops", "slant", "one", "two", "x", "y"]
theorem sc__law_is_spread : FnScope N__law_is_spread ["tops", "slant"] (defScope s__law_is_spread) := ⟨rfl, rfl, rfl, by decide +kernel, rfl, by decide +kernel, by decide +kernel⟩
def spLSpread (K : PySem.W.Frag) : Sp := fun vs H Q _ => ∃ (v w : V) (n : Nat) (tops slant : List Fr) (b : Bool), vs = [v, w] ∧ Dp K H v (rowD tops) ∧ DpT K H w (rowD slant) ∧ W2 n tops slant ∧
  (∀ ns : List Int, ns.Perm (wholeRow (common tops slant) slant) → ns.Pairwise (· ≥ ·) → sprd 0 (wholeRow (common tops slant) tops) ns = b) ∧ ∀ H', Same H H' → Q (.bl b) H'
theorem ok_lspread (T : Gs mg) (D1 : Df P w K mg base "_law_down" 2 ["some"] (spDown K)) (D2 : Df P w K mg base "_law_add" 2 ["one", "two"] (spF2 K qadd)) (D3 : Df P w K mg base "_law_less" 1 ["one", "two"] (spF2b K fun x y => decide (x.1 * y.2 < y.1 * x.2))) (F : At K mg "_law_is_spread" s__law_is_spread) :
    Df P w K mg base "_law_is_spread" 3 ["tops", "slant"] (spLSpread K) := by
  have sc := sc__law_is_spread
  refine Df.mk' F sc (fun vs H Q E h => ?_) (fun _ _ _ _ _ _ us hl => match us, hl with | [_, _], _ => rfl) (fun f cdv A outer s H vs Q E hr h => ?_)
  · obtain ⟨v, w, n, tops, slant, b, rfl, _⟩ := h
    rfl
  · obtain ⟨v, w', n, tops, slant, b, rfl, hv, hw, W, hb, q⟩ := h
    have pr := W.p
    have cp := pr.pos
    have hn := W.n
    have n6 : n ≤ 6 := by have := pr.l6; omega
    have pos : ∀ x ∈ slant, 0 < x.2 := fun x hx => (pr.nf2 x hx).pos
    have dp := down_perm pos
    have dnf : ∀ x ∈ downR slant, Nf x := fun x hx => pr.nf2 x (dp.mem_iff.mp hx)
    have ddv : ∀ x ∈ downR slant, x.2 ∣ common tops slant := fun x hx => dvd_common2 (dp.mem_iff.mp hx)
    have hb' := hb (wholeRow (common tops slant) (downR slant)) (dp.map _) (srt_whole cp (fun x hx => (dnf x hx).pos) ddv (down_srt pos))
    have bt := W.bt
    have bd : ∀ x ∈ wholeRow (common tops slant) (downR slant), x ≤ 2 ^ 21 * common tops slant ∧ -(2 ^ 21 * common tops slant) ≤ x := fun x hx => W.bs x ((dp.map _).mem_iff.mp hx)
    have tdv : ∀ x ∈ tops, x.2 ∣ common tops slant := fun x hx => dvd_common1 hx
    have tnf := pr.nf1
    have sm := W.small
    have dl : (downR slant).length = tops.length := by rw [dp.length_eq, pr.len]
    have sfd : ∀ x ∈ downR slant, Sf x := fun x hx => pr.sf2 x (dp.mem_iff.mp hx)
    have sft := pr.sf1
    have sfs := pr.sf2
    have ll := pr.len
    generalize common tops slant = c at *
    clear hb
    obtain ⟨pa, xs, rfl, hp, hA⟩ := dpTup hv
    obtain ⟨pb, ys, rfl, hpb, hB⟩ := dtTup hw
    refine ⟨_, (pss_cons (ps_asg (pe_tup (pa_cons (pe_tup (pa_cons pe_int (pa_cons pe_int pa_nil))) (pa_cons (pe_tup (pa_cons pe_int (pa_cons pe_int pa_nil))) pa_nil))) (pg_tup rfl (pgs_cons (pg_name (i := 2) sc.nd rfl (Or.inl rfl)) (pgs_cons (pg_name (i := 3) sc.nd rfl (Or.inl rfl)) pgs_nil))))
  (pss_cons (ps_for PassesOwn.never rfl (pi_zipA (by rfl) T.zip (pa_cons (pv 0) (pa_cons (pe_fn D1 (by decide) hr (pa_cons (pv 1) pa_nil)) pa_nil))) (pg_tup rfl (pgs_cons (pg_name (i := 4) sc.nd rfl (Or.inl rfl)) (pgs_cons (pg_name (i := 5) sc.nd rfl (Or.inl rfl)) pgs_nil)))
   (pss_cons (ps_par (i := 2) (j := 3) rfl sc.nd rfl rfl (by decide) rfl rfl (pa_cons (pe_fn D2 (by decide) hr (pa_cons (pv 2) (pa_cons (pv 4) pa_nil))) (pa_cons (pe_fn D2 (by decide) hr (pa_cons (pv 3) (pa_cons (pv 5) pa_nil))) pa_nil)) (by rfl))
  (pss_one (ps_if (pt_val (pe_fn D3 (by decide) hr (pa_cons (pv 2) (pa_cons (pv 3) pa_nil))))
   (pss_one (ps_ret pe_bl))
   pss_nil))))
  (pss_one (ps_ret (pe_cmpR (op_eqD hr.units) (pv 2) (pv 3) (nomark _)))))), ?_⟩
    refine ⟨by show 2 ≤ sizeLine; decide, fun T1 hT1 => ?_⟩
    refine ⟨by show 2 ≤ sizeLine; decide, fun T2 hT2 => ?_⟩
    have s2 : Same H (upd (upd H T1 (.tup [.int 0, .int 1])) T2 (.tup [.int 0, .int 1])) := (same_upd hT1).trans (same_upd hT2)
    have z0 : ((0, 1) : Fr) = nf 0 c := by
      have := (nf_whole (k := 0) cp).symm
      rw [Int.zero_mul] at this
      exact this
    have f1 : Dp K (upd (upd H T1 (.tup [.int 0, .int 1])) T2 (.tup [.int 0, .int 1])) (.ref T1) (frD (nf 0 c)) := by
      rw [← z0]
      exact mkFrU (by rw [upd_ne (fun z => by rw [← z, upd_same] at hT2; cases hT2), upd_same])
    have f2 : Dp K (upd (upd H T1 (.tup [.int 0, .int 1])) T2 (.tup [.int 0, .int 1])) (.ref T2) (frD (nf 0 c)) := by
      rw [← z0]
      exact mkFrU upd_same
    generalize upd (upd H T1 (.tup [.int 0, .int 1])) T2 (.tup [.int 0, .int 1]) = H2a at s2 f1 f2
    refine ⟨by show 2 ≤ sizeLine; decide, fun T3 hT3 => ?_⟩
    replace f1 := Dp.same (same_upd (o := .tup [.ref T1, .ref T2]) hT3) f1
    replace f2 := Dp.same (same_upd (o := .tup [.ref T1, .ref T2]) hT3) f2
    replace s2 := s2.trans (same_upd (o := .tup [.ref T1, .ref T2]) hT3)
    have e3 : (upd H2a T3 (.tup [.ref T1, .ref T2])) T3 = some (.tup [.ref T1, .ref T2]) := upd_same
    generalize upd H2a T3 (.tup [.ref T1, .ref T2]) = H2 at s2 f1 f2 e3
    refine ⟨T3, _, rfl, SqT.of e3, rfl, _, _, rfl, _, _, rfl, rfl, ?_⟩
    refine ⟨_, rfl, _, rfl, pb, ys, slant, rfl, .inr (sameT s2 hpb), hB.keep (Same.kt s2), sfs, by omega, fun H3 pd zs s3 hpd hzs => ?_⟩
    have s23 := s2.trans s3
    have lx : xs.length = n := by rw [dpAll_len hA, List.length_map, hn]
    have lz : zs.length = n := by rw [dtAll_len hzs, List.length_map, dl, hn]
    refine ⟨pa, pd, xs, zs, rfl, .inr ⟨sameT s23 hp, SqT.of hpd, for_zipT (K := K) (a := pa) (b := pd) (xs := xs) (ys := zs) (by omega)
      (fun i σ H' => ∃ (o t : V) (y4 y5 : Option V) (A B : Int), σ = [some (.ref pa), some (.ref pb), some o, some t, y4, y5] ∧ Same H3 H' ∧ Dp K H' o (frD (nf A c)) ∧ Dp K H' t (frD (nf B c)) ∧ A.natAbs ≤ i * 2 ^ 200 ∧ B.natAbs ≤ i * 2 ^ 200 ∧
        sprd 0 (wholeRow c tops) (wholeRow c (downR slant)) = sprd (A - B) ((wholeRow c tops).drop i) ((wholeRow c (downR slant)).drop i)) ⟨_, _, _, _, 0, 0, rfl, Same.refl _, Dp.same s3 f1, Dp.same s3 f2, by decide, by decide, rfl⟩
      (fun i σ H' ⟨_, _, _, _, _, _, _, sm', _⟩ => ⟨sameT (s23.trans sm') hp, sameT sm' (SqT.of hpd)⟩) ?_ ?_⟩⟩
    · rintro i x y T' σ H' hx hy ⟨o, t, y4, y5, A, B, rfl, s4, ho, ht, la, lb, es⟩ hT'
      obtain ⟨d1, hd1, hdp1⟩ := dpAll_getV hA hx
      rw [List.getElem?_map] at hd1
      obtain ⟨q1, hq1, rfl⟩ := Option.map_eq_some_iff.mp hd1
      obtain ⟨d2, hd2, hdp2⟩ := dtAll_getV hzs hy
      rw [List.getElem?_map] at hd2
      obtain ⟨q2, hq2, rfl⟩ := Option.map_eq_some_iff.mp hd2
      have m1 : q1 ∈ tops := List.mem_of_getElem? hq1
      have m2 : q2 ∈ downR slant := List.mem_of_getElem? hq2
      have i6 : i < 6 := by
        have := (List.getElem?_eq_some_iff.mp hq1).1
        omega
      have w1 := wr_get (c := c) hq1
      have w2 := wr_get (c := c) hq2
      have e1 := (tnf q1 m1).scaled cp (tdv q1 m1)
      have e2 := (dnf q2 m2).scaled cp (ddv q2 m2)
      have b1 := bt _ (List.mem_of_getElem? w1)
      have b2 := bd _ (List.mem_of_getElem? w2)
      have sf1 := sft q1 m1
      have sf2 := sfd q2 m2
      generalize q1.1 * (c / q1.2) = u1 at *
      generalize q2.1 * (c / q2.2) = u2 at *
      have cb : 2 ^ 21 * c ≤ 2 ^ 191 := by
        have := Int.mul_le_mul_of_nonneg_left sm (show (0 : Int) ≤ 2 ^ 21 by decide)
        rw [← Int.pow_add] at this
        exact this
      have nb1 : u1.natAbs ≤ 2 ^ 200 := Nat.le_of_lt (abs_lt b1 (Int.lt_of_le_of_lt cb (by decide)))
      have nb2 : u2.natAbs ≤ 2 ^ 200 := Nat.le_of_lt (abs_lt b2 (Int.lt_of_le_of_lt cb (by decide)))
      have sfA : ∀ z : Int, z.natAbs ≤ 7 * 2 ^ 200 → Sf (nf z c) := fun z hz => nf_sf cp (Nat.lt_of_le_of_lt hz (by decide +kernel)) (abs_lt (Z := 2 ^ 170) (by omega) (by decide +kernel))
      have la' : (A + u1).natAbs ≤ (i + 1) * 2 ^ 200 := by
        rw [Nat.add_mul, Nat.one_mul]
        omega
      have lb' : (B + u2).natAbs ≤ (i + 1) * 2 ^ 200 := by
        rw [Nat.add_mul, Nat.one_mul]
        omega
      have i7 : ∀ z : Nat, z ≤ 7 → z * 2 ^ 200 ≤ 7 * 2 ^ 200 := fun z hz => Nat.mul_le_mul_right _ hz
      have s5 : Same H3 (upd H' T' (.tup [x, y])) := s4.trans (same_upd hT')
      have s5' : Same H' (upd H' T' (.tup [x, y])) := same_upd hT'
      refine ⟨T', _, rfl, SqT.of upd_same, rfl, _, _, rfl, _, _, rfl, rfl, ?_⟩
      refine ⟨_, rfl, _, rfl, _, _, nf A c, q1, rfl, Dp.same s5' ho, Dp.same (s23.trans s5) hdp1, sfA A (Nat.le_trans la (i7 i (by omega))), sf1, fun H5 p5 s6 h5 => ?_⟩
      rw [← e1, qadd_nf cp] at h5
      refine ⟨_, rfl, _, rfl, _, _, nf B c, q2, rfl, Dp.same (s5'.trans s6) ht, Dp.same (s5.trans s6) hdp2.dp, sfA B (Nat.le_trans lb (i7 i (by omega))), sf2, fun H6 p6 s7 h6 => ?_⟩
      rw [← e2, qadd_nf cp] at h6
      refine ⟨_, _, rfl, ?_⟩
      have h5' := s7 _ _ h5
      refine ⟨_, rfl, _, rfl, _, _, nf (A + u1) c, nf (B + u2) c, rfl, mkFrU h5', mkFrU h6, sfA _ (Nat.le_trans la' (i7 (i + 1) (by omega))), sfA _ (Nat.le_trans lb' (i7 (i + 1) (by omega))), _, rfl, ?_⟩
      rw [drop_get w1, drop_get w2] at es
      have es2 : sprd 0 (wholeRow c tops) (wholeRow c (downR slant)) = if A - B + u1 - u2 < 0 then false else sprd (A - B + u1 - u2) ((wholeRow c tops).drop (i + 1)) ((wholeRow c (downR slant)).drop (i + 1)) := es
      refine if2 (fun e => ?_) (fun e => ?_)
      · have lt := (nf_lt cp).mp (of_decide_eq_true e)
        have e3 : b = false := by
          rw [← hb', es2, if_pos (by omega)]
        rw [e3] at q
        exact q _ ((s23.trans s5).trans (s6.trans s7))
      · have nlt : ¬ A + u1 < B + u2 := fun z => of_decide_eq_false e ((nf_lt cp).mpr z)
        refine ⟨_, _, _, _, A + u1, B + u2, rfl, s5.trans (s6.trans s7), mkFrU h5', mkFrU h6, la', lb', ?_⟩
        rw [es2, if_neg (by omega)]
        congr 1
        omega
    · rintro σ H' ⟨o, t, y4, y5, A, B, rfl, s4, ho, ht, la, lb, es⟩
      refine ⟨_, rfl, _, rfl, frD (nf A c), frD (nf B c), ho, ht, shaped_fr _, shaped_fr _, ?_⟩
      rw [eqv_fr]
      have l1 : (wholeRow c tops).length = n := by rw [wholeRow, List.length_map, hn]
      have e3 : sprd 0 (wholeRow c tops) (wholeRow c (downR slant)) = decide (A - B = 0) := by
        rw [es, lx, ← l1, List.drop_length]
        unfold sprd
        rfl
      have e4 : decide (nf A c = nf B c) = b := by
        rw [← hb', e3]
        have : (nf A c = nf B c) ↔ (A - B = 0) := ⟨fun z => by have := nf_inj cp z; omega, fun z => by rw [show A = B by omega]⟩
        exact decide_eq_decide.mpr this
      rw [e4]
      exact q _ (s23.trans s4)
end
end V3
namespace V3
open PySem.Spec PySem L2 PyProof.Rows RZ GxR
theorem cutV_mem {xs : List V} {lo hi : Option Int} {x : V} (h : x ∈ cutV xs lo hi) : x ∈ xs := List.mem_of_mem_drop (List.mem_of_mem_take h)
section
variable {mg : Str → Option Value} {base : Heap} {K : PySem.W.Frag} {P : Program} {w : World}
abbrev s__law_well : Stmt := topS 35
abbrev N__law_well : List Str := ["script", "turn", "start", "mixed", "cell", "own"]
theorem sc__law_well : FnScope N__law_well ["script", "turn", "start"] (defScope s__law_well) := ⟨rfl, rfl, rfl, by decide +kernel, rfl, by decide +kernel, by decide +kernel⟩
def spWell (K : PySem.W.Frag) : Sp := fun vs H Q _ => ∃ (a : Addr) (ns : List Int) (t : Nat), vs = [.ref a, .int t, .int 1012] ∧ SqL K H a (ns.map V.int) ∧ ∀ H' p, Same H H' → H p = none → Well H' p 0 → Q (.ref p) H'
theorem ok_well (T : Gs mg) (F : At K mg "_law_well" s__law_well) : Df P w K mg base "_law_well" 1 ["script", "turn", "start"] (spWell K) := by
  have sc := sc__law_well
  refine Df.mk' F sc (fun vs H Q E h => ?_) (fun _ _ _ _ _ _ us hl => match us, hl with | [_, _, _], _ => rfl) (fun f cdv A outer s H vs Q E hr h => ?_)
  · obtain ⟨a, ns, t, rfl, _⟩ := h
    rfl
  · obtain ⟨a, ns, t, rfl, ha, q⟩ := h
    refine ⟨_, (pss_cons (ps_set (i := 3) sc.nd rfl (Or.inl rfl) (pe_op op_add (pv 2) (pe_op op_mul pe_int (pv 1))))
  (pss_cons (ps_for PassesOwn.never rfl (pi_list (pe_slice sl_list (pv 0) po_none (po_some pe_int))) (pg_name (i := 4) sc.nd rfl (Or.inl rfl))
   (pss_one (ps_set (i := 3) sc.nd rfl (Or.inl rfl) (pe_op op_mod (pe_callTy call_int1 (by rfl) T.int_ (by decide +kernel) (pa_cons (pe_op op_add (pe_op op_add (pe_op op_mul (pv 3) pe_int) (pe_op op_mul (pe_op op_mod (pe_callTy call_int1 (by rfl) T.int_ (by decide +kernel) (pa_cons (pv 4) pa_nil)) pe_int) pe_int)) pe_int) pa_nil)) pe_int))))
  (pss_cons (ps_set (i := 5) sc.nd rfl (Or.inl rfl) (pe_ifExp (pt_cmpR op_lt (pv 1) (pe_callB call_len_seq (by rfl) T.len PySem.boot_len (pa_cons (pv 0) pa_nil)) (nomark _)) (pe_callTy call_int1 (by rfl) T.int_ (by decide +kernel) (pa_cons (pe_ix ix_list (pv 0) (pv 1) (fun _ _ => rfl)) pa_nil)) pe_int))
  (pss_cons (ps_set (i := 3) sc.nd rfl (Or.inl rfl) (pe_op op_mod (pe_callTy call_int1 (by rfl) T.int_ (by decide +kernel) (pa_cons (pe_op op_add (pe_op op_add (pv 3) (pe_op op_mul (pe_op op_mod (pe_callTy call_int1 (by rfl) T.int_ (by decide +kernel) (pa_cons (pv 5) pa_nil)) pe_int) pe_int)) (pe_op op_mul pe_int (pv 1))) pa_nil)) pe_int))
  (pss_one (ps_ret (pe_lst (pa_cons (pe_ifExp (PW.pt (pw_or (pt_cmpR op_lt (pv 5) pe_int (nomark _)) (pw_or1 (pt_cmpR op_gt (pv 5) (pe_op op_pow pe_int pe_int) (nomark _))))) (pe_callB call_abs (by rfl) T.abs (by decide +kernel) (pa_cons (pv 5) pa_nil)) pe_int) (pa_cons (pv 3) (pa_cons pe_int pa_nil)))))))))), ?_⟩
    refine ⟨_, rfl, _, rfl, _, _, rfl, rfl, Or.inl (by decide), _, _, rfl, rfl, ?_⟩
    refine ⟨_, rfl, _, rfl, a, _, rfl, ha, fun pc hpc => ?_⟩
    have s1 : Same H (upd H pc (.lst (cutV (ns.map V.int) none (some 9)))) := same_upd hpc
    refine ⟨pc, rfl, ⟨_, SqL.of upd_same⟩, for_list (K := K) (a := pc) (xs := cutV (ns.map V.int) none (some 9)) (fun i σ H' => ∃ (m : Int) (y : Option V), σ = [some (.ref a), some (.int t), some (.int 1012), some (.int m), y, none] ∧ H' = upd H pc (.lst (cutV (ns.map V.int) none (some 9)))) ⟨_, _, rfl, rfl⟩
      (fun i σ H' _ ⟨_, _, _, e⟩ => by rw [e]; exact SqL.of upd_same) ?_ ?_⟩
    · rintro i x σ H' hi ⟨m, y, rfl, rfl⟩
      obtain ⟨n, _, rfl⟩ := List.mem_map.mp (cutV_mem (List.mem_of_getElem? hi))
      refine ⟨_, rfl, _, _, rfl, rfl, Or.inr (by decide), ?_⟩
      refine ⟨_, rfl, .inl ⟨_, rfl, _, _, rfl, rfl, by show (0 : Int) < 1999999973; decide, _, _, rfl, rfl, Or.inr (by decide), ?_⟩⟩
      refine ⟨_, _, rfl, rfl, _, _, rfl, rfl, .inl ⟨_, rfl, _, _, rfl, rfl, by show (0 : Int) < 2147483423; decide, ?_⟩⟩
      exact ⟨_, _, rfl, rfl⟩
    · rintro σ H' ⟨m, y, rfl, rfl⟩
      have ha' : SqL K (upd H pc (.lst (cutV (ns.map V.int) none (some 9)))) a (ns.map V.int) := s1.seq ha
      generalize upd H pc (.lst (cutV (ns.map V.int) none (some 9))) = H1 at s1 ha'
      have fin : ∀ (p : Addr), H1 p = none → ∀ x z : Int, 0 ≤ x → 0 ≤ z → z < 2147483423 → Q (.ref p) (upd H1 p (.lst [.int x, .int z, .int 0])) := fun p hp x z h1 h2 h3 =>
        q _ p (s1.trans (same_upd hp)) (by cases e : H p with | none => rfl | some o => rw [s1 _ _ e] at hp; cases hp) ⟨x, z, 0, upd_same, h1, h2, h3, by decide, by decide⟩
      refine ⟨_, rfl, _, rfl, _, _, rfl, .inl ha', _, _, rfl, rfl, _, rfl, if2 (fun e => ?_) (fun e => ?_)⟩
      · have lt : t < (ns.map V.int).length := by
          have := of_decide_eq_true e
          omega
        have ln : t < ns.length := by rw [List.length_map] at lt; exact lt
        refine ⟨_, rfl, _, rfl, _, _, _, _, rfl, rfl, ha', at_of rfl (show (ns.map V.int)[t]? = some (.int ns[t]) by rw [List.getElem?_map, List.getElem?_eq_getElem ln]; rfl), .inl ⟨_, rfl, ?_⟩⟩
        refine ⟨_, rfl, _, rfl, .inl ⟨_, rfl, _, _, rfl, rfl, by show (0 : Int) < 1999999973; decide, _, _, rfl, rfl, Or.inr (by decide), _, _, rfl, rfl, ?_⟩⟩
        refine ⟨_, rfl, _, _, rfl, rfl, Or.inl (by decide), _, _, rfl, rfl, .inl ⟨_, rfl, _, _, rfl, rfl, by show (0 : Int) < 2147483423; decide, ?_⟩⟩
        have m0 : ∀ z : Int, 0 ≤ z % 2147483423 := fun z => Int.emod_nonneg _ (by decide)
        have ml : ∀ z : Int, z % 2147483423 < 2147483423 := fun z => Int.emod_lt_of_pos _ (by decide)
        refine ⟨_, rfl, _, _, rfl, rfl, _, rfl, if2 (fun e2 => ?_) (fun e2 => ?_)⟩
        · refine ⟨_, rfl, _, rfl, _, rfl, by show 3 ≤ sizeLine; decide, fun p hp => ?_⟩
          exact fin p hp _ _ (by split <;> omega) (m0 _) (ml _)
        · refine ⟨_, rfl, _, _, rfl, rfl, ⟨by decide, by decide, by decide⟩, _, _, rfl, rfl, _, rfl, if2 (fun e3 => ?_) (fun e3 => ?_)⟩
          · refine ⟨_, rfl, _, rfl, _, rfl, by show 3 ≤ sizeLine; decide, fun p hp => ?_⟩
            exact fin p hp _ _ (by split <;> omega) (m0 _) (ml _)
          · refine ⟨_, rfl, by show 3 ≤ sizeLine; decide, fun p hp => ?_⟩
            exact fin p hp _ _ (by decide) (m0 _) (ml _)
      · refine ⟨_, rfl, _, rfl, .inl ⟨_, rfl, _, _, rfl, rfl, by show (0 : Int) < 1999999973; decide, _, _, rfl, rfl, Or.inr (by decide), _, _, rfl, rfl, ?_⟩⟩
        refine ⟨_, rfl, _, _, rfl, rfl, Or.inl (by decide), _, _, rfl, rfl, .inl ⟨_, rfl, _, _, rfl, rfl, by show (0 : Int) < 2147483423; decide, ?_⟩⟩
        have m0 : ∀ z : Int, 0 ≤ z % 2147483423 := fun z => Int.emod_nonneg _ (by decide)
        have ml : ∀ z : Int, z % 2147483423 < 2147483423 := fun z => Int.emod_lt_of_pos _ (by decide)
        refine ⟨_, rfl, _, _, rfl, rfl, _, rfl, if2 (fun e2 => ?_) (fun e2 => ?_)⟩
        · refine ⟨_, rfl, _, rfl, _, rfl, by show 3 ≤ sizeLine; decide, fun p hp => ?_⟩
          exact fin p hp _ _ (by split <;> omega) (m0 _) (ml _)
        · refine ⟨_, rfl, _, _, rfl, rfl, ⟨by decide, by decide, by decide⟩, _, _, rfl, rfl, _, rfl, if2 (fun e3 => ?_) (fun e3 => ?_)⟩
          · refine ⟨_, rfl, _, rfl, _, rfl, by show 3 ≤ sizeLine; decide, fun p hp => ?_⟩
            exact fin p hp _ _ (by split <;> omega) (m0 _) (ml _)
          · refine ⟨_, rfl, by show 3 ≤ sizeLine; decide, fun p hp => ?_⟩
            exact fin p hp _ _ (by decide) (m0 _) (ml _)
end
end V3
set_option maxHeartbeats 4100000
/-! The told turns lead the roots just to the numbers. -/
namespace V3
open PySem.Spec PySem L2 PyProof.Rows RZ GxR
theorem getD_map {xs : List Int} {k : Int} {i : Nat} {x : Int} (h : xs[i]? = some x) : (xs.map (k * ·)).getD i 0 = k * x := by
  rw [List.getD_eq_getElem?_getD, List.getElem?_map, h]
  rfl
theorem map_map_mul (xs : List Int) (k q : Int) : (xs.map (k * ·)).map (q * ·) = xs.map ((q * k) * ·) := by
  rw [List.map_map]
  refine List.map_congr_left fun a _ => ?_
  show q * (k * a) = q * k * a
  rw [Int.mul_assoc]
theorem led_lev {c : Int} {g now : List Int} {T : List TurnI} (hc : 0 < c) (h : LevTo g now T) : ∃ k, 0 < k ∧ ledAll (c, g) T = (k * c, now.map (k * ·)) := by
  induction h with
  | nil => exact ⟨1, by decide, by simp [ledAll]⟩
  | @snoc now T i j x y s h0 hx hy hij hyx hs0 hs1 ih =>
    obtain ⟨k, k0, e⟩ := ih
    have hg : 0 < x - y := by omega
    have q0 := nf_pos2 (n := x - y - s) hg
    have cr := nf_cross (n := x - y - s) hg
    refine ⟨(nf (x - y - s) (x - y)).2 * k, Int.mul_pos q0 k0, ?_⟩
    rw [ledAll_snoc, e]
    unfold ledOne
    simp only []
    rw [getD_map hx, getD_map hy, map_map_mul]
    generalize (nf (x - y - s) (x - y)).1 = p at *
    generalize (nf (x - y - s) (x - y)).2 = q at *
    unfold moveTo
    rw [List.map_set, List.map_set]
    have e1 : p * (k * x) + (q - p) * (k * y) = q * k * (x - s) := by grind
    have e2 : p * (k * y) + (q - p) * (k * x) = q * k * (y + s) := by grind
    rw [e1, e2, Int.mul_assoc q k c]
theorem led_ex {c k : Int} {L now : List Int} {T : List TurnI} (h : ExTo L now T) : ledAll (k * c, L.map (k * ·)) T = (k * c, now.map (k * ·)) := by
  induction h with
  | nil => rfl
  | @snoc now T i j x y h0 hx hy hij ih =>
    rw [ledAll_snoc, ih]
    unfold ledOne
    simp only []
    rw [getD_map hx, getD_map hy, map_map_mul, Int.one_mul, Int.one_mul]
    unfold swapIn
    rw [List.map_set, List.map_set]
    have e1 : 0 * (k * x) + (1 - 0) * (k * y) = k * y := by grind
    have e2 : 0 * (k * y) + (1 - 0) * (k * x) = k * x := by grind
    rw [e1, e2]
theorem led_told {c : Int} {g L t : List Int} {T1 T2 : List TurnI} (hc : 0 < c) (h1 : LevTo g L T1) (h2 : ExTo L t T2) : fr (ledAll (c, g) (T1 ++ T2)).1 (ledAll (c, g) (T1 ++ T2)).2 = fr c t := by
  obtain ⟨k, k0, e⟩ := led_lev hc h1
  rw [ledAll_app, e, led_ex h2]
  exact (fr_up hc k0).symm
theorem lev_ok {B : Int} {g now : List Int} {T : List TurnI} (hg : ∀ x ∈ g, x ≤ B ∧ -B ≤ x) (h : LevTo g now T) : (∀ x ∈ now, x ≤ B ∧ -B ≤ x) ∧ ∀ t ∈ T, TurnOk g.length (2 * B) t := by
  induction h with
  | nil => exact ⟨hg, fun t ht => by cases ht⟩
  | @snoc now T i j x y s h0 hx hy hij hyx hs0 hs1 ih =>
    have bx := ih.1 x (List.mem_of_getElem? hx)
    have by' := ih.1 y (List.mem_of_getElem? hy)
    refine ⟨fun z hz => ?_, fun t ht => ?_⟩
    · rcases mem_set2 hz with e | e | e
      · omega
      · omega
      · exact ih.1 z e
    · rcases List.mem_append.mp ht with h | h
      · exact ih.2 t h
      · rw [List.mem_singleton.mp h]
        obtain ⟨a1, a2, a3, a4⟩ := share_ok (d := x - y - s) (u := x - y) (by omega) (by omega) (by omega)
        have li := (List.getElem?_eq_some_iff.mp hx).1
        have lj := (List.getElem?_eq_some_iff.mp hy).1
        have ln := h0.len
        refine ⟨?_, ?_, ?_, a1, a2, a3, ?_⟩
        · show i < _
          omega
        · show j < _
          omega
        · show i ≠ j
          omega
        · show (nf (x - y - s) (x - y)).2 ≤ 2 * B
          omega
theorem ex_ok {L now : List Int} {T : List TurnI} (h : ExTo L now T) : ∀ t ∈ T, TurnOk L.length (2 ^ 250) t := by
  induction h with
  | nil => exact fun t ht => by cases ht
  | @snoc now T i j x y h0 hx hy hij ih =>
    intro t ht
    rcases List.mem_append.mp ht with h | h
    · exact ih t h
    · rw [List.mem_singleton.mp h]
      have li := (List.getElem?_eq_some_iff.mp hx).1
      have lj := (List.getElem?_eq_some_iff.mp hy).1
      have ln := h0.len
      refine ⟨?_, ?_, ?_, ⟨by show (0 : Int) < 1; decide, by show Int.gcd 0 1 = 1; decide⟩, by show (0 : Int) ≤ 0; decide, by show (0 : Int) ≤ 1; decide, by show (1 : Int) ≤ 2 ^ 250; decide⟩
      · show i < _
        omega
      · show j < _
        omega
      · show i ≠ j
        omega
theorem TurnOk.mono {n : Nat} {G G' : Int} {t : TurnI} (h : TurnOk n G t) (hG : G ≤ G') : TurnOk n G' t := ⟨h.i, h.j, h.ne, h.nf, h.p0, h.pg, Int.le_trans h.g hG⟩
theorem Led.mono {n : Nat} {M M' X X' : Int} {s : Int × List Int} (h : Led n M X s) (hM : M ≤ M') (hX : X ≤ X') : Led n M' X' s := ⟨h.len, h.pos, Int.le_trans h.le hX, fun a ha => by
  have m := h.num a ha
  have := Int.mul_le_mul_of_nonneg_right hM (Int.le_of_lt h.pos)
  omega⟩
theorem ledOne_dvd (s : Int × List Int) (t : TurnI) : s.1 ∣ (ledOne s t).1 := ⟨t.2.2.2, Int.mul_comm _ _⟩
theorem ledAll_dvd : ∀ (T : List TurnI) (s : Int × List Int), s.1 ∣ (ledAll s T).1
  | [], s => Int.dvd_refl _
  | t :: T, s => Int.dvd_trans (ledOne_dvd s t) (ledAll_dvd T (ledOne s t))
/-- one row from the greatest down alone has the same numbers -/
theorem down_one : ∀ {xs ys : List Int}, xs.Perm ys → xs.Pairwise (· ≥ ·) → ys.Pairwise (· ≥ ·) → xs = ys
  | [], ys, h, _, _ => (List.nil_perm.mp h).symm
  | x :: xs, [], h, _, _ => absurd h.length_eq (by simp)
  | x :: xs, y :: ys, h, h1, h2 => by
    obtain ⟨a1, a2⟩ := List.pairwise_cons.mp h1
    obtain ⟨b1, b2⟩ := List.pairwise_cons.mp h2
    have e : x = y := by
      have m1 : x ∈ y :: ys := h.mem_iff.mp List.mem_cons_self
      have m2 : y ∈ x :: xs := h.mem_iff.mpr List.mem_cons_self
      rcases List.mem_cons.mp m1 with r | r
      · exact r
      · rcases List.mem_cons.mp m2 with r2 | r2
        · exact r2.symm
        · have := b1 x r
          have := a1 y r2
          omega
    subst e
    rw [down_one (List.Perm.cons_inv h) a2 b2]
end V3
set_option maxHeartbeats 16000000
namespace V3
open PySem.Spec PySem L2 PyProof.Rows RZ GxR
theorem But.b2 {a : Addr} {Pl Pe : Addr} {H H' : Hp} (h : But2 Pl Pe H H') {b : Addr} {o : HO} (n1 : b ≠ Pl) (n2 : b ≠ Pe) (e : H b = some o) : H' b = some o := h b o n1 n2 e
theorem But2.kt {Pl Pe : Addr} {H H' : Hp} (h : But2 Pl Pe H H') (h1 : TabG H Pl) (h2 : TabG H Pe) : KeepT H H' := by
  obtain ⟨p1, e1, _⟩ := h1
  obtain ⟨p2, e2, _⟩ := h2
  exact ⟨fun b xs e => h b _ (fun z => by rw [z, e1] at e; cases e) (fun z => by rw [z, e2] at e; cases e) e, fun b o u e => h b _ (fun z => by rw [z, e1] at e; cases e) (fun z => by rw [z, e2] at e; cases e) e⟩
theorem But2.trans {Pl Pe : Addr} {H H1 H2 : Hp} (a : But2 Pl Pe H H1) (b : But2 Pl Pe H1 H2) : But2 Pl Pe H H2 := fun c o n1 n2 h => b c o n1 n2 (a c o n1 n2 h)
section
variable {mg : Str → Option Value} {base : Heap} {K : PySem.W.Frag} {P : Program} {w : World}
abbrev s__law_right : Stmt := topS 56
abbrev N__law_right : List Str := ["well", "wide", "tops", "steps", "slant", "due", "told"]
theorem sc__law_right : FnScope N__law_right ["well"] (defScope s__law_right) := ⟨rfl, rfl, rfl, by decide +kernel, rfl, by decide +kernel, by decide +kernel⟩
def But3 (a Pl Pe : Addr) (H H' : Hp) : Prop := ∀ b o, b ≠ a → b ≠ Pl → b ≠ Pe → H b = some o → H' b = some o
def spRight (Pl Pe : Addr) : Sp := fun vs H Q _ => ∃ a : Addr, vs = [.ref a] ∧ Well H a 0 ∧ TabG H Pl ∧ TabG H Pe ∧ ∀ H', But3 a Pl Pe H H' → TabG H' Pl → TabG H' Pe → Q (.bl true) H'
set_option maxHeartbeats 64000000 in
theorem ok_right (T : Gs mg) {Pl Pe : Addr} (hPP : Pl ≠ Pe) (Dwide : Df P w K mg base "_law_wide" 3 ["well", "most"] spWide) (Dtops : Df P w K mg base "_law_tops" 3 ["well", "wide"] (spTops K)) (Dsteps : Df P w K mg base "_law_steps" 2 ["well", "wide"] (spSteps K))
    (Dled : Df P w K mg base "_law_led" 3 ["slant", "steps"] (spTurned K)) (Ddraw : Df P w K mg base "_law_draw" 1 ["well", "limit"] spDraw) (Dslid : Df P w K mg base "_law_slid" 3 ["well", "slant"] (spSlid K)) (Dls : Df P w K mg base "_law_is_spread" 3 ["tops", "slant"] (spLSpread K))
    (DS : Df P w K mg base "_law_same" 5 ["told", "due"] (spSame K 4)) (Dis : Df P w K mg base "is_spread" 5 ["roots", "diagonal"] (spIsSpread K)) (DisK : DfK P w K mg base "is_spread" 5 "roots" "diagonal" (spIsSpread K))
    (Dtu : Df P w K mg base "turned" 6 ["diagonal", "turns"] (spTurned K)) (DtuK : DfK P w K mg base "turned" 6 "diagonal" "turns" (spTurned K)) (Dtt : Df P w K mg base "turns_to" 5 ["roots", "diagonal"] (spTurnsTo K Pl Pe)) (DttK : DfK P w K mg base "turns_to" 5 "roots" "diagonal" (spTurnsTo K Pl Pe))
    (Das : Df P w K mg base "_law_are_steps" 6 ["thing", "wide"] (spAreSteps K)) (F : At K mg "_law_right" s__law_right) : Df P w K mg base "_law_right" 7 ["well"] (spRight Pl Pe) := by
  have sc := sc__law_right
  refine Df.mk' F sc (fun vs H Q E h => ?_) (fun _ _ _ _ _ _ us hl => match us, hl with | [_], _ => rfl) (fun f cdv A outer s H vs Q E hr h => ?_)
  · obtain ⟨a, rfl, _⟩ := h
    rfl
  · obtain ⟨a, rfl, hw, htl, hte, q⟩ := h
    refine ⟨_, (pss_cons (ps_set (i := 1) sc.nd rfl (Or.inl rfl) (pe_fn Dwide (by decide) hr (pa_cons (pv 0) (pa_cons pe_int pa_nil))))
  (pss_cons (ps_par (i := 2) (j := 3) rfl sc.nd rfl rfl (by decide) rfl rfl (pa_cons (pe_fn Dtops (by decide) hr (pa_cons (pv 0) (pa_cons (pv 1) pa_nil))) (pa_cons (pe_fn Dsteps (by decide) hr (pa_cons (pv 0) (pa_cons (pv 1) pa_nil))) pa_nil)) (by rfl))
  (pss_cons (ps_set (i := 4) sc.nd rfl (Or.inl rfl) (pe_fn Dled (by decide) hr (pa_cons (pv 2) (pa_cons (pv 3) pa_nil))))
  (pss_cons (ps_if (pt_cmpR op_eq (pe_fn Ddraw (by decide) hr (pa_cons (pv 0) (pa_cons pe_int pa_nil))) pe_int (nomark _))
   (pss_one (ps_set (i := 4) sc.nd rfl (Or.inl rfl) (pe_fn Dslid (by decide) hr (pa_cons (pv 0) (pa_cons (pv 4) pa_nil)))))
   pss_nil)
  (pss_cons (ps_set (i := 5) sc.nd rfl (Or.inl rfl) (pe_fn Dls (by decide) hr (pa_cons (pv 2) (pa_cons (pv 4) pa_nil))))
  (pss_cons (ps_if (pt_not (pt_val (pe_fn DS (by decide) hr (pa_cons (pe_lst (pa_cons (pe_fn Dis (by decide) hr (pa_cons (pv 2) (pa_cons (pv 4) pa_nil))) (pa_cons (pe_fnK DisK (by decide) hr (pk_cons (pv 4) (pk_cons (pv 2) pk_nil))) pa_nil))) (pa_cons (pe_lst (pa_cons (pv 5) (pa_cons (pv 5) pa_nil))) pa_nil)))))
   (pss_one (ps_ret pe_bl))
   pss_nil)
  (pss_cons (ps_if (pt_not (pt_val (pe_fn DS (by decide) hr (pa_cons (pe_lst (pa_cons (pe_fn Dtu (by decide) hr (pa_cons (pv 2) (pa_cons (pv 3) pa_nil))) (pa_cons (pe_fn Dtu (by decide) hr (pa_cons (pv 4) (pa_cons (pv 3) pa_nil))) pa_nil))) (pa_cons (pe_lst (pa_cons (pe_fn Dled (by decide) hr (pa_cons (pv 2) (pa_cons (pv 3) pa_nil))) (pa_cons (pe_fn Dled (by decide) hr (pa_cons (pv 4) (pa_cons (pv 3) pa_nil))) pa_nil))) pa_nil)))))
   (pss_one (ps_ret pe_bl))
   pss_nil)
  (pss_cons (ps_set (i := 6) sc.nd rfl (Or.inl rfl) (pe_fn Dtt (by decide) hr (pa_cons (pv 2) (pa_cons (pv 4) pa_nil))))
  (pss_cons (ps_if (pt_not (pt_val (pv 5)))
   (pss_one (ps_ret (pe_and (pe_cmpR op_isN (pv 6) pe_non (nomark _)) (pe_one (pe_cmpR op_isN (pe_fnK DttK (by decide) hr (pk_cons (pv 4) (pk_cons (pv 2) pk_nil))) pe_non (nomark _))))))
   pss_nil)
  (pss_cons (ps_if (PW.pt (pw_or (pt_cmpR op_isN (pv 6) pe_non (nomark _)) (pw_or (pt_not (pt_val (pe_callB call_isi (by rfl) T.isinstance (by decide +kernel) (pa_cons (pv 6) (pa_cons (pe_bltn (v := .ty "tuple") (by rfl) T.tuple_ (by decide +kernel) rfl) pa_nil))))) (pw_or (pt_not (pt_val (pe_fn Das (by decide) hr (pa_cons (pv 6) (pa_cons (pv 1) pa_nil))))) (pw_or1 (pt_cmpR op_gt (pe_callB call_len_seq (by rfl) T.len PySem.boot_len (pa_cons (pv 6) pa_nil)) (pe_op op_sub (pe_op op_mul pe_int (pv 1)) pe_int) (nomark _)))))))
   (pss_one (ps_ret pe_bl))
   pss_nil)
  (pss_cons (ps_if (pt_not (pt_val (pe_fn DS (by decide) hr (pa_cons (pe_fn Dled (by decide) hr (pa_cons (pv 2) (pa_cons (pv 6) pa_nil))) (pa_cons (pv 4) pa_nil)))))
   (pss_one (ps_ret pe_bl))
   pss_nil)
  (pss_one (ps_ret (pe_fn DS (by decide) hr (pa_cons (pe_fnK DtuK (by decide) hr (pk_cons (pv 6) (pk_cons (pv 2) pk_nil))) (pa_cons (pv 4) pa_nil)))))))))))))))), ?_⟩
    have neW : ∀ {Hx : Hp} {Px : Addr}, TabG Hx Px → Well Hx a 0 → a ≠ Px := fun {Hx Px} t w e => by
      obtain ⟨ps, hp, _⟩ := t
      obtain ⟨xs, hx⟩ := w.lst
      rw [e, hp] at hx
      cases hx
    have nl := neW htl hw
    have ne := neW hte hw
    refine ⟨_, rfl, a, 0, rfl, hw, by decide, fun H1 n b1 w1 n1 n6 => ?_⟩
    refine ⟨_, rfl, _, rfl, a, n, 1, rfl, w1, by decide, n6, fun H2 pt ts2 as b2 w2 hpt hts la ba hsrt => ?_⟩
    refine ⟨_, rfl, _, rfl, a, n, 25, rfl, w2, by decide, n1, n6, fun H3 ps st2 ts b3 w3 hps hst lts oks => ?_⟩
    refine ⟨_, _, rfl, ?_⟩
    have dtops3 : DpT K H3 (.ref pt) (rowD (fr D0 as)) := DpT.keep (b3.ktW w2) (.tup (SqT.of hpt) hts)
    have dsteps3 : DpT K H3 (.ref ps) (.tuple (ts.map turnD)) := .tup (SqT.of hps) hst
    have led0 : Led n (2 ^ 20) (2 ^ 140) (D0, as) := ⟨la, D0_pos, D0_le, ba⟩
    have okG : ∀ t ∈ ts, TurnOk n (2 ^ 250) t := fun t ht => (oks t ht).mono (by decide)
    have led1 := Led.all (show (0 : Int) < 5 by decide) ts led0 oks
    have p5 : (5 : Int) ^ ts.length * 2 ^ 140 ≤ 2 ^ 160 := by
      have h : ∀ k : Nat, k ≤ 4 → (5 : Int) ^ k * 2 ^ 140 ≤ 2 ^ 160 := by decide +kernel
      exact h _ lts
    have led2 := led1.mono (Int.le_refl (2 ^ 20)) p5
    have dv0 : D0 ∣ (ledAll (D0, as) ts).1 := ledAll_dvd ts (D0, as)
    refine ⟨_, rfl, _, rfl, _, _, n, (D0, as), ts, rfl, dtops3, dsteps3, n1, n6, by omega, led0.mono (by decide) (by decide), okG, fun H4 pv4 xs4 s4 hp4 hx4 => ?_⟩
    have dslant4 : DpT K H4 (.ref pv4) (rowD (fr (ledAll (D0, as) ts).1 (ledAll (D0, as) ts).2)) := .tup (SqT.of hp4) hx4
    have dtops4 := DpT.keep (Same.kt s4) dtops3
    have dsteps4 := DpT.keep (Same.kt s4) dsteps3
    have w4 := w3.same s4
    have bH4 : But a H H4 := ((b1.trans b2).trans b3).trans (Same.but s4)
    clear dtops3 dsteps3
    generalize hsl : ledAll (D0, as) ts = sl at *
    obtain ⟨D1, bs0⟩ := sl
    simp only [] at *
    refine ⟨_, rfl, a, _, 25 + 30, rfl, w4, by decide, by decide, by decide, fun H5 dd b5 w5 _ _ => ?_⟩
    have dtops5 := DpT.keep (b5.ktW w4) dtops4
    have dsteps5 := DpT.keep (b5.ktW w4) dsteps4
    have dslant5 := DpT.keep (b5.ktW w4) dslant4
    have bH5 := bH4.trans b5
    have D1p : 0 < D1 := led2.pos
    refine ⟨rfl, _, rfl, if2 (fun _ => ?_) (fun _ => ?_)⟩
    · refine ⟨_, rfl, _, rfl, a, _, n, 25 + 30 + 1, D1, bs0, rfl, w5, by decide, dslant5, n1, n6, led2, fun H6 p6 ys6 bs b6 w6 hp6 hy6 led3 => ?_⟩
      have W : W2 n (fr D0 as) (fr (1000 * D1) bs) := W2.mk' n1 n6 la led3.len D0_pos led3.pos (Int.dvd_trans dv0 (Int.dvd_mul_left _ _)) led3.le (fun x hx => by have := ba x hx; have := D0_pos; omega) led3.num hsrt
      have ledE : Led n (2 ^ 100) (2 ^ 400) ((1000 * D1), bs) := led3.mono (by decide) (by decide)
      have dtops : DpT K H6 (.ref pt) (rowD (fr D0 as)) := DpT.keep (b6.ktW w5) dtops5
      have dsteps : DpT K H6 (.ref ps) (.tuple (ts.map turnD)) := DpT.keep (b6.ktW w5) dsteps5
      have dslant : DpT K H6 (.ref p6) (rowD (fr (1000 * D1) bs)) := .tup (SqT.of hp6) hy6
      have bH : But a H H6 := bH5.trans b6
      have tl0 : TabG H6 Pl := TabG.butW htl bH hw
      have te0 : TabG H6 Pe := TabG.butW hte bH hw
      obtain ⟨slant, hslant⟩ : ∃ slant, slant = fr (1000 * D1) bs := ⟨_, rfl⟩
      have pr := W.p
      rw [← hslant] at W pr dslant
      obtain ⟨tops, htops⟩ : ∃ tops, tops = fr D0 as := ⟨_, rfl⟩
      rw [← htops] at W pr dtops
      have cp := pr.pos
      have csm := W.small
      obtain ⟨b, hbd⟩ : ∃ b, b = sprd 0 (wholeRow (common tops slant) tops) (wholeRow (common tops slant) (downR slant)) := ⟨_, rfl⟩
      have pos : ∀ x ∈ slant, 0 < x.2 := fun x hx => (pr.nf2 x hx).pos
      have dpm := down_perm pos
      have hb : ∀ ns : List Int, ns.Perm (wholeRow (common tops slant) slant) → ns.Pairwise (· ≥ ·) → sprd 0 (wholeRow (common tops slant) tops) ns = b := fun ns pm od => by
        rw [hbd]
        congr 1
        refine down_one (pm.trans (dpm.map _).symm) od (srt_whole cp (fun x hx => pos x (dpm.mem_iff.mp hx)) (fun x hx => dvd_common2 (dpm.mem_iff.mp hx)) (down_srt pos))
      clear hbd
      -- due
      refine ⟨_, rfl, _, rfl, _, _, n, tops, slant, b, rfl, dtops.dp, dslant, W, hb, fun Ha sa => ?_⟩
      -- [is_spread(tops, slant), is_spread(diagonal=slant, roots=tops)] and [due, due]
      refine ⟨_, rfl, _, rfl, _, _, tops, slant, b, rfl, Dp.same sa dtops.dp, Dp.same sa dslant.dp, pr, hb, fun Hb sb => ?_⟩
      have sab := sa.trans sb
      refine ⟨_, rfl, _, rfl, _, _, tops, slant, b, rfl, Dp.same sab dtops.dp, Dp.same sab dslant.dp, pr, hb, fun Hc sc3 => ?_⟩
      have sac := sab.trans sc3
      refine ⟨by show 2 ≤ sizeLine; decide, fun L1 hL1 => ?_⟩
      have sl1 : Same Hc (upd Hc L1 (.lst [.bl b, .bl b])) := same_upd hL1
      have el1 : (upd Hc L1 (.lst [.bl b, .bl b])) L1 = some (.lst [.bl b, .bl b]) := upd_same
      generalize upd Hc L1 (.lst [.bl b, .bl b]) = Hd at sl1 el1
      refine ⟨_, rfl, _, rfl, by show 2 ≤ sizeLine; decide, fun L2 hL2 => ?_⟩
      have sl2 : Same Hd (upd Hd L2 (.lst [.bl b, .bl b])) := same_upd hL2
      have el2 : (upd Hd L2 (.lst [.bl b, .bl b])) L2 = some (.lst [.bl b, .bl b]) := upd_same
      generalize upd Hd L2 (.lst [.bl b, .bl b]) = He at sl2 el2
      refine ⟨_, _, .list [.bool b, .bool b], rfl, .lst (SqL.of (sl2 _ _ el1)) (.cons (.bl b) (.cons (.bl b) .nil)), .lst (SqL.of el2) (.cons (.bl b) (.cons (.bl b) .nil)), .lst (by show 2 ≤ 1000; decide) (fun d hd => by
        simp only [List.mem_cons, List.not_mem_nil, or_false] at hd
        rcases hd with rfl | rfl <;> exact .bl _ _), fun Hf sf => ?_⟩
      have saf := sac.trans ((sl1.trans sl2).trans sf)
      refine ⟨_, rfl, ifF rfl ?_⟩
      -- [turned(tops, steps), turned(slant, steps)] and [_law_led(tops, steps), _law_led(slant, steps)]
      have ltA : Led n (2 ^ 100) (2 ^ 400) (D0, as) := led0.mono (by decide) (by decide)
      have dtA : ∀ {Hx : Hp}, Same H6 Hx → DpT K Hx (.ref pt) (rowD (fr (D0, as).1 (D0, as).2)) := fun s => by
        show DpT K _ _ (rowD (fr D0 as))
        rw [← htops]
        exact DpT.keep (Same.kt s) dtops
      have dsA : ∀ {Hx : Hp}, Same H6 Hx → DpT K Hx (.ref p6) (rowD (fr ((1000 * D1), bs).1 ((1000 * D1), bs).2)) := fun s => by
        show DpT K _ _ (rowD (fr (1000 * D1) bs))
        rw [← hslant]
        exact DpT.keep (Same.kt s) dslant
      have dqA : ∀ {Hx : Hp}, Same H6 Hx → DpT K Hx (.ref ps) (.tuple (ts.map turnD)) := fun s => DpT.keep (Same.kt s) dsteps
      refine ⟨_, rfl, _, rfl, _, _, n, (D0, as), ts, rfl, dtA saf, dqA saf, n1, n6, by omega, ltA, okG, fun Hg pg xg sg hpg hxg => ?_⟩
      have sag := saf.trans sg
      refine ⟨_, rfl, _, rfl, _, _, n, ((1000 * D1), bs), ts, rfl, dsA sag, dqA sag, n1, n6, by omega, ledE, okG, fun Hh ph xh sh hph hxh => ?_⟩
      have sah := sag.trans sh
      refine ⟨by show 2 ≤ sizeLine; decide, fun L3 hL3 => ?_⟩
      have sl3 : Same Hh (upd Hh L3 (.lst [.ref pg, .ref ph])) := same_upd hL3
      have el3 : (upd Hh L3 (.lst [.ref pg, .ref ph])) L3 = some (.lst [.ref pg, .ref ph]) := upd_same
      generalize upd Hh L3 (.lst [.ref pg, .ref ph]) = Hi at sl3 el3
      have sai := sah.trans sl3
      refine ⟨_, rfl, _, rfl, _, _, n, (D0, as), ts, rfl, dtA sai, dqA sai, n1, n6, by omega, ltA, okG, fun Hj pj xj sj hpj hxj => ?_⟩
      have saj := sai.trans sj
      refine ⟨_, rfl, _, rfl, _, _, n, ((1000 * D1), bs), ts, rfl, dsA saj, dqA saj, n1, n6, by omega, ledE, okG, fun Hk pk xk sk hpk hxk => ?_⟩
      have sak := saj.trans sk
      refine ⟨by show 2 ≤ sizeLine; decide, fun L4 hL4 => ?_⟩
      have sl4 : Same Hk (upd Hk L4 (.lst [.ref pj, .ref pk])) := same_upd hL4
      have el4 : (upd Hk L4 (.lst [.ref pj, .ref pk])) L4 = some (.lst [.ref pj, .ref pk]) := upd_same
      generalize upd Hk L4 (.lst [.ref pj, .ref pk]) = Hl at sl4 el4
      have rA : ∀ (s' : Int × List Int), s'.2.length = n → Lay 2 (rowD (fr (ledAll s' ts).1 (ledAll s' ts).2)) := fun s' hs' => lay_row (by rw [fr_len, ledAll_len, hs']; omega) 0
      refine ⟨_, _, .list [rowD (fr (ledAll (D0, as) ts).1 (ledAll (D0, as) ts).2), rowD (fr (ledAll ((1000 * D1), bs) ts).1 (ledAll ((1000 * D1), bs) ts).2)], rfl,
        .lst (SqL.of (((sj.trans sk).trans sl4) _ _ el3)) (.cons (Dp.same (((sh.trans sl3).trans (sj.trans sk)).trans sl4) (DpT.dp (.tup (SqT.of hpg) hxg))) (.cons (Dp.same ((sl3.trans (sj.trans sk)).trans sl4) (DpT.dp (.tup (SqT.of hph) hxh))) .nil)),
        .lst (SqL.of el4) (.cons (Dp.same (sk.trans sl4) (DpT.dp (.tup (SqT.of hpj) hxj))) (.cons (Dp.same sl4 (DpT.dp (.tup (SqT.of hpk) hxk))) .nil)), .lst (by show 2 ≤ 1000; decide) (fun d hd => by
        simp only [List.mem_cons, List.not_mem_nil, or_false] at hd
        rcases hd with rfl | rfl
        · exact rA _ la
        · exact rA _ ledE.len), fun Hm sm => ?_⟩
      have sam := sak.trans (sl4.trans sm)
      refine ⟨_, rfl, ifF rfl ?_⟩
      -- told
      have tl1 := TabG.same tl0 sam
      have te1 := TabG.same te0 sam
      have fin : ∀ H', But2 Pl Pe Hm H' → TabG H' Pl → TabG H' Pe → Q (.bl true) H' := fun H' b2 t1 t2 => q H' (fun bb o x1 x2 x3 e => b2 _ _ x2 x3 (sam _ _ (bH _ _ x1 e))) t1 t2
      refine ⟨_, rfl, _, rfl, _, _, tops, slant, b, rfl, Dp.same sam dtops.dp, Dp.same sam dslant.dp, pr, tl1, te1, hPP, hb, fun hf Hn b2n tln ten => ?_, fun ht Hn Dn2 tv Lv T1 T2 b2n tln ten hDn htv hlev hex l1 l2 => ?_⟩
      · subst hf
        refine ⟨_, rfl, _, rfl, ifT rfl ?_⟩
        refine ⟨_, rfl, rfl, _, rfl, ifT rfl ?_⟩
        have k1 := b2n.kt tl1 te1
        refine ⟨_, rfl, _, rfl, _, _, tops, slant, false, rfl, (DpT.keep ((Same.kt sam).trans k1) dtops).dp, (DpT.keep ((Same.kt sam).trans k1) dslant).dp, pr, tln, ten, hPP, hb, fun _ Ho b2o tlo teo => ?_, fun hc => by cases hc⟩
        exact ⟨rfl, fin Ho (b2n.trans b2o) tlo teo⟩
      · subst ht
        have k1 := b2n.kt tl1 te1
        have kk := (Same.kt sam).trans k1
        have lG : (wholeRow (common tops slant) tops).length = n := by rw [wholeRow, List.length_map, W.n]
        have htn := W.n
        obtain ⟨lb, lok⟩ := lev_ok (B := 2 ^ 21 * common tops slant) W.bt hlev
        have eok := ex_ok hex
        have lL := hlev.len
        have okT : ∀ t ∈ T1 ++ T2, TurnOk n (2 ^ 250) t := fun t ht => by
          rcases List.mem_append.mp ht with h | h
          · have := lok t h
            rw [lG] at this
            refine this.mono ?_
            have e2 : (2 : Int) * (2 ^ 21 * 2 ^ 170) ≤ 2 ^ 250 := by decide
            omega
          · have := eok t h
            rw [lL, lG] at this
            exact this
        have lT : (T1 ++ T2).length ≤ 10 ∧ (T1 ++ T2).length ≤ 2 * n - 2 := by
          rw [List.length_append]
          omega
        have ltv : tv.length = (T1 ++ T2).length := by rw [dtAll_len htv, List.length_map]
        have dtold : DpT K Hn (.ref Dn2) (.tuple ((T1 ++ T2).map turnD)) := .tup (SqT.of hDn) htv
        refine ⟨_, rfl, _, rfl, ifF rfl ?_⟩
        refine ⟨_, rfl, rfl, _, rfl, ifF (by simp) ?_⟩
        refine ⟨_, rfl, _, _, _, _, _, rfl, .ty _, tyT (SqT.of hDn), rfl, _, rfl, ifF rfl ?_⟩
        refine ⟨_, rfl, _, rfl, _, T1 ++ T2, n, rfl, dtold.dp, okT, fun Ho so => ?_⟩
        refine ⟨_, rfl, ifF rfl ?_⟩
        refine ⟨_, rfl, _, _, rfl, .inr (SqT.of (so _ _ hDn)), _, rfl, _, _, rfl, rfl, Or.inl (by decide), _, _, rfl, rfl, _, _, rfl, rfl, _, rfl, ifF (by rw [ltv]; simp; omega) ?_⟩
        -- the told turns lead the roots to the numbers
        have lc : Led n (2 ^ 100) (2 ^ 400) (common tops slant, wholeRow (common tops slant) tops) := ⟨lG, cp, Int.le_trans csm (by decide), fun x hx => by
          have := W.bt x hx
          have e3 : (2 : Int) ^ 21 ≤ 2 ^ 100 := by decide
          have := Int.mul_le_mul_of_nonneg_right e3 (Int.le_of_lt cp)
          simp only []
          omega⟩
        have etops : fr (common tops slant) (wholeRow (common tops slant) tops) = tops := fr_whole cp pr.nf1 fun q hq => dvd_common1 hq
        have eslant : fr (common tops slant) (wholeRow (common tops slant) slant) = slant := fr_whole cp pr.nf2 fun q hq => dvd_common2 hq
        have etold := led_told cp hlev hex
        rw [eslant] at etold
        have kHo : ∀ {Hx : Hp}, Same Ho Hx → KeepT H6 Hx := fun s => kk.trans (Same.kt (so.trans s))
        have dtB : ∀ {Hx : Hp}, Same Ho Hx → DpT K Hx (.ref pt) (rowD (fr (common tops slant, wholeRow (common tops slant) tops).1 (common tops slant, wholeRow (common tops slant) tops).2)) := fun s => by
          show DpT K _ _ (rowD (fr (common tops slant) (wholeRow (common tops slant) tops)))
          rw [etops]
          exact DpT.keep (kHo s) dtops
        have dqB : ∀ {Hx : Hp}, Same Ho Hx → DpT K Hx (.ref Dn2) (.tuple ((T1 ++ T2).map turnD)) := fun s => DpT.keep (Same.kt (so.trans s)) dtold
        have laySl : Lay 3 (rowD slant) := lay_row (by have := pr.len; have := pr.l6; omega) 1
        refine ⟨_, rfl, _, rfl, _, _, n, (common tops slant, wholeRow (common tops slant) tops), T1 ++ T2, rfl, dtB (Same.refl _), dqB (Same.refl _), n1, n6, lT.1, lc, okT, fun Hq pq xq sq hpq hxq => ?_⟩
        rw [etold] at hxq
        refine ⟨_, rfl, _, _, rowD slant, rfl, DpT.dp (.tup (SqT.of hpq) hxq), (DpT.keep (kHo sq) dslant).dp, laySl, fun Hr sr => ?_⟩
        have sqr := sq.trans sr
        refine ⟨_, rfl, ifF rfl ?_⟩
        refine ⟨_, rfl, _, rfl, _, _, n, (common tops slant, wholeRow (common tops slant) tops), T1 ++ T2, rfl, dtB sqr, dqB sqr, n1, n6, lT.1, lc, okT, fun Hs ps2 xs2 ss2 hps2 hxs2 => ?_⟩
        rw [etold] at hxs2
        refine ⟨_, rfl, _, _, rowD slant, rfl, DpT.dp (.tup (SqT.of hps2) hxs2), (DpT.keep (kHo (sqr.trans ss2)) dslant).dp, laySl, fun Ht st => ?_⟩
        have sot := so.trans ((sqr.trans ss2).trans st)
        exact fin Ht (fun bb o x1 x2 e => sot _ _ (b2n _ _ x1 x2 e)) (TabG.same tln sot) (TabG.same ten sot)
    · have led3 : Led n (2 ^ 21) (2 ^ 170) (D1, bs0) := led2.mono (by decide) (by decide)
      have W : W2 n (fr D0 as) (fr D1 bs0) := W2.mk' n1 n6 la led3.len D0_pos led3.pos dv0 led3.le (fun x hx => by have := ba x hx; have := D0_pos; omega) led3.num hsrt
      have ledE : Led n (2 ^ 100) (2 ^ 400) (D1, bs0) := led3.mono (by decide) (by decide)
      have dtops : DpT K H5 (.ref pt) (rowD (fr D0 as)) := dtops5
      have dsteps : DpT K H5 (.ref ps) (.tuple (ts.map turnD)) := dsteps5
      have dslant : DpT K H5 (.ref pv4) (rowD (fr D1 bs0)) := dslant5
      have bH : But a H H5 := bH5
      have tl0 : TabG H5 Pl := TabG.butW htl bH hw
      have te0 : TabG H5 Pe := TabG.butW hte bH hw
      obtain ⟨slant, hslant⟩ : ∃ slant, slant = fr D1 bs0 := ⟨_, rfl⟩
      have pr := W.p
      rw [← hslant] at W pr dslant
      obtain ⟨tops, htops⟩ : ∃ tops, tops = fr D0 as := ⟨_, rfl⟩
      rw [← htops] at W pr dtops
      have cp := pr.pos
      have csm := W.small
      obtain ⟨b, hbd⟩ : ∃ b, b = sprd 0 (wholeRow (common tops slant) tops) (wholeRow (common tops slant) (downR slant)) := ⟨_, rfl⟩
      have pos : ∀ x ∈ slant, 0 < x.2 := fun x hx => (pr.nf2 x hx).pos
      have dpm := down_perm pos
      have hb : ∀ ns : List Int, ns.Perm (wholeRow (common tops slant) slant) → ns.Pairwise (· ≥ ·) → sprd 0 (wholeRow (common tops slant) tops) ns = b := fun ns pm od => by
        rw [hbd]
        congr 1
        refine down_one (pm.trans (dpm.map _).symm) od (srt_whole cp (fun x hx => pos x (dpm.mem_iff.mp hx)) (fun x hx => dvd_common2 (dpm.mem_iff.mp hx)) (down_srt pos))
      clear hbd
      -- due
      refine ⟨_, rfl, _, rfl, _, _, n, tops, slant, b, rfl, dtops.dp, dslant, W, hb, fun Ha sa => ?_⟩
      -- [is_spread(tops, slant), is_spread(diagonal=slant, roots=tops)] and [due, due]
      refine ⟨_, rfl, _, rfl, _, _, tops, slant, b, rfl, Dp.same sa dtops.dp, Dp.same sa dslant.dp, pr, hb, fun Hb sb => ?_⟩
      have sab := sa.trans sb
      refine ⟨_, rfl, _, rfl, _, _, tops, slant, b, rfl, Dp.same sab dtops.dp, Dp.same sab dslant.dp, pr, hb, fun Hc sc3 => ?_⟩
      have sac := sab.trans sc3
      refine ⟨by show 2 ≤ sizeLine; decide, fun L1 hL1 => ?_⟩
      have sl1 : Same Hc (upd Hc L1 (.lst [.bl b, .bl b])) := same_upd hL1
      have el1 : (upd Hc L1 (.lst [.bl b, .bl b])) L1 = some (.lst [.bl b, .bl b]) := upd_same
      generalize upd Hc L1 (.lst [.bl b, .bl b]) = Hd at sl1 el1
      refine ⟨_, rfl, _, rfl, by show 2 ≤ sizeLine; decide, fun L2 hL2 => ?_⟩
      have sl2 : Same Hd (upd Hd L2 (.lst [.bl b, .bl b])) := same_upd hL2
      have el2 : (upd Hd L2 (.lst [.bl b, .bl b])) L2 = some (.lst [.bl b, .bl b]) := upd_same
      generalize upd Hd L2 (.lst [.bl b, .bl b]) = He at sl2 el2
      refine ⟨_, _, .list [.bool b, .bool b], rfl, .lst (SqL.of (sl2 _ _ el1)) (.cons (.bl b) (.cons (.bl b) .nil)), .lst (SqL.of el2) (.cons (.bl b) (.cons (.bl b) .nil)), .lst (by show 2 ≤ 1000; decide) (fun d hd => by
        simp only [List.mem_cons, List.not_mem_nil, or_false] at hd
        rcases hd with rfl | rfl <;> exact .bl _ _), fun Hf sf => ?_⟩
      have saf := sac.trans ((sl1.trans sl2).trans sf)
      refine ⟨_, rfl, ifF rfl ?_⟩
      -- [turned(tops, steps), turned(slant, steps)] and [_law_led(tops, steps), _law_led(slant, steps)]
      have ltA : Led n (2 ^ 100) (2 ^ 400) (D0, as) := led0.mono (by decide) (by decide)
      have dtA : ∀ {Hx : Hp}, Same H5 Hx → DpT K Hx (.ref pt) (rowD (fr (D0, as).1 (D0, as).2)) := fun s => by
        show DpT K _ _ (rowD (fr D0 as))
        rw [← htops]
        exact DpT.keep (Same.kt s) dtops
      have dsA : ∀ {Hx : Hp}, Same H5 Hx → DpT K Hx (.ref pv4) (rowD (fr (D1, bs0).1 (D1, bs0).2)) := fun s => by
        show DpT K _ _ (rowD (fr D1 bs0))
        rw [← hslant]
        exact DpT.keep (Same.kt s) dslant
      have dqA : ∀ {Hx : Hp}, Same H5 Hx → DpT K Hx (.ref ps) (.tuple (ts.map turnD)) := fun s => DpT.keep (Same.kt s) dsteps
      refine ⟨_, rfl, _, rfl, _, _, n, (D0, as), ts, rfl, dtA saf, dqA saf, n1, n6, by omega, ltA, okG, fun Hg pg xg sg hpg hxg => ?_⟩
      have sag := saf.trans sg
      refine ⟨_, rfl, _, rfl, _, _, n, (D1, bs0), ts, rfl, dsA sag, dqA sag, n1, n6, by omega, ledE, okG, fun Hh ph xh sh hph hxh => ?_⟩
      have sah := sag.trans sh
      refine ⟨by show 2 ≤ sizeLine; decide, fun L3 hL3 => ?_⟩
      have sl3 : Same Hh (upd Hh L3 (.lst [.ref pg, .ref ph])) := same_upd hL3
      have el3 : (upd Hh L3 (.lst [.ref pg, .ref ph])) L3 = some (.lst [.ref pg, .ref ph]) := upd_same
      generalize upd Hh L3 (.lst [.ref pg, .ref ph]) = Hi at sl3 el3
      have sai := sah.trans sl3
      refine ⟨_, rfl, _, rfl, _, _, n, (D0, as), ts, rfl, dtA sai, dqA sai, n1, n6, by omega, ltA, okG, fun Hj pj xj sj hpj hxj => ?_⟩
      have saj := sai.trans sj
      refine ⟨_, rfl, _, rfl, _, _, n, (D1, bs0), ts, rfl, dsA saj, dqA saj, n1, n6, by omega, ledE, okG, fun Hk pk xk sk hpk hxk => ?_⟩
      have sak := saj.trans sk
      refine ⟨by show 2 ≤ sizeLine; decide, fun L4 hL4 => ?_⟩
      have sl4 : Same Hk (upd Hk L4 (.lst [.ref pj, .ref pk])) := same_upd hL4
      have el4 : (upd Hk L4 (.lst [.ref pj, .ref pk])) L4 = some (.lst [.ref pj, .ref pk]) := upd_same
      generalize upd Hk L4 (.lst [.ref pj, .ref pk]) = Hl at sl4 el4
      have rA : ∀ (s' : Int × List Int), s'.2.length = n → Lay 2 (rowD (fr (ledAll s' ts).1 (ledAll s' ts).2)) := fun s' hs' => lay_row (by rw [fr_len, ledAll_len, hs']; omega) 0
      refine ⟨_, _, .list [rowD (fr (ledAll (D0, as) ts).1 (ledAll (D0, as) ts).2), rowD (fr (ledAll (D1, bs0) ts).1 (ledAll (D1, bs0) ts).2)], rfl,
        .lst (SqL.of (((sj.trans sk).trans sl4) _ _ el3)) (.cons (Dp.same (((sh.trans sl3).trans (sj.trans sk)).trans sl4) (DpT.dp (.tup (SqT.of hpg) hxg))) (.cons (Dp.same ((sl3.trans (sj.trans sk)).trans sl4) (DpT.dp (.tup (SqT.of hph) hxh))) .nil)),
        .lst (SqL.of el4) (.cons (Dp.same (sk.trans sl4) (DpT.dp (.tup (SqT.of hpj) hxj))) (.cons (Dp.same sl4 (DpT.dp (.tup (SqT.of hpk) hxk))) .nil)), .lst (by show 2 ≤ 1000; decide) (fun d hd => by
        simp only [List.mem_cons, List.not_mem_nil, or_false] at hd
        rcases hd with rfl | rfl
        · exact rA _ la
        · exact rA _ ledE.len), fun Hm sm => ?_⟩
      have sam := sak.trans (sl4.trans sm)
      refine ⟨_, rfl, ifF rfl ?_⟩
      -- told
      have tl1 := TabG.same tl0 sam
      have te1 := TabG.same te0 sam
      have fin : ∀ H', But2 Pl Pe Hm H' → TabG H' Pl → TabG H' Pe → Q (.bl true) H' := fun H' b2 t1 t2 => q H' (fun bb o x1 x2 x3 e => b2 _ _ x2 x3 (sam _ _ (bH _ _ x1 e))) t1 t2
      refine ⟨_, rfl, _, rfl, _, _, tops, slant, b, rfl, Dp.same sam dtops.dp, Dp.same sam dslant.dp, pr, tl1, te1, hPP, hb, fun hf Hn b2n tln ten => ?_, fun ht Hn Dn2 tv Lv T1 T2 b2n tln ten hDn htv hlev hex l1 l2 => ?_⟩
      · subst hf
        refine ⟨_, rfl, _, rfl, ifT rfl ?_⟩
        refine ⟨_, rfl, rfl, _, rfl, ifT rfl ?_⟩
        have k1 := b2n.kt tl1 te1
        refine ⟨_, rfl, _, rfl, _, _, tops, slant, false, rfl, (DpT.keep ((Same.kt sam).trans k1) dtops).dp, (DpT.keep ((Same.kt sam).trans k1) dslant).dp, pr, tln, ten, hPP, hb, fun _ Ho b2o tlo teo => ?_, fun hc => by cases hc⟩
        exact ⟨rfl, fin Ho (b2n.trans b2o) tlo teo⟩
      · subst ht
        have k1 := b2n.kt tl1 te1
        have kk := (Same.kt sam).trans k1
        have lG : (wholeRow (common tops slant) tops).length = n := by rw [wholeRow, List.length_map, W.n]
        have htn := W.n
        obtain ⟨lb, lok⟩ := lev_ok (B := 2 ^ 21 * common tops slant) W.bt hlev
        have eok := ex_ok hex
        have lL := hlev.len
        have okT : ∀ t ∈ T1 ++ T2, TurnOk n (2 ^ 250) t := fun t ht => by
          rcases List.mem_append.mp ht with h | h
          · have := lok t h
            rw [lG] at this
            refine this.mono ?_
            have e2 : (2 : Int) * (2 ^ 21 * 2 ^ 170) ≤ 2 ^ 250 := by decide
            omega
          · have := eok t h
            rw [lL, lG] at this
            exact this
        have lT : (T1 ++ T2).length ≤ 10 ∧ (T1 ++ T2).length ≤ 2 * n - 2 := by
          rw [List.length_append]
          omega
        have ltv : tv.length = (T1 ++ T2).length := by rw [dtAll_len htv, List.length_map]
        have dtold : DpT K Hn (.ref Dn2) (.tuple ((T1 ++ T2).map turnD)) := .tup (SqT.of hDn) htv
        refine ⟨_, rfl, _, rfl, ifF rfl ?_⟩
        refine ⟨_, rfl, rfl, _, rfl, ifF (by simp) ?_⟩
        refine ⟨_, rfl, _, _, _, _, _, rfl, .ty _, tyT (SqT.of hDn), rfl, _, rfl, ifF rfl ?_⟩
        refine ⟨_, rfl, _, rfl, _, T1 ++ T2, n, rfl, dtold.dp, okT, fun Ho so => ?_⟩
        refine ⟨_, rfl, ifF rfl ?_⟩
        refine ⟨_, rfl, _, _, rfl, .inr (SqT.of (so _ _ hDn)), _, rfl, _, _, rfl, rfl, Or.inl (by decide), _, _, rfl, rfl, _, _, rfl, rfl, _, rfl, ifF (by rw [ltv]; simp; omega) ?_⟩
        -- the told turns lead the roots to the numbers
        have lc : Led n (2 ^ 100) (2 ^ 400) (common tops slant, wholeRow (common tops slant) tops) := ⟨lG, cp, Int.le_trans csm (by decide), fun x hx => by
          have := W.bt x hx
          have e3 : (2 : Int) ^ 21 ≤ 2 ^ 100 := by decide
          have := Int.mul_le_mul_of_nonneg_right e3 (Int.le_of_lt cp)
          simp only []
          omega⟩
        have etops : fr (common tops slant) (wholeRow (common tops slant) tops) = tops := fr_whole cp pr.nf1 fun q hq => dvd_common1 hq
        have eslant : fr (common tops slant) (wholeRow (common tops slant) slant) = slant := fr_whole cp pr.nf2 fun q hq => dvd_common2 hq
        have etold := led_told cp hlev hex
        rw [eslant] at etold
        have kHo : ∀ {Hx : Hp}, Same Ho Hx → KeepT H5 Hx := fun s => kk.trans (Same.kt (so.trans s))
        have dtB : ∀ {Hx : Hp}, Same Ho Hx → DpT K Hx (.ref pt) (rowD (fr (common tops slant, wholeRow (common tops slant) tops).1 (common tops slant, wholeRow (common tops slant) tops).2)) := fun s => by
          show DpT K _ _ (rowD (fr (common tops slant) (wholeRow (common tops slant) tops)))
          rw [etops]
          exact DpT.keep (kHo s) dtops
        have dqB : ∀ {Hx : Hp}, Same Ho Hx → DpT K Hx (.ref Dn2) (.tuple ((T1 ++ T2).map turnD)) := fun s => DpT.keep (Same.kt (so.trans s)) dtold
        have laySl : Lay 3 (rowD slant) := lay_row (by have := pr.len; have := pr.l6; omega) 1
        refine ⟨_, rfl, _, rfl, _, _, n, (common tops slant, wholeRow (common tops slant) tops), T1 ++ T2, rfl, dtB (Same.refl _), dqB (Same.refl _), n1, n6, lT.1, lc, okT, fun Hq pq xq sq hpq hxq => ?_⟩
        rw [etold] at hxq
        refine ⟨_, rfl, _, _, rowD slant, rfl, DpT.dp (.tup (SqT.of hpq) hxq), (DpT.keep (kHo sq) dslant).dp, laySl, fun Hr sr => ?_⟩
        have sqr := sq.trans sr
        refine ⟨_, rfl, ifF rfl ?_⟩
        refine ⟨_, rfl, _, rfl, _, _, n, (common tops slant, wholeRow (common tops slant) tops), T1 ++ T2, rfl, dtB sqr, dqB sqr, n1, n6, lT.1, lc, okT, fun Hs ps2 xs2 ss2 hps2 hxs2 => ?_⟩
        rw [etold] at hxs2
        refine ⟨_, rfl, _, _, rowD slant, rfl, DpT.dp (.tup (SqT.of hps2) hxs2), (DpT.keep (kHo (sqr.trans ss2)) dslant).dp, laySl, fun Ht st => ?_⟩
        have sot := so.trans ((sqr.trans ss2).trans st)
        exact fin Ht (fun bb o x1 x2 e => sot _ _ (b2n _ _ x1 x2 e)) (TabG.same tln sot) (TabG.same ten sot)
end
end V3
set_option maxHeartbeats 8000000
namespace V3
open PySem.Spec PySem L2 PyProof.Rows RZ GxR
section
variable {mg : Str → Option Value} {base : Heap} {K : PySem.W.Frag} {P : Program} {w : World}
abbrev s_law : Stmt := topS 57
abbrev N_law : List Str := ["script", "turn"]
theorem sc_law : FnScope N_law ["script"] (defScope s_law) := ⟨rfl, rfl, rfl, by decide +kernel, rfl, by decide +kernel, by decide +kernel⟩
def spLaw (K : PySem.W.Frag) (Pl Pe : Addr) : Sp := fun vs H Q _ => ∃ (a : Addr) (ns : List Int), vs = [.ref a] ∧ SqL K H a (ns.map V.int) ∧ TabG H Pl ∧ TabG H Pe ∧ ∀ H', Q (.bl true) H'
theorem ok_law (T : Gs mg) {Pl Pe : Addr} (hPP : Pl ≠ Pe) (D1 : Df P w K mg base "_law_well" 1 ["script", "turn", "start"] (spWell K)) (D2 : Df P w K mg base "_law_right" 7 ["well"] (spRight Pl Pe)) (F : At K mg "law" s_law) :
    Df P w K mg base "law" 8 ["script"] (spLaw K Pl Pe) := by
  have sc := sc_law
  refine Df.mk' F sc (fun vs H Q E h => ?_) (fun _ _ _ _ _ _ us hl => match us, hl with | [_], _ => rfl) (fun f cdv A outer s H vs Q E hr h => ?_)
  · obtain ⟨a, ns, rfl, _⟩ := h
    rfl
  · obtain ⟨a, ns, rfl, ha, htl, hte, q⟩ := h
    refine ⟨_, (pss_one (ps_ret (pe_callB (cr_all rfl) (by rfl) T.all (by decide +kernel) (pa_cons (pe_lc (own := [("turn", 1)]) (g := gName 1) rfl sc.nd (pi_range1 rfl T.range (pa_cons (pe_callB (call_max2 rfl) (by rfl) T.max (by decide +kernel) (pa_cons pe_int (pa_cons (pe_callB (call_min2 rfl) (by rfl) T.min (by decide +kernel) (pa_cons (pe_callB call_len_seq (by rfl) T.len PySem.boot_len (pa_cons (pv 0) pa_nil)) (pa_cons pe_int pa_nil))) pa_nil))) pa_nil)) (blkOk_by (own := [("turn", 1)]) (N := N_law) (sc := defScope s_law) (by decide +kernel)) (fun _ _ _ _ _ => (pg_name (i := 1) sc.nd rfl (Or.inl rfl))) (fun _ _ _ _ _ => pts_nil) (fun _ _ _ _ _ => (pe_fn D2 (by decide) hr (pa_cons (pe_fn D1 (by decide) hr (pa_cons (pv 0) (pa_cons (pv 1) (pa_cons pe_int pa_nil)))) pa_nil)))) pa_nil)))), ?_⟩
    refine ⟨_, rfl, _, _, rfl, .inl ha, _, _, rfl, _, _, rfl, ?_⟩
    have bound : ∀ z : Int, -(2 ^ 62) ≤ (if (if 3 < z then 3 else z) > 1 then (if 3 < z then 3 else z) else 1) ∧ (if (if 3 < z then 3 else z) > 1 then (if 3 < z then 3 else z) else 1) ≤ 3 := fun z => by
      split <;> split <;> omega
    have nD : ∀ {D : Addr}, H D = none → D ≠ Pl ∧ D ≠ Pe := fun {D} hD => by
      obtain ⟨p1, e1, _⟩ := htl
      obtain ⟨p2, e2, _⟩ := hte
      exact ⟨fun z => (by rw [z, e1] at hD; cases hD), fun z => (by rw [z, e2] at hD; cases hD)⟩
    have bd := bound ((List.map V.int ns).length : Int)
    refine ⟨_, rfl, bd.1, Int.lt_of_le_of_lt bd.2 (by decide), fun D hD => lc_range (lo := 0) (n := _) (fun i H' => But2 Pl Pe H H' ∧ TabG H' Pl ∧ TabG H' Pe ∧ ∃ bs : List Bool, H' D = some (.lst (bs.map V.bl)) ∧ bs.length = i ∧ bs.all id = true)
      ⟨Same.but2 (same_upd hD), TabG.same htl (same_upd hD), TabG.same hte (same_upd hD), [], upd_same, rfl, rfl⟩ ?_ ?_⟩
    · rintro i H1 hi ⟨b1, tl1, te1, bs, hbs, hbl, hba⟩
      have hi3 : i < 3 := by omega
      obtain ⟨n1, n2⟩ := nD hD
      have ha1 : SqL K H1 a (ns.map V.int) := by
        rcases ha with (h | ⟨o, h⟩) | h
        · exact .inl (.inl (b1 _ _ (fun z => by obtain ⟨p1, e1, _⟩ := htl; rw [z, e1] at h; cases h) (fun z => by obtain ⟨p2, e2, _⟩ := hte; rw [z, e2] at h; cases h) h))
        · exact .inl (.inr ⟨o, b1 _ _ (fun z => by obtain ⟨p1, e1, _⟩ := htl; rw [z, e1] at h; cases h) (fun z => by obtain ⟨p2, e2, _⟩ := hte; rw [z, e2] at h; cases h) h⟩)
        · exact .inr h
      refine ⟨rfl, yesIf ?_⟩
      refine ⟨_, rfl, _, rfl, a, ns, i, ?_, ha1, fun H2 p s2 hp w2 => ?_⟩
      · rw [Int.zero_add]
      refine ⟨p, rfl, w2, TabG.same tl1 s2, TabG.same te1 s2, fun H3 b3 tl3 te3 => ?_⟩
      have dp : D ≠ p := fun z => by rw [← z, hbs] at hp; cases hp
      have hbs3 := b3 _ _ dp n1 n2 (s2 _ _ hbs)
      refine ⟨_, hbs3, small1000 (by rw [List.length_map]; omega), ?_, TabG.lst tl3 hbs3, TabG.lst te3 hbs3, bs ++ [true], ?_, by rw [List.length_append, hbl]; rfl, by rw [List.all_append, hba]; rfl⟩
      · intro bb o x1 x2 e
        rw [upd_ne (ne_of_none e hD)]
        have e1 := b1 _ _ x1 x2 e
        exact b3 _ _ (ne_of_none e1 hp) x1 x2 (s2 _ _ e1)
      · rw [upd_same, List.map_append]
        rfl
    · rintro H1 ⟨b1, tl1, te1, bs, hbs, hbl, hba⟩
      refine ⟨D, bs, rfl, SqL.of hbs, ?_⟩
      rw [hba]
      exact q H1
end
end V3
set_option maxHeartbeats 0
namespace V3
open PySem.Spec PySem L2 PyProof.Rows RZ GxR
def loose0 : List Str := ["RootError", "InvalidRow", "InvalidRoots", "InvalidTurns", "fraction", "plus", "minus", "times", "is_above", "shared_under", "whole_rows", "MOST_ROOTS", "is_whole", "is_whole_within", "is_tuple_of", "is_fraction", "first_unlike_fraction", "check_row", "check_row_up_to", "check_roots", "check_roots_of", "is_spread", "are_spread", "turns_to", "levelling_turns", "exchanging_turns", "turned", "check_turns", "is_turn", "_law_well"]
def loose1 : List Str := ["_law_draw", "_law_pick", "_law_cut", "_law_add", "_law_sub", "_law_mul", "_law_less", "_law_down", "_law_number", "_law_tops", "_law_wide", "_law_same", "_law_is_whole", "_law_is_frac", "_law_is_spread", "_law_steps", "_law_is_step", "_law_are_steps", "_law_led", "_law_slid", "_law_right"]
def loose : List Str := loose0 ++ loose1
def dN (x : Str) (st : Stmt) : He.DefD := ⟨(x, none), x, x, defArgs st, defBody st, defScope st, [], []⟩
def fn0 : List He.DefD := [dN "fraction" (topS 7), dN "plus" (topS 8), dN "minus" (topS 9), dN "times" (topS 10), dN "is_above" (topS 11), dN "shared_under" (topS 12), dN "whole_rows" (topS 13), dN "is_whole" (topS 16), dN "is_whole_within" (topS 17), dN "is_tuple_of" (topS 18), dN "is_fraction" (topS 19), dN "first_unlike_fraction" (topS 20), dN "check_row" (topS 21), dN "check_row_up_to" (topS 22), dN "check_roots" (topS 23), dN "check_roots_of" (topS 24), dN "is_spread" (topS 26), dN "are_spread" (topS 27), dN "turns_to" (topS 28), dN "levelling_turns" (topS 29), dN "exchanging_turns" (topS 30), dN "turned" (topS 31), dN "check_turns" (topS 32)]
def fa0 : List He.Fa := [.glo "fraction", .glo "plus", .glo "minus", .glo "times", .glo "is_above", .glo "shared_under", .glo "whole_rows", .glo "is_whole", .glo "is_whole_within", .glo "is_tuple_of", .glo "is_fraction", .glo "first_unlike_fraction", .glo "check_row", .glo "check_row_up_to", .glo "check_roots", .glo "check_roots_of", .glo "is_spread", .glo "are_spread", .glo "turns_to", .glo "levelling_turns", .glo "exchanging_turns", .glo "turned", .glo "check_turns"]
def fn1 : List He.DefD := [dN "is_turn" (topS 33), dN "_law_well" (topS 35), dN "_law_draw" (topS 36), dN "_law_pick" (topS 37), dN "_law_cut" (topS 38), dN "_law_add" (topS 39), dN "_law_sub" (topS 40), dN "_law_mul" (topS 41), dN "_law_less" (topS 42), dN "_law_down" (topS 43), dN "_law_number" (topS 44), dN "_law_tops" (topS 45), dN "_law_wide" (topS 46), dN "_law_same" (topS 47), dN "_law_is_whole" (topS 48), dN "_law_is_frac" (topS 49), dN "_law_is_spread" (topS 50), dN "_law_steps" (topS 51), dN "_law_is_step" (topS 52), dN "_law_are_steps" (topS 53), dN "_law_led" (topS 54), dN "_law_slid" (topS 55), dN "_law_right" (topS 56), dN "law" (topS 57)]
def fa1 : List He.Fa := [.glo "is_turn", .glo "_law_well", .glo "_law_draw", .glo "_law_pick", .glo "_law_cut", .glo "_law_add", .glo "_law_sub", .glo "_law_mul", .glo "_law_less", .glo "_law_down", .glo "_law_number", .glo "_law_tops", .glo "_law_wide", .glo "_law_same", .glo "_law_is_whole", .glo "_law_is_frac", .glo "_law_is_spread", .glo "_law_steps", .glo "_law_is_step", .glo "_law_are_steps", .glo "_law_led", .glo "_law_slid", .glo "_law_right", .glo "law"]
def fa2 : List He.Fa := [.free "type", .free "int", .free "tuple", .free "list", .free "bool", .free "str", .free "len", .free "range", .free "enumerate", .free "zip", .free "sorted", .free "max", .free "min", .free "abs", .free "divmod", .free "isinstance", .free "all", .int "MOST_ROOTS" 6]
def fnA : List He.DefD := fn0 ++ fn1
def faA : List He.Fa := fa0 ++ (fa1 ++ fa2)
def tfA : List He.Defn := [("levelling_turns", none), ("exchanging_turns", none)]
def exA (K : PySem.W.Frag) : Bool := (!Nat.beq (He.cT K ("levelling_turns", none)).2 (He.cT K ("exchanging_turns", none)).2) && (He.eqO (PySem.W.nsIn K mainGlobals "gcd") (some (some (.builtin "math.gcd"))) && He.eqO (PySem.W.nsIn K mainGlobals "lcm") (some (some (.builtin "math.lcm"))))
abbrev R33 : PySem.W.OpenRow := PySem.W.OpenLaw.row PySem.Challenge.rw_rootsabove_k33_whole_spread_rows_decided
abbrev hk33 : PySem.W.Hook := He.hookX 4 faA fnA [] tfA exA
def ob33 (s : PySem.W.SharedT) : He.AlX := He.obsX 4 faA fnA [] tfA exA (HandSHeadRun.getT s)
theorem ob33_eq (s : PySem.W.SharedT) : ob33 s = hk33.obs s.abs := He.obsX_eq (HandSHeadRun.getT_eq s)
abbrev q33 : Program := PySem.W.view R33.prog [0, 57]
theorem run33 (w : World) : HandSHeadRun.RunEqI R33 q33 hk33 ob33 20000 loose w := by
  delta HandSHeadRun.RunEqI
  kernel_rfl
end V3
namespace V3
open PySem.Spec PySem L2 PyProof.Rows RZ GxR
section
variable {w : World} {K : PySem.W.Frag} {h : Heap} {mg : Str → Option Value}
theorem at33 (X : K.In h) (G : h.Ns mainGlobals mg) (c : He.SaysD faA fnA K) (i : Nat) (x : Str) (st : Stmt) (h1 : fnA[i]? = some (dN x st)) (h2 : faA[i]? = some (.glo x)) : At K mg x st := by
  obtain ⟨fd, F⟩ := c.def_ i (d := dN x st) h1
  have g := He.glo_ok X G (c.fact i (f := .glo x) h2)
  obtain ⟨oc, od, dV, kV, doc, pm, an, cdv, ct, osl, e, lk, cd, dv, kv⟩ := F.ex
  rcases dv with ⟨_, e2⟩ | ⟨e2, _⟩
  · subst e2
    exact ⟨⟨_, _, g, ⟨⟨oc, od, kV, doc, pm, an, cdv, ct, osl, e, lk, cd⟩, F.kp⟩⟩⟩
  · exact absurd rfl e2
theorem atC33 (X : K.In h) (G : h.Ns mainGlobals mg) (c : He.SaysD faA fnA K) (i : Nat) (x : Str) (st : Stmt) (h1 : fnA[i]? = some (dN x st)) (h2 : faA[i]? = some (.glo x)) : AtC K mg x st (He.cT K (x, none)).1 := by
  obtain ⟨fd, F⟩ := c.def_ i (d := dN x st) h1
  have g := He.glo_ok X G (c.fact i (f := .glo x) h2)
  obtain ⟨oc, od, dV, kV, doc, pm, an, cdv, ct, osl, e, lk, cd, dv, kv⟩ := F.ex
  obtain ⟨cc, rfl⟩ := He.codeIn_ref cd
  have ec : He.codeOf K (x, none) = cc := He.codeOf_eq lk (by rw [e])
  rcases dv with ⟨_, e2⟩ | ⟨e2, _⟩
  · subst e2
    subst e
    have e3 : (He.cT K (x, none)).1 = cc := ec
    rw [e3]
    exact ⟨⟨_, oc, od, kV, doc, pm, an, ct, osl, g, lk, cd, F.kp⟩⟩
  · exact absurd rfl e2
theorem gs33 (X : K.In h) (G : h.Ns mainGlobals mg) (c : He.SaysD faA fnA K) (ex : exA K = true) : Gs mg := by
  obtain ⟨_, ex2⟩ := He.ba ex
  obtain ⟨e1, e2⟩ := He.ba ex2
  refine ⟨PySem.W.mg_of X G (He.eqO_ok e1), PySem.W.mg_of X G (He.eqO_ok e2), He.int_ok X G (c.fact 64 (f := .int "MOST_ROOTS" 6) rfl), He.free_ok X G (c.fact 47 (f := .free "type") rfl), He.free_ok X G (c.fact 48 (f := .free "int") rfl), He.free_ok X G (c.fact 49 (f := .free "tuple") rfl), He.free_ok X G (c.fact 50 (f := .free "list") rfl), He.free_ok X G (c.fact 51 (f := .free "bool") rfl), He.free_ok X G (c.fact 52 (f := .free "str") rfl), He.free_ok X G (c.fact 53 (f := .free "len") rfl), He.free_ok X G (c.fact 54 (f := .free "range") rfl), He.free_ok X G (c.fact 55 (f := .free "enumerate") rfl), He.free_ok X G (c.fact 56 (f := .free "zip") rfl), He.free_ok X G (c.fact 57 (f := .free "sorted") rfl), He.free_ok X G (c.fact 58 (f := .free "max") rfl), He.free_ok X G (c.fact 59 (f := .free "min") rfl), He.free_ok X G (c.fact 60 (f := .free "abs") rfl), He.free_ok X G (c.fact 61 (f := .free "divmod") rfl), He.free_ok X G (c.fact 62 (f := .free "isinstance") rfl), He.free_ok X G (c.fact 63 (f := .free "all") rfl)⟩
end
theorem law33 {P : Program} {w : World} {K : PySem.W.Frag} {h base : Heap} {mg : Str → Option Value} (X : K.In h) (G : h.Ns mainGlobals mg) (c : He.SaysD faA fnA K) (ex : exA K = true)
    (TB : ∀ p ∈ tfA.map (He.cT K), TabB base mg p.1 p.2) (ne : (He.cT K ("levelling_turns", none)).2 ≠ (He.cT K ("exchanging_turns", none)).2) :
    Df P w K mg base "law" 8 ["script"] (spLaw K (He.cT K ("levelling_turns", none)).2 (He.cT K ("exchanging_turns", none)).2) := by
  have T := gs33 X G c ex
  have TB1 : TabB base mg (He.cT K ("levelling_turns", none)).1 (He.cT K ("levelling_turns", none)).2 := TB _ List.mem_cons_self
  have TB2 : TabB base mg (He.cT K ("exchanging_turns", none)).1 (He.cT K ("exchanging_turns", none)).2 := TB _ (List.mem_cons_of_mem _ List.mem_cons_self)
  have d_fraction : Df P w K mg base "fraction" 1 ["number", "under"] spFraction := ok_fraction T (at33 X G c 0 "fraction" (topS 7) rfl rfl)
  have d_plus : Df P w K mg base "plus" 2 ["one", "other"] (spF2 K qadd) := ok_plus d_fraction (at33 X G c 1 "plus" (topS 8) rfl rfl)
  have d_minus : Df P w K mg base "minus" 2 ["one", "other"] (spF2 K qsub) := ok_minus d_fraction (at33 X G c 2 "minus" (topS 9) rfl rfl)
  have d_times : Df P w K mg base "times" 2 ["one", "other"] (spF2 K qmul) := ok_times d_fraction (at33 X G c 3 "times" (topS 10) rfl rfl)
  have d_above := ok_is_above (P := P) (w := w) (base := base) (at33 X G c 4 "is_above" (topS 11) rfl rfl)
  have d_whole := ok_is_whole (P := P) (w := w) (base := base) T (at33 X G c 7 "is_whole" (topS 16) rfl rfl)
  have d_within := ok_is_whole_within d_whole (at33 X G c 8 "is_whole_within" (topS 17) rfl rfl)
  have d_tupof := ok_is_tuple_of (P := P) (w := w) (base := base) T (at33 X G c 9 "is_tuple_of" (topS 18) rfl rfl)
  have d_isfr := ok_is_fraction T d_whole d_tupof (at33 X G c 10 "is_fraction" (topS 19) rfl rfl)
  have d_first := ok_first T d_isfr (at33 X G c 11 "first_unlike_fraction" (topS 20) rfl rfl)
  have d_crow := ok_check_row d_tupof d_first (at33 X G c 12 "check_row" (topS 21) rfl rfl)
  have d_crof := ok_check_roots_of T d_isfr d_above (at33 X G c 15 "check_roots_of" (topS 24) rfl rfl)
  have d_croots := ok_check_roots T d_crof (at33 X G c 14 "check_roots" (topS 23) rfl rfl)
  have d_shared := ok_shared (P := P) (w := w) (base := base) T (at33 X G c 5 "shared_under" (topS 12) rfl rfl)
  have d_rows := ok_whole_rows (P := P) (w := w) (base := base) T (at33 X G c 6 "whole_rows" (topS 13) rfl rfl)
  have d_are := ok_are_spread (P := P) (w := w) (base := base) T (at33 X G c 17 "are_spread" (topS 27) rfl rfl)
  have d_spread := ok_is_spread T d_croots d_crow d_shared d_rows d_are (at33 X G c 16 "is_spread" (topS 26) rfl rfl)
  have d_lev := ok_lev T TB1 d_fraction (atC33 X G c 19 "levelling_turns" (topS 29) rfl rfl)
  have d_exc := ok_exc (P := P) (w := w) T TB2 (atC33 X G c 20 "exchanging_turns" (topS 30) rfl rfl)
  have d_to := ok_turns_to T d_croots d_crow d_shared d_rows d_are d_lev d_exc (at33 X G c 18 "turns_to" (topS 28) rfl rfl)
  have d_isturn := ok_is_turn d_tupof d_within d_isfr d_above (at33 X G c 23 "is_turn" (topS 33) rfl rfl)
  have d_cturns := ok_check_turns T d_isturn (at33 X G c 22 "check_turns" (topS 32) rfl rfl)
  have d_rowup := ok_row_up T d_crow (at33 X G c 13 "check_row_up_to" (topS 22) rfl rfl)
  have d_turned := ok_turned T d_rowup d_cturns d_times d_minus d_plus (at33 X G c 21 "turned" (topS 31) rfl rfl)
  have l_well := ok_well (P := P) (w := w) (base := base) T (at33 X G c 24 "_law_well" (topS 35) rfl rfl)
  have l_draw := ok_draw (P := P) (w := w) (K := K) (base := base) T (at33 X G c 25 "_law_draw" (topS 36) rfl rfl)
  have l_pick := ok_pick T l_draw (at33 X G c 26 "_law_pick" (topS 37) rfl rfl)
  have l_cut : Df P w K mg base "_law_cut" 1 ["top", "under"] spFraction := ok_cut T (at33 X G c 27 "_law_cut" (topS 38) rfl rfl)
  have l_add : Df P w K mg base "_law_add" 2 ["one", "two"] (spF2 K qadd) := ok_law_add l_cut (at33 X G c 28 "_law_add" (topS 39) rfl rfl)
  have l_sub : Df P w K mg base "_law_sub" 2 ["one", "two"] (spF2 K qsub) := ok_law_sub l_cut (at33 X G c 29 "_law_sub" (topS 40) rfl rfl)
  have l_mul : Df P w K mg base "_law_mul" 2 ["one", "two"] (spF2 K qmul) := ok_law_mul l_cut (at33 X G c 30 "_law_mul" (topS 41) rfl rfl)
  have l_less := ok_law_less (P := P) (w := w) (base := base) (at33 X G c 31 "_law_less" (topS 42) rfl rfl)
  have l_down := ok_down T l_less (at33 X G c 32 "_law_down" (topS 43) rfl rfl)
  have l_number := ok_number T l_draw l_cut (at33 X G c 33 "_law_number" (topS 44) rfl rfl)
  have l_tops := ok_tops T l_draw l_number l_down (at33 X G c 34 "_law_tops" (topS 45) rfl rfl)
  have l_wide := ok_wide T l_pick (at33 X G c 35 "_law_wide" (topS 46) rfl rfl)
  have l_same := ok_same (P := P) (w := w) (base := base) T (at33 X G c 36 "_law_same" (topS 47) rfl rfl)
  have l_lwhole := ok_lwhole (P := P) (w := w) (K := K) (base := base) T (at33 X G c 37 "_law_is_whole" (topS 48) rfl rfl)
  have l_frac := ok_lfrac T l_lwhole l_cut (l_same 2) (at33 X G c 38 "_law_is_frac" (topS 49) rfl rfl)
  have l_spread := ok_lspread T l_down l_add l_less (at33 X G c 39 "_law_is_spread" (topS 50) rfl rfl)
  have l_steps := ok_steps T l_draw l_cut (at33 X G c 40 "_law_steps" (topS 51) rfl rfl)
  have l_step := ok_step T l_lwhole l_frac (at33 X G c 41 "_law_is_step" (topS 52) rfl rfl)
  have l_are := ok_are_steps T l_step (at33 X G c 42 "_law_are_steps" (topS 53) rfl rfl)
  have l_led := ok_led T l_sub l_mul l_add (at33 X G c 43 "_law_led" (topS 54) rfl rfl)
  have l_slid := ok_slid T l_draw l_pick l_add l_sub (at33 X G c 44 "_law_slid" (topS 55) rfl rfl)
  have k_spread := d_spread.kw (at33 X G c 16 "is_spread" (topS 26) rfl rfl) (fun _ _ _ _ _ _ _ _ => rfl)
  have k_turned := d_turned.kw (at33 X G c 21 "turned" (topS 31) rfl rfl) (fun _ _ _ _ _ _ _ _ => rfl)
  have k_to := d_to.kw (at33 X G c 18 "turns_to" (topS 28) rfl rfl) (fun _ _ _ _ _ _ _ _ => rfl)
  have l_right := ok_right T ne l_wide l_tops l_steps l_led l_draw l_slid l_spread (l_same 4) d_spread k_spread d_turned k_turned d_to k_to l_are (at33 X G c 45 "_law_right" (topS 56) rfl rfl)
  exact ok_law T ne l_well l_right (at33 X G c 46 "law" (topS 57) rfl rfl)
theorem facts33 {w : World} {K : PySem.W.Frag} {h : Heap} {mg : Str → Option Value} {fa : Addr} (X : K.In h) (G : h.Ns mainGlobals mg) (hfa : mg ("law" : Str) = some (.ref fa)) (c : He.SaysX faA fnA [] tfA exA w h K) :
    LamX.LawAtS PySem.Challenge.rw_rootsabove_k33_whole_spread_rows_decided w K CX0 8 63 "script" mg fa h := by
  have cd := c.t.d
  have aL := at33 X G cd 46 "law" (topS 57) rfl rfl
  obtain ⟨f, fd, g, F⟩ := aL.ex
  rw [hfa] at g
  cases g
  have ne : (He.cT K ("levelling_turns", none)).2 ≠ (He.cT K ("exchanging_turns", none)).2 := fun z => by
    obtain ⟨e1, _⟩ := He.ba c.more
    rw [z] at e1
    simp at e1
  obtain ⟨oc, od, kV, doc, pm, an, cdv, ct, osl, e, lk, _⟩ := id F.ex
  refine ⟨fd, tfA.map (He.cT K), spLaw K (He.cT K ("levelling_turns", none)).2 (He.cT K ("exchanging_turns", none)).2, fun p hp => ?_, fun p hp => ?_, fun p hp => ?_, fun s u => ?_, fun H a ns hl _ hT hS => ?_, fun base kb gb TB => ?_⟩
  · obtain ⟨d, hd, rfl⟩ := List.mem_map.mp hp
    exact c.empty d hd
  · obtain ⟨d, hd, rfl⟩ := List.mem_map.mp hp
    exact c.out d hd
  · obtain ⟨d, hd, rfl⟩ := List.mem_map.mp hp
    exact PySem.W.codeHd_of_K X (c.hd d hd)
  · subst e
    exact .of_eq rfl
  · refine ⟨a, ns, rfl, hS, ⟨#[], hT _ List.mem_cons_self, ?_⟩, ⟨#[], hT _ (List.mem_cons_of_mem _ List.mem_cons_self), ?_⟩, fun _ => rfl⟩
    · exact trivial
    · exact trivial
  · obtain ⟨f', fd', g', kp, b, G', oc', od', osl', lk'⟩ := (law33 (P := PySem.Challenge.rw_rootsabove_k33_whole_spread_rows_decided.prog) (w := w) (base := base) X G cd c.more (fun p hp => ⟨(TB p hp).code, (TB p hp).bm, (TB p hp).gP⟩) ne).ex
    rw [hfa] at g'
    cases g'
    rw [lk] at lk'
    cases lk'
    exact G'
end V3
open PySem.W PySem PyProof.Rows PySem.Calls
theorem PySem.Challenge.cw_rootsabove_k33_whole_spread_rows_decided_holds : PySem.Challenge.rw_rootsabove_k33_whole_spread_rows_decided.Holds := by
  w_on; o_law
  refine HandSHeadRun.head_imp (r := V3.R33) (q := V3.q33) (H := V3.hk33) (ob := V3.ob33) (M := 20000) (loose := V3.loose) (d := HandSHeadRun.topDef V3.R33.prog 57) (kwd := []) V3.ob33_eq V3.run33 (by kernel_rfl) (by kernel_rfl) (by kernel_rfl) (by rfl) (by first | assumption | decide +kernel) (by decide +kernel) ⟨rfl, rfl, rfl, rfl, rfl, by decide +kernel⟩ ?hw ?hc
  case hw => w_witness2
  case hc =>
    refine LamX.walk_ofTsE (l := PySem.Challenge.rw_rootsabove_k33_whole_spread_rows_decided) (n := 63) (k := 8) (x := "script") (CX := fun _ => L2.CX0) rfl (by decide) (by kernel_rfl) ⟨rfl, by decide, by decide⟩ ?F (fun _ _ _ _ _ z => z)
    intro w mg fa h Y G hmg0
    obtain ⟨K, KX, c⟩ := Y
    have hlaw : mg ("law" : PySem.Str) = some (.ref fa) := by
      have e : (HandSHeadRun.topDef V3.R33.prog 57).name = ("law" : PySem.Str) := by kernel_rfl
      rw [← e]
      exact hmg0
    exact ⟨K, KX, V3.facts33 KX G hlaw c⟩
