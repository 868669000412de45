import PyProof.Rows.All
import Wide.All
import OpenK.AllK
import Wide.FinOn
import PySem.Challenge.RW_rootsabove_k17_whole_means_and_spreads
import HandS.ForMost
import HandS.Wide
import HandS.WideBits
import HandS.Gcd
import HandS.More
import HandS.IsInst
import HandS.Zip
import HandS.SortKw
import HandS.NoneIn
import HandS.Style
import KE.GoesEnum
import HandS.AnyAll
import HandS.Conv
import KE.KEqDeep
import HandS.GenOver
import HandS.Comp
import HandS.Words
import HandS.Dict
import HandS.TupAny
import HandS.RaiseMore
import PyProof.NeKinds
import HandS.EndTab
import HandS.HeadWalk
import PyProof.Rows.NestShow
import PyProof.SumAny
import KE.KStateDown
import HandS.Defaults
import HandS.Head0
import HandS.Head1
import HandS.Head2
import HandS.Head3
import HandS.HeadEnd
import HandS.HeadHook1
import HandS.HeadHook2
import HandS.HeadHook3
import HandS.HeadHook4
import HandS.NestedK
set_option Elab.async false
set_option linter.all false
set_option maxRecDepth 100000
set_option maxHeartbeats 2100000
/-! Words of this verifier's own over the hand layer: data that lasts, a def by its name, enumerate of a tuple, lcm. -/
namespace V3
open PySem.Spec PySem L2 PyProof.Rows

/-! ### what stands, stands -/
theorem sameT {K : PySem.W.Frag} {H H' : Hp} {a : Addr} {xs : List V} (e : Same H H') (h : SqT K H a xs) : SqT K H' a xs := by
  (rcases h with (h | ⟨o, h⟩) | h)
  · exact .inl (.inl (e _ _ h))
  · (exact .inl (.inr ⟨o, e _ _ h⟩))
  · exact .inr h
theorem same_upd {o : HO} {p : Addr} {H : Hp} (new : H p = none) : Same H (upd H p o) := fun at_ it stood => by
  rw [upd_ne (ne_of_none stood new)]
  exact stood
mutual
theorem Dp.same {K : PySem.W.Frag} {H H' : Hp} (e : Same H H') : ∀ {v : V} {d : PyData}, Dp K H v d → Dp K H' v d
  | _, _, .non => .non
  | _, _, .bl b => .bl b
  | _, _, .int i => .int i
  | _, _, .str x => .str x
  | _, _, .lst h a => .lst (e.seq h) (DpAll.same e a)
  | _, _, .tup h a => .tup (sameT e h) (DpAll.same e a)
theorem DpAll.same {K : PySem.W.Frag} {H H' : Hp} (e : Same H H') : ∀ {vs : List V} {ds : List PyData}, DpAll K H vs ds → DpAll K H' vs ds
  | _, _, .nil => .nil
  | _, _, .cons a b => .cons (Dp.same e a) (DpAll.same e b)
end

/-! ### a def by its name -/
structure At (K : PySem.W.Frag) (mg : Str → Option Value) (x : Str) (st : Stmt) : Prop where
  ex : ∃ (f : Addr) (fd : FuncData), mg x = some (.ref f) ∧ Fun K x x st f fd
structure Df (P : Program) (w : World) (K : PySem.W.Frag) (mg : Str → Option Value) (base : Heap) (x : Str) (k : Nat) (ps : List Str) (sp : Sp) : Prop where
  ex : ∃ (f : Addr) (fd : FuncData), mg x = some (.ref f) ∧ PySem.W.keepIn K (.ref f) = true ∧ Binds K fd ps [] ∧ FnOk P w K mg base CX0 k f fd ps sp ∧ ∃ (oc : Value) (od : Option Addr) (osl : Array (Option Value)), K.lookup f = some ⟨oc, od, .func fd, osl⟩
def tFn (sp : Sp) (t : TA) : TE := fun σ H Q => t σ H fun vs H1 => sp vs H1 Q E0
section
variable {X : Cx}
theorem pe_fn {x : Str} {p pos : Pos} {e : Expr} {es : List Expr} {t : TA} {k k0 : Nat} {ps : List Str} {sp : Sp} (D : Df X.prog X.w X.K X.mg X.base x k ps sp) (hk : k ≤ k0) (hr : Room k0 X.A) (ha : PA X (e :: es) t)
    (hg : Gl X x := by rfl) (hdb : (x == ("__debug__" : Str)) = false := by decide) (he : starEach (e :: es) X.env = (false, eval e X.env) :: starEach es X.env := by rfl) (hpl : (backTo pos (starEach es X.env)).any (·.1) = false := by rfl) :
    PE X (.Call (.Name x p) (e :: es) [] pos) (tFn sp t) := by
  obtain ⟨f, fd, g, kp, b, G, _⟩ := D.ex
  have h := pe_call (pos := pos) (p := p) G (hr.mono hk) hg g kp b .nil pass0 ha hdb he hpl
  refine ⟨fun pins s σ H Q I q => h.run pins s σ H Q I ?_⟩
  show t σ H fun vs H1 => sp (vs ++ []) H1 Q E0
  have e0 : (fun vs H1 => sp (vs ++ []) H1 Q E0) = fun vs H1 => sp vs H1 Q E0 := by
    funext vs H1
    rw [List.append_nil]
  rw [e0]
  exact q
end
section
variable {mg : Str → Option Value} {base : Heap} {K : PySem.W.Frag} {P : Program} {w : World}
theorem Df.mk' {x : Str} {st : Stmt} {N ps : List Str} {k : Nat} {sp : Sp} (F : At K mg x st) (S : FnScope N ps (defScope st)) (len : ∀ vs H Q E, sp vs H Q E → vs.length = ps.length)
    (hb : ∀ (kV doc pm : Value) (an : Option Addr) (cdv ct : Value) (us : List Value), us.length = ps.length → bindArgs (PySem.W.fnOf x x (defArgs st) (defBody st) (defScope st) .none kV doc pm an cdv ct) ⟨us, []⟩ = pure (ps.zip us))
    (hbody : ∀ (f : Addr) (cdv : Value) (A : Around) (outer : List Env) (s : Shared) (H : Hp) (vs : List V) (Q : VK) (E : XK), Room k (A.deeper (envOfC x (defScope st) s.heap.objs.size f cdv)) → sp vs H Q E →
      ∃ t, PSs (cxOf CX0 P w K mg base N x (defScope st) f cdv A outer s H E).nox (defBody st) t ∧ t { nx := fun _ H' => Q .non H', rt := Q } (start N vs) H) : Df P w K mg base x (k + 1) ps sp := by
  obtain ⟨f, fd, g, F⟩ := F.ex
  refine ⟨f, fd, g, F.kp, F.binds hb, F.ok S len fun cdv A outer s H vs Q E hr h => hbody f cdv A outer s H vs Q E hr h, ?_⟩
  obtain ⟨oc, od, kV, doc, pm, an, cdv, ct, osl, e, lk, _⟩ := F.ex
  exact ⟨oc, od, osl, lk⟩
theorem Df.mono {x : Str} {ps : List Str} {j k : Nat} {sp : Sp} (D : Df P w K mg base x j ps sp) (h : j ≤ k) : Df P w K mg base x k ps sp := by
  obtain ⟨f, fd, g, kp, b, G, l⟩ := D.ex
  exact ⟨f, fd, g, kp, b, G.mono h, l⟩
theorem Df.imp {x : Str} {ps : List Str} {k : Nat} {sp sp' : Sp} (D : Df P w K mg base x k ps sp) (h : ∀ vs H Q E, sp' vs H Q E → sp vs H Q E) : Df P w K mg base x k ps sp' := by
  obtain ⟨f, fd, g, kp, b, G, l⟩ := D.ex
  exact ⟨f, fd, g, kp, b, G.imp h, l⟩
end

/-! ### two keywords, the last parameter first -/
structure DfK (P : Program) (w : World) (K : PySem.W.Frag) (mg : Str → Option Value) (base : Heap) (x : Str) (k : Nat) (p1 p2 : Str) (sp : Sp) : Prop where
  ex : ∃ (f : Addr) (fd : FuncData), mg x = some (.ref f) ∧ PySem.W.keepIn K (.ref f) = true ∧ KBinds K fd [p1, p2] [p2, p1] (fun us ws => us ++ us ++ us ++ ws.reverse) (fun us ws => us ++ us ++ us ++ ws.reverse) ∧ FnOk P w K mg base CX0 k f fd [p1, p2] sp
theorem Vals.rev : ∀ {zs : List V} {ws : List Value}, Vals zs ws → Vals zs.reverse ws.reverse := fun {zs ws} h => by
  induction h with
  | nil => exact .nil
  | cons a b ih =>
    (rw [List.reverse_cons, List.reverse_cons])
    exact ih.append (.cons a .nil)
theorem Df.kw {P : Program} {w : World} {K : PySem.W.Frag} {mg : Str → Option Value} {base : Heap} {x p1 p2 : Str} {st : Stmt} {k : Nat} {sp : Sp} (D : Df P w K mg base x k [p1, p2] sp) (F : At K mg x st)
    (hb : ∀ (kV doc pm : Value) (an : Option Addr) (cdv ct : Value) (u1 u2 : Value), bindArgs (PySem.W.fnOf x x (defArgs st) (defBody st) (defScope st) .none kV doc pm an cdv ct) ⟨[], [(p2, u2), (p1, u1)]⟩ = pure [(p1, u1), (p2, u2)]) : DfK P w K mg base x k p1 p2 sp := by
  obtain ⟨f, fd, g, kp, b, G, oc, od, osl, lk⟩ := D.ex
  obtain ⟨f', fd', g', F'⟩ := F.ex
  rw [g] at g'
  cases g'
  obtain ⟨oc', od', kV, doc, pm, an, cdv, ct, osl', e, lk', _⟩ := F'.ex
  rw [lk] at lk'
  cases lk'
  refine ⟨f, fd, g, kp, ⟨fun s us ws hk hl => ?_, fun r1 r2 => ((r1.append r1).append r1).append (Vals.rev r2)⟩, G⟩
  simp only [List.length_append, List.length_reverse, List.length_cons, List.length_nil] at hl
  have hu : us = [] := by
    cases us with
    | nil => rfl
    | cons a r =>
      simp only [List.length_cons] at hl
      omega
  subst hu
  match ws, hl with
  | [u2, u1], _ =>
    subst e
    exact .of_eq (hb kV doc pm an cdv ct u1 u2)
def tFnK (sp : Sp) (tk : TA) : TE := fun σ H Q => tk σ H fun zs H1 => sp zs.reverse H1 Q E0
theorem pe_fnK {X : Cx} {x p1 p2 : Str} {p pos : Pos} {kws : List Keyword} {tk : TA} {k k0 : Nat} {sp : Sp} (D : DfK X.prog X.w X.K X.mg X.base x k p1 p2 sp) (hk0 : k ≤ k0) (hr : Room k0 X.A) (hkw : PK X kws tk)
    (hg : Gl X x := by rfl) (hdb : (x == ("__debug__" : Str)) = false := by decide) (hall : (backToKw pos (keywordEach kws X.env)).all (·.1.isSome) = true := by rfl) (hks : (backToKw pos (keywordEach kws X.env)).filterMap (·.1) = [p2, p1] := by rfl)
    (plain : ((backTo pos (starEach [] X.env)).any (·.1) || (backToKw pos (keywordEach kws X.env)).any (·.1.isNone)) = false := by rfl) :
    PE X (.Call (.Name x p) [] kws pos) (tFnK sp tk) := by
  obtain ⟨f, fd, hm, hk, hb, F⟩ := D.ex
  (refine ⟨fun pins s σ H Q I h => ?_⟩)
  (refine wpAny_Call_Name_kw (ld_glob I hg hm ?_ hdb))
  refine PySem.W.callWith_KW0 (h₀ := X.base) I.ok.mod.kin hk hall (thn (hkw.run pos pins s σ H _ I h) fun ws s2 ⟨zs, H2, I2, rz, q2⟩ => ⟨I2.kIn, ?_⟩) plain
  rw [hks]
  exact run_fnk (us := []) (vs := []) F (hr.mono hk0) hb pass0 I2 .nil rz q2

/-! ### math.lcm -/
def rLcm : List V → Hp → VK → Prop := fun vs H Q => ∃ a b : Int, vs = [.int a, .int b] ∧ a.natAbs < 2 ^ 9000 ∧ b.natAbs < 2 ^ 9000 ∧ Q (.int ((Nat.lcm a.natAbs b.natAbs : Nat) : Int)) H
theorem lcm_log {a : Int} (h : a.natAbs < 2 ^ 9000) (c : Nat) (hc : c < 2 ^ 9000) : ¬ (max c a.natAbs).log2 / 30 + 1 > 450 := by
  have h1 : max c a.natAbs < 2 ^ 9000 := by omega
  have h2 := PySem.Flt.log2_lt_of (k := 9000) (by decide) h1
  omega
theorem cr_lcm {X : Cx} : CallR X (.builtin "math.lcm") rLcm := by
  (intro pins s σ H vs us Q I r h)
  obtain ⟨a, b, rfl, ha, hb, q⟩ := h
  (obtain ⟨t, u, rfl⟩ := Vals.int2 r)
  have hz : ((((Nat.lcm 1 a.natAbs).lcm b.natAbs : Nat) : Int)).natAbs.log2 < bitsLine := by
    rw [Nat.lcm_one_left]
    have h1 : a.natAbs.lcm b.natAbs ≤ a.natAbs * b.natAbs := by
      unfold Nat.lcm
      exact Nat.div_le_self _ _
    have h2 : a.natAbs * b.natAbs < 2 ^ 18000 := by
      rw [show (18000 : Nat) = 9000 + 9000 by rfl, Nat.pow_add]
      exact Nat.mul_lt_mul'' ha hb
    have h3 := PySem.Flt.log2_lt_of (k := 18000) (by decide) (Nat.lt_of_le_of_lt h1 h2)
    (have e : bitsLine = 134217728 := by decide)
    rw [Int.natAbs_natCast]
    omega
  have g := PySem.W.mg_run_lcm a t b u (lcm_log ha 1 (by exact Nat.one_lt_two_pow (by decide))) (lcm_log hb _ ha) hz
  have g2 := call_function_meets PySem.W.MGF.kind_lcm PySem.W.MGF.plain_lcm PySem.W.MGF.entry_lcm (PySem.W.MGF.args_lcm (.int a t) (.int b u)) g.meets (prog := X.prog) (w := X.w) (A := X.A) (E := X.xe) (s := s) (Q := EP X pins σ Q)
  refine g2 ⟨.int _, H, I.tok _, ⟨_, rfl⟩, ?_⟩
  rw [Nat.lcm_one_left]
  exact q
end V3
namespace V3
open PySem.Spec PySem L2 PyProof.Rows
theorem ifT {b : Bool} {A B : Prop} (h : b = true) (a : A) : if b = true then A else B := by
  rw [if_pos h]
  exact a
theorem ifF {b : Bool} {A B : Prop} (h : b = false) (a : B) : if b = true then A else B := by
  (rw [if_neg (by rw [h]; exact Bool.false_ne_true)])
  exact a
theorem if2 {b : Bool} {A B : Prop} (h1 : b = true → A) (h2 : b = false → B) : if b = true then A else B := by
  cases b with
  | true => exact iteT (h1 rfl)
  | false => exact iteF (h2 rfl)

/-! ### data -/
section
variable {K : PySem.W.Frag} {H : Hp}
theorem dpInt {v : V} {i : Int} (h : Dp K H v (.int i)) : v = .int i := by
  cases h
  rfl
theorem dpTup {v : V} {ds : List PyData} (h : Dp K H v (.tuple ds)) : ∃ p xs, v = .ref p ∧ SqT K H p xs ∧ DpAll K H xs ds := by
  cases h with
  | tup a b => exact ⟨_, _, rfl, a, b⟩
theorem dpLst {v : V} {ds : List PyData} (h : Dp K H v (.list ds)) : ∃ p xs, v = .ref p ∧ SqL K H p xs ∧ DpAll K H xs ds := by
  cases h with
  | lst a b => exact ⟨_, _, rfl, a, b⟩
theorem dpAll_len {vs : List V} {ds : List PyData} (h : DpAll K H vs ds) : vs.length = ds.length := by
  induction ds generalizing vs with
  | nil =>
    cases h
    rfl
  | cons d ds ih =>
    cases h with
    | cons a b => rw [List.length_cons, List.length_cons, ih b]
theorem dpAll_get {vs : List V} {ds : List PyData} {i : Nat} {d : PyData} (h : DpAll K H vs ds) (e : ds[i]? = some d) : ∃ v, vs[i]? = some v ∧ Dp K H v d := by
  induction ds generalizing vs i with
  | nil => simp at e
  | cons x ds ih =>
    cases h with
    | cons a b =>
      cases i with
      | zero =>
        have q : x = d := Option.some.inj e
        subst q
        exact ⟨_, rfl, a⟩
      | succ i =>
        have q := ih (i := i) b
        exact q e
theorem dpAll_getV {vs : List V} {ds : List PyData} {i : Nat} {v : V} (h : DpAll K H vs ds) (e : vs[i]? = some v) : ∃ d, ds[i]? = some d ∧ Dp K H v d := by
  induction ds generalizing vs i with
  | nil =>
    cases h
    simp at e
  | cons x ds ih =>
    cases h with
    | cons a b =>
      cases i with
      | zero =>
        have q := Option.some.inj e
        subst q
        exact ⟨_, rfl, a⟩
      | succ i =>
        have q := ih (i := i) b
        exact q e
theorem dpAll_app {vs ws : List V} {ds es : List PyData} (h : DpAll K H vs ds) (g : DpAll K H ws es) : DpAll K H (vs ++ ws) (ds ++ es) := by
  induction ds generalizing vs with
  | nil =>
    cases h
    exact g
  | cons x ds ih =>
    cases h with
    | cons a b => exact .cons a (ih b)
theorem dpAll_ints : ∀ (ns : List Int), DpAll K H (ns.map V.int) (ns.map PyData.int)
  | [] => .nil
  | n :: r => .cons (.int n) (dpAll_ints r)
theorem dpAll_intsV {vs : List V} {ns : List Int} (h : DpAll K H vs (ns.map PyData.int)) : vs = ns.map V.int := by
  induction ns generalizing vs with
  | nil =>
    cases h
    rfl
  | cons n r ih =>
    cases h with
    | cons a b =>
      rw [dpInt a, ih b]
      rfl
/-- a fraction, a row of them -/
def frD (q : Int × Int) : PyData := .tuple [.int q.1, .int q.2]
def rowD (qs : List (Int × Int)) : PyData := .tuple (qs.map frD)
theorem dpFr {v : V} {q : Int × Int} (h : Dp K H v (frD q)) : ∃ p, v = .ref p ∧ SqT K H p [.int q.1, .int q.2] := by
  obtain ⟨p, xs, rfl, hs, ha⟩ := dpTup h
  cases ha with
  | cons a b =>
    cases b with
    | cons c d =>
      cases d
      rw [dpInt a, dpInt c] at hs
      exact ⟨p, rfl, hs⟩
theorem mkFr {p : Addr} {a b : Int} (h : SqT K H p [.int a, .int b]) : Dp K H (.ref p) (frD (a, b)) := .tup h (.cons (.int a) (.cons (.int b) .nil))
theorem mkFrU {H' : Hp} {p : Addr} {q : Int × Int} (h : H' p = some (.tup [.int q.1, .int q.2])) : Dp K H' (.ref p) (frD q) := .tup (SqT.of h) (.cons (.int q.1) (.cons (.int q.2) .nil))
end

/-! ### enumerate of a tuple -/
set_option maxHeartbeats 4100000 in
theorem meets_enumerate_newB1 {v : Value} {o₀ : Obj} {H : Heap → Prop} (B : Begins v o₀ H) :
    Meets (Builtin.«enumerate.__new__» ⟨[.type "enumerate", v], []⟩) (fun _ R s => H s.heap ∧
      R (.ok (.ret (.ref (s.heap.push o₀).objs.size))) { s with heap := (s.heap.push o₀).push { cls := .type "enumerate", data := .fields #[.none, .bool false, .ref s.heap.objs.size, rawInt 0, .none, .none] } }) :=
  .of_wp fun prog w A R s h₀ => by
    obtain ⟨hp₀, g₀, d₀, tk₀, os₀⟩ := s; obtain ⟨h1₀, h₀⟩ := h₀
    have hsub₀ := sub_enumerate
    have q1₀ : ∀ {A' : Around} {E : Value → Shared → Prop} {Q : Value → Shared → Prop}, Q (.ref hp₀.objs.size) ⟨hp₀.push o₀, g₀, d₀, tk₀, os₀⟩ → wpAny (model prog w) A' (pyIter v) Q E ⟨hp₀, g₀, d₀, tk₀, os₀⟩ :=
      fun q₀ => B.iter prog w _ _ ⟨hp₀, g₀, d₀, tk₀, os₀⟩ _ h1₀ q₀
    wp_walk using q1₀
    refine wpAny_stack_any fun st₀ => wpAny_pure ?_
    split
    · rename_i c _ _ _ _ _
      (cases (c == Value.type "enumerate"))
      · wp_walk using q1₀
        exact ⟨_, rfl, h₀⟩
      · wp_walk using q1₀
        exact ⟨_, rfl, h₀⟩
    · wp_walk using q1₀
      exact ⟨_, rfl, h₀⟩
theorem call_enum_begins {prog : Program} {w : World} {A : Around} {E : Value → Shared → Prop} {s : Shared} {v : Value} {o₀ : Obj} {H : Heap → Prop} {Q : Value → Shared → Prop} (B : Begins v o₀ H) (h1₀ : H s.heap)
    (h₀ : ∀ h₀', IsEnum h₀' (s.heap.objs.size + 1) s.heap.objs.size 0 .none → h₀'.get? s.heap.objs.size = some o₀ → h₀'.objs.size = s.heap.objs.size + 2 →
      (∀ b₀ o₀, s.heap.get? b₀ = some o₀ → h₀'.get? b₀ = some o₀) → Q (.ref (s.heap.objs.size + 1)) { s with heap := h₀' }) :
    wpAny (model prog w) A (call (.type "enumerate") [v]) Q E s := by
  refine callType_new F.called_enumerate (by decide) (F.typeCall_enumerate_1 _) (F.newCall_enumerate_1 _) (fun thing => F.args_object_init_2 thing _) F.entry_enumerate_new
    (meets_enumerate_newB1 B) ⟨h1₀, ?_⟩
  have hz₀ : (s.heap.push o₀).objs.size = s.heap.objs.size + 1 := Heap.size_push ..
  show _ ∧ _
  rw [hz₀]
  have he₀ : IsEnum ((s.heap.push o₀).push { cls := .type "enumerate", data := .fields #[.none, .bool false, .ref s.heap.objs.size, rawInt 0, .none, .none] }) (s.heap.objs.size + 1) s.heap.objs.size 0 .none := by
    have := Heap.get?_push_size (s.heap.push o₀) (o := { cls := .type "enumerate", data := .fields #[.none, .bool false, .ref s.heap.objs.size, rawInt 0, .none, .none] }) rfl
    rw [hz₀] at this; exact this
  refine ⟨⟨_, he₀, rfl⟩, h₀ _ he₀ (Heap.get?_push_of_some _ (Heap.get?_push_size _ B.free)) (by rw [Heap.size_push, hz₀]) fun b₀ o₀ x => Heap.get?_push_of_some _ (Heap.get?_push_of_some _ x)⟩
/-- the tuple at a, each item in a new₀ pair -/
def IteT (K : PySem.W.Frag) (a : Addr) : It :=
  ⟨fun i H => ∃ (xs : List V) (x : V), SqT K H a xs ∧ xs[i]? = some x, fun i H v H' => ∃ T x, v = .ref T ∧ H T = none ∧ H' = upd H T (.tup [.int (i : Nat), x]) ∧ ∀ xs, SqT K H a xs → xs[i]? = some x, fun i H => ∃ xs : List V, SqT K H a xs ∧ xs.length ≤ i⟩
theorem turn_enumT {P : Program} {w : World} {K : PySem.W.Frag} {elts : List Expr} {kk : Nat} {tpos : Pos} (a e it : Addr) :
    Turn P w K (.Tuple elts kk tpos) (IteT K a) [e, it] e (fun i h₀ => (∃ old₀, IsEnum h₀ e it ((i : Nat) : Int) old₀) ∧ h₀.IsTupleIter it a i ∧ e ≠ it ∧ a ≠ it ∧ a ≠ e) where
  mem := by simp
  obj := fun i h₀ st₀ b₀ hb₀ => by
    obtain ⟨⟨old₀, he₀⟩, ⟨o₀, ho₀, hc₀, hd₀⟩, _⟩ := st₀
    have e₀' : b₀ = e ∨ b₀ = it := by simpa using hb₀
    rcases e₀' with z₀ | z₀
    · rw [z₀]; exact ⟨_, he₀, fun v q₀ => nomatch q₀⟩
    · rw [z₀]; exact ⟨o₀, ho₀, fun v q₀ => by rw [hd₀] at q₀; cases q₀⟩
  keep := fun i h₀ h₀' st₀ k => let ⟨⟨old₀, he₀⟩, hi₀, hne₀⟩ := st₀; ⟨⟨old₀, k e (by simp) _ he₀⟩, hi₀.at fun o₀ q₀ => k it (by simp) o₀ q₀, hne₀⟩
  item := by
    intro X hP hw hK hc₀ i pins₀ s σ₀ H E I hf₀ st₀ hg₀
    subst hP hw hK
    obtain ⟨⟨old₀, he₀⟩, hit₀, hne₀, hai₀, hae₀⟩ := st₀
    obtain ⟨xs, x, hq₀, hx₀⟩ := hg₀
    obtain ⟨its₀, rv₀, p₀, hz₀⟩ := I.tuple hq₀
    obtain ⟨u₀, hu₀, ru₀⟩ := rv₀.get hx₀
    have hel₀ : e < s.heap.objs.size := Heap.lt_size he₀
    have hil₀ : it < s.heap.objs.size := by obtain ⟨_, q₀, _⟩ := hit₀; exact Heap.lt_size q₀
    have hlen₀ : i < its₀.toArray.size := by
      have h1₀ : i < its₀.length := (List.getElem?_eq_some_iff.mp hu₀).1
      simpa using h1₀
    have ht₀ : s.heap.IsTuple a its₀.toArray := by
      obtain ⟨ob, h1₀, h2, n, h3⟩ := p₀
      exact ⟨ob, h1₀, h2, n, h3⟩
    have D : Draws X.prog X.w X.A.in1 it [it, a] its₀.toArray.size (fun i v => its₀.toArray[i]? = some v) (fun i h₀ => h₀.IsTupleIter it a i ∧ h₀.IsTuple a its₀.toArray) := Draws.tuple (by exact I.ok.hd hc₀) it a hai₀ its₀.toArray
    refine wpAny_pyNext_enum_itemD D he₀ ⟨hit₀, ht₀⟩ hlen₀ hne₀ (by simp; exact ⟨hne₀, fun z₀ => hae₀ z₀.symm⟩) fun x₀' h₀' tk₀ hPx₀ ho₀ hst₀' hT₀ hsz₀ hk₀ => ?_
    have ex₀ : x₀' = u₀ := by
      have q₀ : its₀.toArray[i]? = some u₀ := by simpa using hu₀
      have hPx' : its₀.toArray[i]? = some x₀' := hPx₀
      rw [q₀] at hPx'
      exact (Option.some.inj hPx').symm
    subst ex₀
    refine ⟨_, rfl, wpAny_letOwnedTupleGo_enum (s := { s with heap := h₀', toks := tk₀ + 1 }) ho₀ fun h₀' he₀' sb₀ => ?_⟩
    have hT2₀ : h₀'.get? s.heap.objs.size = some { cls := .type "tuple", data := .seq #[.int i tk₀, x₀'] } := (sb₀.2 _ (Nat.ne_of_gt hel₀)).trans hT₀
    have new₀ : ObjOk X.prog X.w (upd H s.heap.objs.size (.tup [.int (i : Nat), x])) h₀' s.heap.objs.size (.tup [.int (i : Nat), x]) :=
      ⟨by show 2 ≤ sizeLine; decide, [.int i tk₀, x₀'], .cons ⟨_, rfl⟩ (.cons ru₀ .nil), ⟨_, hT2₀, rfl, _, rfl⟩⟩
    have I1₀ : Inv X pins₀ σ₀ (upd H s.heap.objs.size (.tup [.int (i : Nat), x])) { s with heap := h₀', toks := tk₀ + 1 } :=
      I.turnedNew (ch := [e, it]) (fun b₀ ob hb₀ q₀ => (sb₀.2 b₀ (fun z₀ => hb₀ (by simp [z₀]))).trans (hk₀ b₀ ob (fun z₀ => hb₀ (by simp [z₀])) (fun z₀ => hb₀ (by simp [z₀])) q₀)) hf₀ (Nat.le_refl _) new₀
    refine ⟨.ref s.heap.objs.size, _, I1₀, rfl, ⟨_, x, rfl, I.hok.fresh (Nat.le_refl _), rfl, fun ys hy₀ => by rw [I.tuple_inj hy₀ hq₀]; exact hx₀⟩, ⟨⟨x₀', ?_⟩, hst₀'.1.at fun o₀ q₀ => (sb₀.2 it (Ne.symm hne₀)).trans q₀, hne₀, hai₀, hae₀⟩, fun b₀ hb₀ => ?_⟩
    · have e1₀ : ((i + 1 : Nat) : Int) = (i : Int) + 1 := by omega
      rw [e1₀]; exact he₀'
    · have hb₀' : b₀ < s.heap.objs.size := by
        have e₀' : b₀ = e ∨ b₀ = it := by simpa using hb₀
        rcases e₀' with z₀ | z₀
        · rw [z₀]; exact hel₀
        · rw [z₀]; exact hil₀
      rw [upd_ne (Nat.ne_of_lt hb₀')]
      exact (hf₀ b₀ hb₀).1
  done := by
    intro X hP hw hK hc₀ i pins₀ s σ₀ H E I hf₀ st₀ hg₀
    subst hP hw hK
    obtain ⟨⟨old₀, he₀⟩, hit₀, hne₀, hai₀, hae₀⟩ := st₀
    obtain ⟨xs, hq₀, hx₀⟩ := hg₀
    obtain ⟨its₀, rv₀, p₀, hz₀⟩ := I.tuple hq₀
    obtain ⟨f0₀, f1₀, f2₀, f3₀, f4₀, f5₀⟩ := hf₀ it (by simp)
    have hl₀ := rv₀.length
    have ht₀ : s.heap.IsTuple a its₀.toArray := by
      obtain ⟨ob, h1₀, h2, n, h3⟩ := p₀
      exact ⟨ob, h1₀, h2, n, h3⟩
    have hT₀ : s.TypeIs (.ref e) "enumerate" := ⟨_, he₀, rfl⟩
    unfold pyNext
    refine wpAny_bind (wpAny_attempt (wpAny_callSpecial?_slot (name := Str.ofString "__next__") hT₀ F.slot_enumerate_next
      (wpAny_call_entry F.slot_enumerate_next hT₀ F.entry_enumerate_next ?_ (F.args_enumerate_next_1 _))))
    (show wpAny _ _ (field (.ref e) 2 >>= _) _ _ _)
    refine wpAny_bind (wpAny_field he₀ rfl (x := .ref it) rfl ?_)
    refine wpAny_bind (wpAny_nextOf_tuple_end (by exact I.ok.hd hc₀) hit₀ ht₀ (by simp; omega) fun h₀' x he₀' hx₀' => ?_)
    obtain ⟨o₀, ho₀, hc'⟩ := hx₀'
    refine wpAny_bind (wpAny_isInstance (T := "StopIteration") (b := true) ⟨o₀, ho₀, hc'⟩ isSubtype_stop ?_)
    exact wpAny_pure ⟨rfl, I.turned (t' := s.toks) (fun b₀ o₀ hb₀ q₀ => he₀' b₀ o₀ hb₀ q₀) f0₀ f1₀ f3₀ f4₀ f5₀⟩
  self := fun A i s Q E st₀ h₀ => let ⟨⟨_, he₀⟩, _⟩ := st₀; wpAny_pyIter_enum he₀ h₀
def iEnumT (K : PySem.W.Frag) (ta : TA) : TI := fun σ₀ H R => ta σ₀ H fun vs H1 => ∃ a xs, vs = [.ref a] ∧ SqT K H1 a xs ∧ R (IteT K a) H1
theorem pi_enumT {X : Cx} {e : Expr} {ta : TA} {p₀ pos tpos : Pos} {elts : List Expr} {kk : Nat} (hg₀ : Gl X "enumerate") (hm : X.mg "enumerate" = none) (ha : PA X [e] ta) (hs : starEach [e] X.env = [(false, eval e X.env)] := by rfl) :
    PI X (.Tuple elts kk tpos) (.Call (.Name "enumerate" p₀) [e] [] pos) (iEnumT X.K ta) := by
  refine ⟨fun pins₀ s σ₀ H R I h₀ => ?_⟩
  refine Call_ (ld_blt I hg₀ hm boot_enumerate (PyProof.Rows.callWith_type1 (thn (ha.run pos pins₀ s σ₀ H _ I h₀) fun us₀ s1 ⟨vs, H1, I1₀, r1, q1₀⟩ => ?_) hs rfl))
  obtain ⟨a, xs, ex₀, hq₀, q₀⟩ := q1₀
  subst ex₀
  cases r1 with
  | cons r₀ rr₀ =>
    cases rr₀
    cases r₀
    obtain ⟨its₀, rv₀, p₀', hz₀⟩ := I1₀.tuple hq₀
    have ht₀ : s1.heap.IsTuple a its₀.toArray := by
      obtain ⟨ob, h1₀, h2, n, h3⟩ := p₀'
      exact ⟨ob, h1₀, h2, n, h3⟩
    have hal₀ : a < s1.heap.objs.size := by obtain ⟨_, q₀, _⟩ := ht₀; exact Heap.lt_size q₀
    refine call_enum_begins (begins_tuple a its₀.toArray) ht₀ fun h₀' he₀ hit₀ hsz₀ hk₀ => wpAny_pyIter_enum he₀ ?_
    have I2₀ : Inv X pins₀ σ₀ H1 { s1 with heap := h₀' } := I1₀.kept (t' := s1.toks) hk₀
    refine ⟨s1.heap.objs.size + 1, [s1.heap.objs.size + 1, s1.heap.objs.size], _, _, H1, rfl, I2₀, turn_enumT a (s1.heap.objs.size + 1) s1.heap.objs.size, ⟨⟨.none, he₀⟩, ⟨_, hit₀, rfl, rfl⟩, Nat.succ_ne_self _, Nat.ne_of_lt hal₀, Nat.ne_of_lt (Nat.lt_succ_of_lt hal₀)⟩, fun b₀ hb₀ => ?_, q₀⟩
    have e₀' : b₀ = s1.heap.objs.size + 1 ∨ b₀ = s1.heap.objs.size := by simpa using hb₀
    have hle₀ : s1.heap.objs.size ≤ b₀ := by
      rcases e₀' with z₀ | z₀
      · rw [z₀]; exact Nat.le_add_right _ _
      · rw [z₀]; exact Nat.le_refl _
    exact I1₀.fpOk hle₀ (I1₀.hok.fresh hle₀)
/-- the loop over enumerate(t) -/
theorem for_enumT {K : PySem.W.Frag} {a : Addr} {xs : List V} {g : TG} {tb : TS} {D : Ends} {σ : L2.St} {H : Hp} (Pv : Nat → L2.St → Hp → Prop) (h0 : Pv 0 σ H) (hl : ∀ i σ H, i ≤ xs.length → Pv i σ H → SqT K H a xs)
    (hs : ∀ (i : Nat) (x : V) (T : Addr) (σ : L2.St) (H : Hp), xs[i]? = some x → Pv i σ H → H T = none → g (.ref T) σ (upd H T (.tup [.int (i : Nat), x])) fun σ2 H2 => tb { D with nx := Pv (i + 1), bk := D.nx, ct := Pv (i + 1) } σ2 H2)
    (hd : ∀ σ H, Pv xs.length σ H → D.nx σ H) :
    ∃ W : Nat → Nat → L2.St → Hp → Prop, (∃ m, W 0 m σ H) ∧ ∀ i m σ H, W i m σ H → ((IteT K a).stop i H ∧ D.nx σ H) ∨ ((IteT K a).go i H ∧ ∃ Nx : L2.St → Hp → Prop, (∀ σ' H', Nx σ' H' → ∃ m', m' < m ∧ W (i + 1) m' σ' H') ∧ ∀ x H', (IteT K a).yld i H x H' → g x σ H' fun σ2 H2 => tb { D with nx := Nx, bk := D.nx, ct := Nx } σ2 H2) := by
  refine ⟨fun i m σ H => i + m = xs.length ∧ Pv i σ H, ⟨xs.length, by omega, h0⟩, ?_⟩
  rintro i m σ H ⟨em, hp⟩
  have hsq := hl i σ H (by omega) hp
  by_cases hi : i < xs.length
  · refine .inr ⟨⟨xs, xs[i], hsq, List.getElem?_eq_getElem hi⟩, Pv (i + 1), fun σ' H' q => ⟨m - 1, by omega, by omega, q⟩, ?_⟩
    rintro x H' ⟨T, y, rfl, hn, rfl, hy⟩
    exact hs i y T σ H (hy xs hsq) hp hn
  · (have e : i = xs.length := by omega)
    subst e
    exact .inl ⟨⟨xs, hsq, Nat.le_refl _⟩, hd σ H hp⟩
end V3
namespace V3
open PySem.Spec PySem L2 PyProof.Rows
theorem yesIf {σ : L2.St} {H : Hp} {A B : Hp → Prop} (h : A H) : tYes σ H (fun b H3 => if b = true then A H3 else B H3) := by
  show if true = true then A H else B H
  rw [if_pos rfl]
  exact h
end V3
set_option maxHeartbeats 4100000
/-! max, min of (x for x in range(..) if a[x] op b[y]). -/
namespace V3
open PySem.Spec PySem L2 PyProof.Rows GxR

/-- what is wanted of the tests of a generator expression over a range from lo₀ on: of place i they say pz₀ i, and change nothing -/
def TestR (X : Cx) (P : Addr) (scope : Scope) (x : Str) (ifs : List Expr) (tz : L2.St → Hp → Int → Nat → (Nat → Bool) → Prop) : Prop :=
  ∀ (pins₀ : List (Addr × Obj)) (s : Shared) (σ₀ : L2.St) (H : Hp) (lo₀ : Int) (n : Nat) (pz₀ : Nat → Bool), Inv X pins₀ σ₀ H s → tz σ₀ H lo₀ n pz₀ →
    (∃ ps₀ : Array Value, s.heap.get? P = some { cls := .none, data := .fields ps₀ }) →
    ∀ (cenv₀ : Env) (A' : Around) (E' : Value → Shared → Prop) (i : Nat) (t₀ : Tok) (s₂₀ : Shared) (m₂₀ : Str → Option Value), i < n → cenv₀.scope = scope → cenv₀.cells = cloFrom X.env.cells scope.names [] → s₂₀.heap.Ns cenv₀.locals m₂₀ →
      m₂₀ x = some (.int (lo₀ + (i : Nat) * 1) t₀) → (∀ b o, b ≠ P → s.heap.get? b = some o → s₂₀.heap.get? b = some o) →
      wpAny (model X.prog X.w) A' (forIn ifs true fun c r => if r = true then do let ok ← isTrue c cenv₀ (eval c cenv₀); pure (ForInStep.yield ok) else pure (ForInStep.yield r)) (fun ok s₃ => ok = pz₀ i ∧ Keeps s₂₀ s₃) E' s₂₀
/-- the generator g₀, ready to be walked in the state s5₀; H1₀: what was held before -/
def ReadyR (X : Cx) (pins₀ : List (Addr × Obj)) (σ₀ : L2.St) (H1₀ : Hp) (P : Addr) (lo₀ : Int) (n : Nat) (pz₀ : Nat → Bool) (g₀ : Addr) (s5₀ : Shared) : Prop :=
  ∃ (fp₀ wr₀ : List Addr) (G : Array GenState → Array GenState → Prop) (F : Nat → Value → Prop) (St₀ : Nat → Shared → Prop),
    WalksS X.prog X.w X.A.in1 g₀ fp₀ wr₀ G (passing pz₀ n 0).length F St₀ ∧ St₀ 0 s5₀ ∧ (∀ b ∈ fp₀, b < s5₀.heap.objs.size) ∧ (∀ j v₀, F j v₀ → ∃ i, (passing pz₀ n 0)[j]? = some i ∧ ∃ t₀, v₀ = .int (lo₀ + (i : Nat) * 1) t₀) ∧
    ∀ s', Moved wr₀ G s5₀ s' → ∃ H2₀, Tabbed P H1₀ H2₀ ∧ Inv X pins₀ σ₀ H2₀ s'
section
variable {X : Cx} {pins₀ : List (Addr × Obj)} {σ₀ : L2.St} {H : Hp} {s : Shared}
theorem range_small {a b : Int} (h1 : -(2 ^ 62) ≤ a) (h2 : a < 2 ^ 62) (h3₀ : -(2 ^ 62) ≤ b) (h4 : b < 2 ^ 62) : Builtin.Range.small a b 1 = true := by
  unfold Builtin.Range.small Builtin.Range.rangeFitsLong
  rw [rangeSize_nat]
  simp only [Bool.and_eq_true, Bool.or_eq_true, decide_eq_true_eq, beq_iff_eq]
  refine ⟨⟨⟨⟨?_, ?_⟩, ?_⟩, ?_⟩, ?_⟩
  · omega
  · omega
  · omega
  · omega
  · right
    rw [if_pos (by decide)]
    (simp only [Bool.and_eq_true, decide_eq_true_eq])
    omega
theorem gen_range {c P : Addr} {iter : Expr} {x : Str} {px pe gpos : Pos} {ifs : List Expr} {scope : Scope} {te : L2.St → Hp → (Int → Int → Hp → Prop) → Prop} {tz : L2.St → Hp → Int → Nat → (Nat → Bool) → Prop} {k : Nat} {Q' : Value → Shared → Prop} {R : Int → Nat → (Nat → Bool) → Hp → Prop}
    (hr₀ : Room k X.A) (TB₀ : TabB X.base X.mg c P) (hcode₀ : X.env.code = .ref c) (S : GenS X.env scope x) (hi₀ : PRg X iter te) (ht₀ : TestR X P scope x ifs tz) (hd₀ : (x == ("__debug__" : Str)) = false)
    (hs₀ : ∀ v₀, genFold iter X.env v₀ = pure v₀) (I₀ : Inv X pins₀ σ₀ H s)
    (h : te σ₀ H fun a b H1₀ => -(2 ^ 62) ≤ a ∧ a < 2 ^ 62 ∧ -(2 ^ 62) ≤ b ∧ b < 2 ^ 62 ∧ TabG H1₀ P ∧ ∃ pz₀, tz σ₀ H1₀ a (b - a).toNat pz₀ ∧ R a (b - a).toNat pz₀ H1₀)
    (hQ₀ : ∀ lo₀ n pz₀ H1₀ g₀ s5₀, R lo₀ n pz₀ H1₀ → ReadyR X pins₀ σ₀ H1₀ P lo₀ n pz₀ g₀ s5₀ → Q' (.ref g₀) s5₀) :
    wpAny (model X.prog X.w) X.A (eval (.GeneratorExp (.Name x pe) [⟨.Name x px, iter, ifs, 0⟩] scope gpos) X.env) Q' X.xe s := by
  refine wpAny_GeneratorExp_walksQ hr₀.hd S.co (closure_ok S.free) S.cell S.dot S.loc S.kind (by have := hr₀.dp; omega) ?_ hs₀
  refine thn (hi₀ pins₀ s σ₀ H _ I₀ h) fun xv₀ s1₀ ⟨r, a, b, t₀, u₀, v₀, H1₀, ex₀, hrng₀, I1₀, q1₀⟩ => ?_
  subst ex₀
  obtain ⟨b1₀, b2₀, b3₀, b4₀, ⟨ps₀, hP₀, htr₀⟩, pz₀, hz₀, q1₀⟩ := q1₀
  refine wpAny_pyIter_range hrng₀ (range_small b1₀ b2₀ b3₀ b4₀) ?_
  generalize ho₀ : ({ cls := .type "range_iterator", data := .fields #[rawInt a, rawInt (Builtin.Range.rangeSize a b 1), rawInt 1] } : Obj) = o
  have hfo₀ : o.isFreed = false := by rw [← ho₀]; rfl
  have hPs₀ : s1₀.heap.get? P = some { cls := .none, data := .fields ps₀ } := I1₀.hok P _ hP₀
  have hPlt₀ : P < s1₀.heap.objs.size := Heap.lt_size hPs₀
  have hP2₀ : (s1₀.heap.push o).get? P = some { cls := .none, data := .fields ps₀ } := Heap.get?_push_of_some _ hPs₀
  have cd₀ : PySem.W.CodeHd (s1₀.heap.push o) c P := TB₀.code.keeps fun b u₀ e => Heap.get?_push_of_some _ (I1₀.bk b u₀ e)
  have lim2₀ : (s1₀.heap.push o).NoLimit := I1₀.nolimit.push o
  have hst₀ : IsRangeIter (s1₀.heap.push o) s1₀.heap.objs.size (a + ((0 : Nat) : Int) * 1) (((b - a).toNat : Int) - ((0 : Nat) : Int)) 1 := by
    show (s1₀.heap.push o).get? s1₀.heap.objs.size = _
    rw [← ho₀, rangeSize_nat]
    simpa using Heap.get?_push_size s1₀.heap (o := { cls := .type "range_iterator", data := .fields #[rawInt a, rawInt ((b - a).toNat : Int), rawInt 1] }) rfl
  have cont₀ : ∀ (code : Value) (h3₀ : Heap) (tk₀ : Nat) (ps₀' : Array Value), Heap.ExtBut P (s1₀.heap.push o) h3₀ → (s1₀.heap.push o).objs.size ≤ h3₀.objs.size → h3₀.get? P = some { cls := .none, data := .fields ps₀' } → (∃ more₀, ps₀' = ps₀ ++ more₀) → TriplesOk ps₀'.toList →
      wpAny (model X.prog X.w) X.A (builtinsFor X.env.globals X.env.builtins) (fun bi sB =>
        ∃ Ia fp₀ wr₀ n₀ Pf St₀ pz₀ F, Value.ref s1₀.heap.objs.size = .ref Ia ∧ (∀ A' : Around, A'.handled = none → Walks X.prog X.w A' Ia fp₀ wr₀ n₀ Pf St₀) ∧ St₀ 0 sB.heap ∧ (∀ b ∈ fp₀, b < sB.heap.objs.size) ∧ sB.heap.NoLimit ∧ cStatics ∉ wr₀ ∧
          (∀ href₀ : Heap, (∀ b o, sB.heap.get? b = some o → href₀.get? b = some o) →
            QuietGen X.prog X.w (genEnv scope (cloFrom X.env.cells scope.names []) sB.heap.objs.size code bi X.env) x ifs (.Name x pe) (List.range sB.heap.objs.size) wr₀ Pf pz₀ F href₀) ∧
          (∀ a h₅ tk₀ gs, gs.bare = true → sB.heap.objs.size < a → h₅.objs.size = a + 1 → (∀ b o, sB.heap.get? b = some o → h₅.get? b = some o) →
            WalksS X.prog X.w X.A.in4 a (a :: sB.heap.objs.size :: List.range sB.heap.objs.size) (sB.heap.objs.size :: wr₀) (GenOnlyQ sB.gens.size) (passing pz₀ n₀ 0).length
              (fun j y => ∃ i, (passing pz₀ n₀ 0)[j]? = some i ∧ F i y) (GenAt X.prog X.w X.A.in4 a sB.gens.size sB.heap.objs.size (List.range sB.heap.objs.size) wr₀ pz₀ n₀ F) →
            GenAt X.prog X.w X.A.in4 a sB.gens.size sB.heap.objs.size (List.range sB.heap.objs.size) wr₀ pz₀ n₀ F 0 { sB with gens := sB.gens.push gs, toks := tk₀, heap := h₅ } →
            Q' (.ref a) { sB with gens := sB.gens.push gs, toks := tk₀, heap := h₅ })) X.xe { s1₀ with heap := h3₀, toks := tk₀ } := by
    intro code h3₀ tk₀ ps₀' hx₀ hsz₀ hP3₀ hmore₀ ht3₀
    obtain ⟨bm₀, ob₀, e1₀, e2₀, e3₀, e4₀, e5₀, e6₀, e7₀, e8₀⟩ := TB₀.bm
    have hcP₀ : cStatics ≠ P := fun e => by
      obtain ⟨_, hns, _⟩ := I1₀.nolimit
      obtain ⟨o', es₀, ep₀, ho₀, hd₀, _⟩ := hns
      rw [e, hPs₀] at ho₀
      cases ho₀
      cases hd₀
    have hcl₀ : cStatics < s1₀.heap.objs.size := let ⟨_, hns, _⟩ := I1₀.nolimit; hns.lt
    have sz2₀ : (s1₀.heap.push o).objs.size = s1₀.heap.objs.size + 1 := Heap.size_push ..
    have keep3₀ : ∀ b u₀, b ≠ P → s1₀.heap.get? b = some u₀ → h3₀.get? b = some u₀ := fun b u₀ hb₀ e => hx₀ b u₀ hb₀ (Heap.get?_push_of_some _ e)
    refine wpAny_builtinsFor (m := X.mg) (by rw [I1₀.ok.glob]; exact ((I1₀.mod.glob.keeps I1₀.bk).push o).extBut hx₀ TB₀.gP) e1₀ e2₀ (keep3₀ _ _ e4₀ (I1₀.bk _ _ e5₀)) e6₀ e7₀ e8₀ ?_
    refine ⟨s1₀.heap.objs.size, [s1₀.heap.objs.size], [s1₀.heap.objs.size], (b - a).toNat, fun i v₀ => i < (b - a).toNat ∧ ∃ t₀, v₀ = .int (a + (i : Nat) * 1) t₀, _, pz₀, (fun i y => ∃ t₀, y = .int (a + (i : Nat) * 1) t₀), rfl, (fun A' hA => (Walks.range hA s1₀.heap.objs.size a 1 (b - a).toNat).bound), ?_, ?_, lim2₀.extBut hx₀ hcP₀, ?_, ?_, ?_⟩
    · exact hx₀ _ _ (Nat.ne_of_gt hPlt₀) hst₀
    · intro b hb₀
      rcases List.mem_cons.mp hb₀ with z | z
      · rw [z]
        show s1₀.heap.objs.size < h3₀.objs.size
        omega
      · cases z
    · intro z
      (rcases List.mem_cons.mp z with z | z)
      · exact Nat.ne_of_lt hcl₀ z
      · cases z
    · intro href₀ hhref₀
      have kp₀ : ∀ (s₂₀ : Shared), (∀ b ∈ List.range h3₀.objs.size, b ∉ [s1₀.heap.objs.size] → ∀ o, href₀.get? b = some o → s₂₀.heap.get? b = some o) → ∀ b o, b ≠ P → s1₀.heap.get? b = some o → s₂₀.heap.get? b = some o := fun s₂₀ hk₀ b o hb₀ e => by
        have e3₀ := keep3₀ b o hb₀ e
        refine hk₀ b (List.mem_range.mpr (Heap.lt_size e3₀)) (fun z => ?_) o (hhref₀ b o e3₀)
        (rcases List.mem_cons.mp z with z | z)
        · have := Heap.lt_size e
          rw [z] at this
          exact Nat.lt_irrefl _ this
        · cases z
      refine ⟨fun A' E' i v₀ s₂₀ m₂₀ hA hPv₀ hn₀ hm₀ hk₀ => ?_, fun A' E' i v₀ s₂₀ m₂₀ hA hPv₀ hp₀ hn₀ hm₀ hk₀ => ?_⟩
      · obtain ⟨hi', t', rfl⟩ := hPv₀
        exact ht₀ pins₀ s1₀ σ₀ H1₀ a (b - a).toNat pz₀ I1₀ hz₀ ⟨ps₀, hPs₀⟩ _ A' E' i t' s₂₀ m₂₀ hi' rfl rfl hn₀ hm₀ (kp₀ s₂₀ hk₀)
      · obtain ⟨hi', t', rfl⟩ := hPv₀
        refine wpAny_Name (wpAny_loadName_local (by exact S.kind) (by exact S.loc) hn₀ hm₀ ?_) hd₀
        exact ⟨⟨t', rfl⟩, keeps_refl _⟩
    · intro g₀ h5₀ tk5₀ gs hgb₀ hag₀ hsz5₀ hk5₀ W5₀ hat₀
      refine hQ₀ a (b - a).toNat pz₀ H1₀ g₀ _ q1₀ ⟨_, _, _, _, _, W5₀.in4_1, hat₀, ?_, ?_, fun s' hm₀ => ?_⟩
      · intro b hb₀
        show b < h5₀.objs.size
        rw [hsz5₀]
        have hag₀' : h3₀.objs.size < g₀ := hag₀
        rcases List.mem_cons.mp hb₀ with z | z
        · rw [z]
          exact Nat.lt_succ_self g₀
        · (rcases List.mem_cons.mp z with z | z)
          · rw [z]
            exact Nat.lt_succ_of_lt hag₀'
          · exact Nat.lt_succ_of_lt (Nat.lt_trans (List.mem_range.mp z) hag₀')
      · intro j y hy
        exact hy
      · obtain ⟨more₀, em₀⟩ := hmore₀
        have nwr₀ : ∀ b u₀, s1₀.heap.get? b = some u₀ → b ∉ h3₀.objs.size :: [s1₀.heap.objs.size] := fun b u₀ e hb₀ => by
          have hl₀ := Heap.lt_size e
          rcases List.mem_cons.mp hb₀ with z | z
          · rw [z] at hl₀
            have h9 : (h3₀.objs.size : Nat) < s1₀.heap.objs.size := hl₀
            omega
          · (rcases List.mem_cons.mp z with z | z)
            · rw [z] at hl₀
              exact Nat.lt_irrefl _ hl₀
            · cases z
        have J₀ := inv_tab (more := more₀) (h' := s'.heap) (g' := s'.gens) (d' := s'.drawn) (t' := s'.toks) I1₀ hP₀ (fun b u₀ hb₀ e => hm₀.heap b u₀ (nwr₀ b u₀ e) (hk5₀ b u₀ (keep3₀ b u₀ hb₀ e)))
          (by rw [← em₀]; exact hm₀.heap P _ (nwr₀ P _ hPs₀) (hk5₀ P _ hP3₀)) (AllBare.movedS (I1₀.bare.push hgb₀) hm₀)
        rw [sh_eta s1₀ s' hm₀.os] at J₀
        refine ⟨upd H1₀ P (.tbl (ps₀ ++ more₀)), ⟨⟨ps₀ ++ more₀, upd_same, by rw [← em₀]; exact ht3₀⟩, fun b hb₀ => upd_ne hb₀⟩, J₀⟩
  refine ⟨lim2₀, ?_⟩
  cases hf₀ : codeAmong gpos ps₀.toList with
  | none =>
    refine wpAny_genexprCodeX hcode₀ (cd₀.code hP2₀ htr₀) (cd₀.tab hP2₀) hf₀ fun c₀' h₀' tk₀ hx₀ hge₀ hlt₀ hco₀' _ htab₀' _ => ?_
    obtain ⟨o1, vs, f1, tf, fl, tg, inF, tx, tt, op, _, _, _, _, _, _, _, _, _, htr', _⟩ := hco₀'
    exact cont₀ _ h₀' tk₀ _ hx₀ (Nat.le_trans hge₀ (Nat.le_of_lt hlt₀)) htab₀'.2 ⟨_, rfl⟩ htr'
  | some cv =>
    refine wpAny_genexprCode_hit hcode₀ (cd₀.code hP2₀ htr₀) hf₀ ?_
    exact cont₀ cv (s1₀.heap.push o) s1₀.toks ps₀ (Heap.ExtBut.refl _ _) (Nat.le_refl _) hP2₀ ⟨#[], by simp⟩ htr₀

theorem mem_passing {pz₀ : Nat → Bool} {n i : Nat} : i ∈ passing pz₀ n 0 ↔ i < n ∧ pz₀ i = true := by
  unfold passing
  rw [List.drop_zero, List.mem_filter, List.mem_range]

/-- max(x for x in range(..) if ..) -/
def tMaxR (P : Addr) (te : L2.St → Hp → (Int → Int → Hp → Prop) → Prop) (tz : L2.St → Hp → Int → Nat → (Nat → Bool) → Prop) : TE := fun σ₀ H Q =>
  te σ₀ H fun a b H1₀ => -(2 ^ 62) ≤ a ∧ a < 2 ^ 62 ∧ -(2 ^ 62) ≤ b ∧ b < 2 ^ 62 ∧ TabG H1₀ P ∧ ∃ pz₀, tz σ₀ H1₀ a (b - a).toNat pz₀ ∧ (∃ i, i < (b - a).toNat ∧ pz₀ i = true) ∧
    ∀ i H2₀, Tabbed P H1₀ H2₀ → i < (b - a).toNat → pz₀ i = true → (∀ j, j < (b - a).toNat → pz₀ j = true → j ≤ i) → Q (.int (a + i)) H2₀
def tMinR (P : Addr) (te : L2.St → Hp → (Int → Int → Hp → Prop) → Prop) (tz : L2.St → Hp → Int → Nat → (Nat → Bool) → Prop) : TE := fun σ₀ H Q =>
  te σ₀ H fun a b H1₀ => -(2 ^ 62) ≤ a ∧ a < 2 ^ 62 ∧ -(2 ^ 62) ≤ b ∧ b < 2 ^ 62 ∧ TabG H1₀ P ∧ ∃ pz₀, tz σ₀ H1₀ a (b - a).toNat pz₀ ∧ (∃ i, i < (b - a).toNat ∧ pz₀ i = true) ∧
    ∀ i H2₀, Tabbed P H1₀ H2₀ → i < (b - a).toNat → pz₀ i = true → (∀ j, j < (b - a).toNat → pz₀ j = true → i ≤ j) → Q (.int (a + i)) H2₀
theorem pe_maxR {c P : Addr} {iter : Expr} {x : Str} {px pe p pos gpos : Pos} {ifs : List Expr} {scope : Scope} {te : L2.St → Hp → (Int → Int → Hp → Prop) → Prop} {tz : L2.St → Hp → Int → Nat → (Nat → Bool) → Prop} {k : Nat}
    (hr₀ : Room k X.A) (hg : Gl X "max") (hm₀ : X.mg "max" = none) (TB₀ : TabB X.base X.mg c P) (hcode₀ : X.env.code = .ref c) (S : GenS X.env scope x) (hi₀ : PRg X iter te) (ht₀ : TestR X P scope x ifs tz) (hd₀ : (x == ("__debug__" : Str)) = false)
    (hs₀ : ∀ v₀, genFold iter X.env v₀ = pure v₀)
    (he₀ : starEach [.GeneratorExp (.Name x pe) [⟨.Name x px, iter, ifs, 0⟩] scope gpos] X.env = (false, eval (.GeneratorExp (.Name x pe) [⟨.Name x px, iter, ifs, 0⟩] scope gpos) X.env) :: starEach [] X.env := by rfl) :
    PE X (.Call (.Name "max" p) [.GeneratorExp (.Name x pe) [⟨.Name x px, iter, ifs, 0⟩] scope gpos] [] pos) (tMaxR P te tz) := by
  refine ⟨fun pins₀ s σ₀ H Q I₀ h => ?_⟩
  refine wpAny_Call_Name_kw (ld_blt (u := .builtin "max") I₀ hg hm₀ (by decide +kernel) ?_)
  refine PyProof.Rows.callWith_builtin1 (id := "max") ?_ he₀ (by rfl)
  rw [he₀]
  show wpAny _ _ (spliced ((false, eval (.GeneratorExp (.Name x pe) [⟨.Name x px, iter, ifs, 0⟩] scope gpos) X.env) :: backTo pos (starEach [] X.env))) _ _ s
  refine Calls.spliced_cons (gen_range (R := fun lo₀ n pz₀ H1₀ => (∃ i, i < n ∧ pz₀ i = true) ∧ ∀ i H2₀, Tabbed P H1₀ H2₀ → i < n → pz₀ i = true → (∀ j, j < n → pz₀ j = true → j ≤ i) → Q (.int (lo₀ + i)) H2₀) hr₀ TB₀ hcode₀ S hi₀ ht₀ hd₀ hs₀ I₀ h fun lo₀ n pz₀ H1₀ g₀ s5₀ hR₀ hG₀ => ?_)
  obtain ⟨⟨i0₀, hi0₀, hp0₀⟩, hq₀⟩ := hR₀
  obtain ⟨fp₀, wr₀, G, F, St₀, W, hst₀, hfp₀, hval₀, hI₀⟩ := hG₀
  refine Calls.spliced_nil ?_
  have hne₀ : 0 < (passing pz₀ n 0).length := List.length_pos_of_mem (mem_passing.mpr ⟨hi0₀, hp0₀⟩)
  obtain ⟨val₀, hvd₀⟩ : ∃ val₀ : Nat → Int, ∀ j, val₀ j = lo₀ + (((passing pz₀ n 0).getD j 0 : Nat) : Int) := ⟨_, fun _ => rfl⟩
  have hv₀ : ∀ j v₀, F j v₀ → ∃ t₀, v₀ = .int (val₀ j) t₀ := fun j v₀ hF₀ => by
    obtain ⟨i, h1, t₀, rfl⟩ := hval₀ j v₀ hF₀
    refine ⟨t₀, ?_⟩
    rw [hvd₀]
    simp [List.getD_eq_getElem?_getD, h1]
  refine call_max_walkS (W.self 0 _ _ _ hst₀ ⟨g₀, fp₀, wr₀, G, _, F, St₀, _, rfl, W, hst₀, hfp₀, hne₀, CmpOf.ints_gt _ hv₀, fun v₀ s' hF₀ hmv₀ => ?_⟩)
  obtain ⟨H2₀, hT₀, J₀⟩ := hI₀ s' hmv₀
  have hb₀ := argBest_gt val₀ ((passing pz₀ n 0).length - 1)
  obtain ⟨t₀, rfl⟩ := hv₀ _ v₀ hF₀
  have hlt₀ : argBest (fun i j => decide (val₀ i > val₀ j)) ((passing pz₀ n 0).length - 1) < (passing pz₀ n 0).length := by omega
  refine ⟨.int _, H2₀, J₀, ⟨_, rfl⟩, ?_⟩
  generalize argBest (fun i j => decide (val₀ i > val₀ j)) ((passing pz₀ n 0).length - 1) = jm₀ at hb₀ hlt₀
  have hm1₀ : (passing pz₀ n 0).getD jm₀ 0 = (passing pz₀ n 0)[jm₀] := by simp [List.getD_eq_getElem?_getD, hlt₀]
  have hmem₀ : (passing pz₀ n 0)[jm₀] ∈ passing pz₀ n 0 := List.getElem_mem hlt₀
  obtain ⟨k1₀, k2₀⟩ := mem_passing.mp hmem₀
  show Q (.int (val₀ jm₀)) H2₀
  rw [hvd₀, hm1₀]
  refine hq₀ _ H2₀ hT₀ k1₀ k2₀ fun j hj hpj => ?_
  obtain ⟨jj₀, hjj₀, ej₀⟩ := List.getElem_of_mem (mem_passing.mpr ⟨hj, hpj⟩)
  have := hb₀.2 jj₀ (by omega)
  have e2₀ : (passing pz₀ n 0).getD jj₀ 0 = j := by simp [List.getD_eq_getElem?_getD, hjj₀, ej₀]
  simp only [hvd₀, hm1₀, e2₀] at this
  omega
theorem pe_minR {c P : Addr} {iter : Expr} {x : Str} {px pe p pos gpos : Pos} {ifs : List Expr} {scope : Scope} {te : L2.St → Hp → (Int → Int → Hp → Prop) → Prop} {tz : L2.St → Hp → Int → Nat → (Nat → Bool) → Prop} {k : Nat}
    (hr₀ : Room k X.A) (hg : Gl X "min") (hm₀ : X.mg "min" = none) (TB₀ : TabB X.base X.mg c P) (hcode₀ : X.env.code = .ref c) (S : GenS X.env scope x) (hi₀ : PRg X iter te) (ht₀ : TestR X P scope x ifs tz) (hd₀ : (x == ("__debug__" : Str)) = false)
    (hs₀ : ∀ v₀, genFold iter X.env v₀ = pure v₀)
    (he₀ : starEach [.GeneratorExp (.Name x pe) [⟨.Name x px, iter, ifs, 0⟩] scope gpos] X.env = (false, eval (.GeneratorExp (.Name x pe) [⟨.Name x px, iter, ifs, 0⟩] scope gpos) X.env) :: starEach [] X.env := by rfl) :
    PE X (.Call (.Name "min" p) [.GeneratorExp (.Name x pe) [⟨.Name x px, iter, ifs, 0⟩] scope gpos] [] pos) (tMinR P te tz) := by
  refine ⟨fun pins₀ s σ₀ H Q I₀ h => ?_⟩
  refine wpAny_Call_Name_kw (ld_blt (u := .builtin "min") I₀ hg hm₀ (by decide +kernel) ?_)
  refine PyProof.Rows.callWith_builtin1 (id := "min") ?_ he₀ (by rfl)
  rw [he₀]
  show wpAny _ _ (spliced ((false, eval (.GeneratorExp (.Name x pe) [⟨.Name x px, iter, ifs, 0⟩] scope gpos) X.env) :: backTo pos (starEach [] X.env))) _ _ s
  refine Calls.spliced_cons (gen_range (R := fun lo₀ n pz₀ H1₀ => (∃ i, i < n ∧ pz₀ i = true) ∧ ∀ i H2₀, Tabbed P H1₀ H2₀ → i < n → pz₀ i = true → (∀ j, j < n → pz₀ j = true → i ≤ j) → Q (.int (lo₀ + i)) H2₀) hr₀ TB₀ hcode₀ S hi₀ ht₀ hd₀ hs₀ I₀ h fun lo₀ n pz₀ H1₀ g₀ s5₀ hR₀ hG₀ => ?_)
  obtain ⟨⟨i0₀, hi0₀, hp0₀⟩, hq₀⟩ := hR₀
  obtain ⟨fp₀, wr₀, G, F, St₀, W, hst₀, hfp₀, hval₀, hI₀⟩ := hG₀
  refine Calls.spliced_nil ?_
  have hne₀ : 0 < (passing pz₀ n 0).length := List.length_pos_of_mem (mem_passing.mpr ⟨hi0₀, hp0₀⟩)
  obtain ⟨val₀, hvd₀⟩ : ∃ val₀ : Nat → Int, ∀ j, val₀ j = lo₀ + (((passing pz₀ n 0).getD j 0 : Nat) : Int) := ⟨_, fun _ => rfl⟩
  have hv₀ : ∀ j v₀, F j v₀ → ∃ t₀, v₀ = .int (val₀ j) t₀ := fun j v₀ hF₀ => by
    obtain ⟨i, h1, t₀, rfl⟩ := hval₀ j v₀ hF₀
    refine ⟨t₀, ?_⟩
    rw [hvd₀]
    simp [List.getD_eq_getElem?_getD, h1]
  refine call_min_walkS (W.self 0 _ _ _ hst₀ ⟨g₀, fp₀, wr₀, G, _, F, St₀, _, rfl, W, hst₀, hfp₀, hne₀, CmpOf.ints_lt _ hv₀, fun v₀ s' hF₀ hmv₀ => ?_⟩)
  obtain ⟨H2₀, hT₀, J₀⟩ := hI₀ s' hmv₀
  have hb₀ := argBest_lt val₀ ((passing pz₀ n 0).length - 1)
  obtain ⟨t₀, rfl⟩ := hv₀ _ v₀ hF₀
  have hlt₀ : argBest (fun i j => decide (val₀ i < val₀ j)) ((passing pz₀ n 0).length - 1) < (passing pz₀ n 0).length := by omega
  refine ⟨.int _, H2₀, J₀, ⟨_, rfl⟩, ?_⟩
  generalize argBest (fun i j => decide (val₀ i < val₀ j)) ((passing pz₀ n 0).length - 1) = jm₀ at hb₀ hlt₀
  have hm1₀ : (passing pz₀ n 0).getD jm₀ 0 = (passing pz₀ n 0)[jm₀] := by simp [List.getD_eq_getElem?_getD, hlt₀]
  have hmem₀ : (passing pz₀ n 0)[jm₀] ∈ passing pz₀ n 0 := List.getElem_mem hlt₀
  obtain ⟨k1₀, k2₀⟩ := mem_passing.mp hmem₀
  show Q (.int (val₀ jm₀)) H2₀
  rw [hvd₀, hm1₀]
  refine hq₀ _ H2₀ hT₀ k1₀ k2₀ fun j hj hpj => ?_
  obtain ⟨jj₀, hjj₀, ej₀⟩ := List.getElem_of_mem (mem_passing.mpr ⟨hj, hpj⟩)
  have := hb₀.2 jj₀ (by omega)
  have e2₀ : (passing pz₀ n 0).getD jj₀ 0 = j := by simp [List.getD_eq_getElem?_getD, hjj₀, ej₀]
  simp only [hvd₀, hm1₀, e2₀] at this
  omega
end
end V3
namespace V3
open PySem.Spec PySem L2 PyProof.Rows GxR
section
variable {s : Shared} {H : Hp} {σ : L2.St} {pins : List (Addr × Obj)} {X : Cx}
/-- a name of the def that the generator expression captures -/
structure Cap (X : Cx) (scope : Scope) (x : Str) (i : Nat) : Prop where
  N : X.N[i]? = some x
  cell : X.env.scope.names.lookup x = some .cell
  free : scope.names.lookup x = some .free
  look : ∀ cells : List (Str × Addr), (cloFrom cells scope.names []).lookup x = some ((cells.lookup x).getD 0)
  cd : (x == ("__classdict__" : Str)) = false
  db : (x == ("__debug__" : Str)) = false
theorem Cap.at {scope : Scope} {x : Str} {i : Nat} {v : V} (C : Cap X scope x i) (I : Inv X pins σ H s) (hv : σ[i]? = some (some v)) : ∃ (c : Addr) (u : Value), RelV v u ∧ X.env.cells.lookup x = some c ∧ s.heap.IsCell c (some u) := by
  obtain ⟨m, hn, hl⟩ := I.loc
  obtain ⟨u, r, l⟩ := hl i x v C.N hv (.inr (.inl C.cell))
  (rcases l with ⟨hk, hm⟩ | ⟨hk, c, hc, hcell⟩)
  · have e : X.env.scope.names.lookup x = some .local := hk
    rw [C.cell] at e
    cases e
  · exact ⟨c, u, r, hc, hcell⟩
/-- the captured name is read in the generator's frame -/
theorem Cap.eval {scope : Scope} {x : Str} {i : Nat} {pos : Pos} {M : Model} {A' : Around} {E' : Value → Shared → Prop} {cenv : Env} {c : Addr} {u : Value} {s₂ : Shared} {Q : Value → Shared → Prop} (C : Cap X scope x i) (hk : scope.kind = .function) (hs : cenv.scope = scope)
    (hc : cenv.cells = cloFrom X.env.cells scope.names []) (h1 : X.env.cells.lookup x = some c) (h2 : s₂.heap.IsCell c (some u)) (q : Q u s₂) : wpAny M A' (eval (.Name x pos) cenv) Q E' s₂ := by
  refine wpAny_Name (wpAny_loadName_free (by rw [hs]; exact hk) (show cenv.scope.names.lookup x = some .free by rw [hs]; exact C.free) ?_ h2 q C.cd) C.db
  rw [hc, C.look, h1]
  rfl
theorem keep_cell {P c : Addr} {u : Value} {s s₂ : Shared} (hP : ∃ ps : Array Value, s.heap.get? P = some { cls := .none, data := .fields ps }) (k : ∀ b o, b ≠ P → s.heap.get? b = some o → s₂.heap.get? b = some o) (h : s.heap.IsCell c (some u)) : s₂.heap.IsCell c (some u) := by
  obtain ⟨o, ho, hd⟩ := h
  obtain ⟨ps, hP⟩ := hP
  refine ⟨o, k c o (fun e => ?_) ho, hd⟩
  rw [e, hP] at ho
  cases ho
  cases hd
theorem keep_list {P a : Addr} {its : Array Value} {s s₂ : Shared} (hP : ∃ ps : Array Value, s.heap.get? P = some { cls := .none, data := .fields ps }) (k : ∀ b o, b ≠ P → s.heap.get? b = some o → s₂.heap.get? b = some o) (h : PlainL s.heap a its) : PlainL s₂.heap a its := by
  obtain ⟨o, n, ho, hc, hd, hdt⟩ := h
  obtain ⟨ps, hP⟩ := hP
  refine ⟨o, n, k a o (fun e => ?_) ho, hc, hd, hdt⟩
  rw [e, hP] at ho
  cases ho
  cases hdt
theorem vals_int_get {xs : List Int} {its : List Value} {j : Nat} {u : Int} (r : Vals (xs.map V.int) its) (h : xs[j]? = some u) : ∃ t, its.toArray[j]? = some (.int u t) := by
  obtain ⟨w, h1, h2⟩ := r.get (show (xs.map V.int)[j]? = some (.int u) by rw [List.getElem?_map, h]; rfl)
  obtain ⟨t, rfl⟩ := h2
  exact ⟨t, by simpa using h1⟩
/-- a[x] op b[x], a and b lists of ints of the def, x the generator's name -/
def tzXX (K : PySem.W.Frag) (ia ib : Nat) (cmp : Int → Int → Bool) : L2.St → Hp → Int → Nat → (Nat → Bool) → Prop := fun σ H lo n pz =>
  ∃ (pa pb : Addr) (xs ys : List Int), σ[ia]? = some (some (.ref pa)) ∧ σ[ib]? = some (some (.ref pb)) ∧ SqL K H pa (xs.map V.int) ∧ SqL K H pb (ys.map V.int) ∧ 0 ≤ lo ∧ lo + n < 2 ^ 63 ∧
    ∀ i : Nat, i < n → ∃ u v : Int, xs[lo.toNat + i]? = some u ∧ ys[lo.toNat + i]? = some v ∧ pz i = cmp u v
/-- a[x] op b[y], y an int of the def -/
def tzXY (K : PySem.W.Frag) (ia ib iy : Nat) (cmp : Int → Int → Bool) : L2.St → Hp → Int → Nat → (Nat → Bool) → Prop := fun σ H lo n pz =>
  ∃ (pa pb : Addr) (xs ys : List Int) (y v : Int), σ[ia]? = some (some (.ref pa)) ∧ σ[ib]? = some (some (.ref pb)) ∧ σ[iy]? = some (some (.int y)) ∧ SqL K H pa (xs.map V.int) ∧ SqL K H pb (ys.map V.int) ∧ 0 ≤ lo ∧ lo + n < 2 ^ 63 ∧ 0 ≤ y ∧ y < 2 ^ 63 ∧
    ys[y.toNat]? = some v ∧ ∀ i : Nat, i < n → ∃ u : Int, xs[lo.toNat + i]? = some u ∧ pz i = cmp u v
theorem for_one {M : Model} {A' : Around} {E' : Value → Shared → Prop} {c : Expr} {cenv : Env} {Q : Bool → Shared → Prop} {s₂ : Shared} (h : wpAny M A' (isTrue c cenv (eval c cenv)) Q E' s₂) :
    wpAny M A' (forIn [c] true fun c r => if r = true then do let ok ← isTrue c cenv (eval c cenv); pure (ForInStep.yield ok) else pure (ForInStep.yield r)) Q E' s₂ := by
  simp only [List.forIn_cons, List.forIn_nil, if_true, bind_assoc, pure_bind]
  exact wpAny_bind (wpAny_mono h (fun b s3 q => wpAny_pure q) fun _ _ e => e)
theorem test_xx {P : Addr} {scope : Scope} {x na nb : Str} {ia ib : Nat} {op : CmpOp} {cmp : Int → Int → Bool} {p1 p2 p3 p4 q1 q2 q3 : Pos} (hk : scope.kind = .function) (hx : scope.names.lookup x = some .local) (hdx : (x == ("__debug__" : Str)) = false) (Ca : Cap X scope na ia) (Cb : Cap X scope nb ib)
    (hcmp : ∀ (A : Around) (E : Value → Shared → Prop) (s : Shared) (Q : Value → Shared → Prop) (u v : Int) (t t' : Tok), Q (.bool (cmp u v)) s → wpAny (model X.prog X.w) A (compareOp op (.int u t) (.int v t')) Q E s)
    (hm : behindInMarks op (.Subscript (.Name nb p3) (.Name x p4) q2) = false) :
    TestR X P scope x [.Compare (.Subscript (.Name na p1) (.Name x p2) q1) [op] [.Subscript (.Name nb p3) (.Name x p4) q2] q3] (tzXX X.K ia ib cmp) := by
  intro pins s σ H lo n pz I hz hP cenv A' E' i t s₂ m₂ hi hs hc hn hmx hkp
  obtain ⟨pa, pb, xs, ys, ha, hb, hxs, hys, h0, h63, htest⟩ := hz
  obtain ⟨u, v, hu, hv, hpz⟩ := htest i hi
  obtain ⟨ca, ua, ra, ca1, ca2⟩ := Ca.at I ha
  obtain ⟨cb, ub, rb, cb1, cb2⟩ := Cb.at I hb
  cases ra
  cases rb
  obtain ⟨ia', rxs, pxs, _⟩ := I.list hxs
  obtain ⟨ib', rys, pys, _⟩ := I.list hys
  obtain ⟨tu, hu'⟩ := vals_int_get rxs hu
  obtain ⟨tv, hv'⟩ := vals_int_get rys hv
  have e1 : (lo + (i : Nat) * 1).toNat = lo.toNat + i := by omega
  have b1 : 0 ≤ lo + (i : Nat) * 1 := by omega
  have b2 : lo + (i : Nat) * 1 < 2 ^ 63 := by omega
  have ex : ∀ (pos : Pos) (E'' : Value → Shared → Prop) (Q : Value → Shared → Prop), Q (.int (lo + (i : Nat) * 1) t) s₂ → wpAny (model X.prog X.w) A' (eval (.Name x pos) cenv) Q E'' s₂ := fun pos E'' Q q =>
    wpAny_Name (wpAny_loadName_local (by rw [hs]; exact hk) (show cenv.scope.names.lookup x = some .local by rw [hs]; exact hx) hn hmx q) hdx
  refine for_one (wpAny_isTrue_Compare1 ?_ hm)
  refine Subscript_ (Ca.eval hk hs hc ca1 (keep_cell hP hkp ca2) (ex _ _ _ ?_))
  refine item_listR (keep_list hP hkp pxs).isList b1 b2 (by rw [e1]; exact hu') ?_
  refine Subscript_ (Cb.eval hk hs hc cb1 (keep_cell hP hkp cb2) (ex _ _ _ ?_))
  refine item_listR (keep_list hP hkp pys).isList b1 b2 (by rw [e1]; exact hv') ?_
  refine hcmp _ _ _ _ _ _ _ _ (wpAny_truthy_bool ?_)
  exact ⟨hpz.symm, keeps_refl _⟩
theorem test_xy {P : Addr} {scope : Scope} {x na nb ny : Str} {ia ib iy : Nat} {op : CmpOp} {cmp : Int → Int → Bool} {p1 p2 p3 p4 q1 q2 q3 : Pos} (hk : scope.kind = .function) (hx : scope.names.lookup x = some .local) (hdx : (x == ("__debug__" : Str)) = false) (Ca : Cap X scope na ia) (Cb : Cap X scope nb ib) (Cy : Cap X scope ny iy)
    (hcmp : ∀ (A : Around) (E : Value → Shared → Prop) (s : Shared) (Q : Value → Shared → Prop) (u v : Int) (t t' : Tok), Q (.bool (cmp u v)) s → wpAny (model X.prog X.w) A (compareOp op (.int u t) (.int v t')) Q E s)
    (hm : behindInMarks op (.Subscript (.Name nb p3) (.Name ny p4) q2) = false) :
    TestR X P scope x [.Compare (.Subscript (.Name na p1) (.Name x p2) q1) [op] [.Subscript (.Name nb p3) (.Name ny p4) q2] q3] (tzXY X.K ia ib iy cmp) := by
  intro pins s σ H lo n pz I hz hP cenv A' E' i t s₂ m₂ hi hs hc hn hmx hkp
  obtain ⟨pa, pb, xs, ys, y, v, ha, hb, hy, hxs, hys, h0, h63, y0, y63, hv, htest⟩ := hz
  obtain ⟨u, hu, hpz⟩ := htest i hi
  obtain ⟨ca, ua, ra, ca1, ca2⟩ := Ca.at I ha
  obtain ⟨cb, ub, rb, cb1, cb2⟩ := Cb.at I hb
  obtain ⟨cy, uy, ry, cy1, cy2⟩ := Cy.at I hy
  cases ra
  cases rb
  obtain ⟨ty, rfl⟩ := ry
  obtain ⟨ia', rxs, pxs, _⟩ := I.list hxs
  obtain ⟨ib', rys, pys, _⟩ := I.list hys
  obtain ⟨tu, hu'⟩ := vals_int_get rxs hu
  obtain ⟨tv, hv'⟩ := vals_int_get rys hv
  have e1 : (lo + (i : Nat) * 1).toNat = lo.toNat + i := by omega
  have b1 : 0 ≤ lo + (i : Nat) * 1 := by omega
  have b2 : lo + (i : Nat) * 1 < 2 ^ 63 := by omega
  have ex : ∀ (pos : Pos) (E'' : Value → Shared → Prop) (Q : Value → Shared → Prop), Q (.int (lo + (i : Nat) * 1) t) s₂ → wpAny (model X.prog X.w) A' (eval (.Name x pos) cenv) Q E'' s₂ := fun pos E'' Q q =>
    wpAny_Name (wpAny_loadName_local (by rw [hs]; exact hk) (show cenv.scope.names.lookup x = some .local by rw [hs]; exact hx) hn hmx q) hdx
  refine for_one (wpAny_isTrue_Compare1 ?_ hm)
  refine Subscript_ (Ca.eval hk hs hc ca1 (keep_cell hP hkp ca2) (ex _ _ _ ?_))
  refine item_listR (keep_list hP hkp pxs).isList b1 b2 (by rw [e1]; exact hu') ?_
  refine Subscript_ (Cb.eval hk hs hc cb1 (keep_cell hP hkp cb2) (Cy.eval hk hs hc cy1 (keep_cell hP hkp cy2) ?_))
  refine item_listR (keep_list hP hkp pys).isList y0 y63 hv' ?_
  refine hcmp _ _ _ _ _ _ _ _ (wpAny_truthy_bool ?_)
  exact ⟨hpz.symm, keeps_refl _⟩
end
end V3
namespace V3
open PySem.Spec PySem L2 PyProof.Rows GxR
/-! ### data without lists lasts while lists change -/
structure KeepT (H H' : Hp) : Prop where
  tup : ∀ b xs, H b = some (.tup xs) → H' b = some (.tup xs)
  frz : ∀ b o u, H b = some (.frz o u) → H' b = some (.frz o u)
theorem KeepT.refl (H : Hp) : KeepT H H := ⟨fun _ _ h => h, fun _ _ _ h => h⟩
theorem KeepT.trans {H H1 H2 : Hp} (a : KeepT H H1) (b : KeepT H1 H2) : KeepT H H2 := ⟨fun c xs h => b.tup c xs (a.tup c xs h), fun c o u h => b.frz c o u (a.frz c o u h)⟩
theorem Same.kt {H H' : Hp} (e : Same H H') : KeepT H H' := ⟨fun _ _ h => e _ _ h, fun _ _ _ h => e _ _ h⟩
theorem kt_lst {H : Hp} {a : Addr} {xs : List V} {o : HO} (h : H a = some (.lst xs)) : KeepT H (upd H a o) :=
  ⟨fun b ys e => by rw [upd_ne (fun z => by rw [z, h] at e; cases e)]; exact e, fun b o' u e => by rw [upd_ne (fun z => by rw [z, h] at e; cases e)]; exact e⟩
theorem kt_new {H : Hp} {p : Addr} {o : HO} (h : H p = none) : KeepT H (upd H p o) := Same.kt (same_upd h)
theorem kt_tab {P : Addr} {H H' : Hp} (h : Tabbed P H H') (hP : TabG H P) : KeepT H H' := by
  obtain ⟨ps, hp, _⟩ := hP
  refine ⟨fun b xs e => ?_, fun b o u e => ?_⟩
  · rw [h.2 b (fun z => by rw [z, hp] at e; cases e)]
    exact e
  · rw [h.2 b (fun z => by rw [z, hp] at e; cases e)]
    exact e
theorem KeepT.sqT {K : PySem.W.Frag} {H H' : Hp} {a : Addr} {xs : List V} (e : KeepT H H') (h : SqT K H a xs) : SqT K H' a xs := by
  (rcases h with (h | ⟨o, h⟩) | h)
  · exact .inl (.inl (e.tup _ _ h))
  · exact .inl (.inr ⟨o, e.frz _ _ _ h⟩)
  · exact .inr h
mutual
inductive DpT (K : PySem.W.Frag) (H : Hp) : V → PyData → Prop
  | non : DpT K H .non .none
  | bl (b : Bool) : DpT K H (.bl b) (.bool b)
  | int (i : Int) : DpT K H (.int i) (.int i)
  | str (x : Str) : DpT K H (.str x) (.str x)
  | tup {a : Addr} {xs : List V} {ds : List PyData} : SqT K H a xs → DpTAll K H xs ds → DpT K H (.ref a) (.tuple ds)
inductive DpTAll (K : PySem.W.Frag) (H : Hp) : List V → List PyData → Prop
  | nil : DpTAll K H [] []
  | cons {v : V} {vs : List V} {d : PyData} {ds : List PyData} : DpT K H v d → DpTAll K H vs ds → DpTAll K H (v :: vs) (d :: ds)
end
mutual
theorem DpT.keep {K : PySem.W.Frag} {H H' : Hp} (e : KeepT H H') : ∀ {v : V} {d : PyData}, DpT K H v d → DpT K H' v d
  | _, _, .non => .non
  | _, _, .bl b => .bl b
  | _, _, .int i => .int i
  | _, _, .str x => .str x
  | _, _, .tup h a => .tup (e.sqT h) (DpTAll.keep e a)
theorem DpTAll.keep {K : PySem.W.Frag} {H H' : Hp} (e : KeepT H H') : ∀ {vs : List V} {ds : List PyData}, DpTAll K H vs ds → DpTAll K H' vs ds
  | _, _, .nil => .nil
  | _, _, .cons a b => .cons (DpT.keep e a) (DpTAll.keep e b)
end
mutual
theorem DpT.dp {K : PySem.W.Frag} {H : Hp} : ∀ {v : V} {d : PyData}, DpT K H v d → Dp K H v d
  | _, _, .non => .non
  | _, _, .bl b => .bl b
  | _, _, .int i => .int i
  | _, _, .str x => .str x
  | _, _, .tup h a => .tup h (DpTAll.dp a)
theorem DpTAll.dp {K : PySem.W.Frag} {H : Hp} : ∀ {vs : List V} {ds : List PyData}, DpTAll K H vs ds → DpAll K H vs ds
  | _, _, .nil => .nil
  | _, _, .cons a b => .cons (DpT.dp a) (DpTAll.dp b)
end
section
variable {K : PySem.W.Frag} {H : Hp}
theorem dtTup {v : V} {ds : List PyData} (h : DpT K H v (.tuple ds)) : ∃ p xs, v = .ref p ∧ SqT K H p xs ∧ DpTAll K H xs ds := by
  cases h with
  | tup a b => exact ⟨_, _, rfl, a, b⟩
theorem dtAll_app {vs ws : List V} {ds es : List PyData} (h : DpTAll K H vs ds) (g : DpTAll K H ws es) : DpTAll K H (vs ++ ws) (ds ++ es) := by
  induction ds generalizing vs with
  | nil =>
    cases h
    exact g
  | cons x ds ih =>
    cases h with
    | cons a b => exact .cons a (ih b)
theorem dtAll_len {vs : List V} {ds : List PyData} (h : DpTAll K H vs ds) : vs.length = ds.length := dpAll_len h.dp
theorem dtAll_getV {vs : List V} {ds : List PyData} {i : Nat} {v : V} (h : DpTAll K H vs ds) (e : vs[i]? = some v) : ∃ d, ds[i]? = some d ∧ DpT K H v d := by
  induction ds generalizing vs i with
  | nil =>
    cases h
    simp at e
  | cons x ds ih =>
    cases h with
    | cons a b =>
      cases i with
      | zero =>
        have q := Option.some.inj e
        subst q
        exact ⟨_, rfl, a⟩
      | succ i =>
        have q := ih (i := i) b
        exact q e
theorem dtAll_get {vs : List V} {ds : List PyData} {i : Nat} {d : PyData} (h : DpTAll K H vs ds) (e : ds[i]? = some d) : ∃ v, vs[i]? = some v ∧ DpT K H v d := by
  induction ds generalizing vs i with
  | nil => simp at e
  | cons x ds ih =>
    cases h with
    | cons a b =>
      cases i with
      | zero =>
        have q : x = d := Option.some.inj e
        subst q
        exact ⟨_, rfl, a⟩
      | succ i =>
        have q := ih (i := i) b
        exact q e
theorem dtFr {v : V} {q : Int × Int} (h : DpT K H v (frD q)) : ∃ p, v = .ref p ∧ SqT K H p [.int q.1, .int q.2] := dpFr h.dp
theorem tFr {v : V} {q : Int × Int} (h : Dp K H v (frD q)) : DpT K H v (frD q) := by
  obtain ⟨p, rfl, hs⟩ := dpFr h
  exact .tup hs (.cons (.int _) (.cons (.int _) .nil))
theorem tFrU {p : Addr} {q : Int × Int} (h : H p = some (.tup [.int q.1, .int q.2])) : DpT K H (.ref p) (frD q) := .tup (SqT.of h) (.cons (.int q.1) (.cons (.int q.2) .nil))
theorem tFrs : ∀ {vs : List V} {qs : List (Int × Int)}, DpAll K H vs (qs.map frD) → DpTAll K H vs (qs.map frD)
  | _, [], h => by
    cases h
    exact .nil
  | _, q :: r, h => by
    cases h with
    | cons a b => exact .cons (tFr a) (tFrs b)
theorem tRow {v : V} {qs : List (Int × Int)} (h : Dp K H v (rowD qs)) : DpT K H v (rowD qs) := by
  obtain ⟨p, xs, rfl, hs, ha⟩ := dpTup h
  exact .tup hs (tFrs ha)
end

/-! ### lists of ints: !=, o[i] op= e -/
theorem shaped_ints (ns : List Int) : SeqAt.shaped (.list (ns.map PyData.int)) = true := by
  have h1 : ∀ ns : List Int, PyData.canLayAll0 (ns.map PyData.int) = true := fun ns => by
    induction ns with
    | nil => rfl
    | cons a r ih => simp only [List.map_cons, PyData.canLayAll0, PyData.canLay0, ih, Bool.and_self]
  have h2 : ∀ ns : List Int, PyData.depthAll (ns.map PyData.int) = 0 := fun ns => by
    induction ns with
    | nil => rfl
    | cons a r ih => simp only [List.map_cons, PyData.depthAll, PyData.depth, ih, Nat.max_self]
  unfold SeqAt.shaped
  simp only [PyData.canLay0, PyData.depth, h1, h2, Bool.true_and, decide_eq_true_eq]
  omega
theorem eqv_ints (a b : List Int) : PyData.eqv (.list (a.map PyData.int)) (.list (b.map PyData.int)) = decide (a = b) := by
  rw [PyData.eqv]
  exact PySem.W.ked_eqvAll a b
theorem pget_list {X : Cx} : PGet X (rIxL X.K) := by
  intro pins₀ s σ₀ H o i ov₀ iv₀ Q I ro₀ ri₀ h
  obtain ⟨p, xs, k, z, rfl, rfl, hq₀, he₀, q⟩ := h
  cases ro₀
  obtain ⟨t₀, rfl⟩ := ri₀
  obtain ⟨its₀, r₀, pl₀, hz₀⟩ := I.list hq₀
  obtain ⟨j₀, h1₀, h2₀, h3₀, h4₀, h5₀⟩ := atI_get he₀
  obtain ⟨w₀, ew₀, rw₀'⟩ := r₀.get h2₀
  have hl₀ := r₀.length
  have hn₀ := line63
  have fin₀ : EP X pins₀ σ₀ Q w₀ s := ⟨z, H, I, rw₀', q⟩
  by_cases h0₀ : 0 ≤ k
  · have hj₀ : k.toNat = j₀ := by
      rw [seqIndex_of h0₀ h5₀] at h1₀
      exact Option.some.inj h1₀
    exact wpAny_getItem_list pl₀.isList h0₀ (by omega) (by rw [hj₀]; simpa using ew₀) fin₀
  · have hj₀ : (k + (its₀.toArray.size : Int)).toNat = j₀ := by
      rw [seqIndex_neg (by omega) h4₀] at h1₀
      rw [List.size_toArray, ← hl₀]
      exact Option.some.inj h1₀
    exact wpAny_getItem_list_neg pl₀.isList (by omega) (by rw [List.size_toArray] <;> omega) (by omega) (by rw [hj₀]; simpa using ew₀) fin₀

/-! ### a def that holds a generator expression -/
structure AtC (K : PySem.W.Frag) (mg : Str → Option Value) (x : Str) (st : Stmt) (c : Addr) : Prop where
  ex : ∃ (f : Addr) (oc : Value) (od : Option Addr) (kV doc pm : Value) (an : Option Addr) (ct : Value) (osl : Array (Option Value)), mg x = some (.ref f) ∧
    K.lookup f = some ⟨oc, od, .func (PySem.W.fnOf x x (defArgs st) (defBody st) (defScope st) .none kV doc pm an (.ref c) ct), osl⟩ ∧ PySem.W.codeIn K (.ref c) x = true ∧ PySem.W.keepIn K (.ref f) = true
section
variable {mg : Str → Option Value} {base : Heap} {K : PySem.W.Frag} {P : Program} {w : World}
theorem Df.mkC {x : Str} {st : Stmt} {c : Addr} {N ps : List Str} {k : Nat} {sp : Sp} (F : AtC K mg x st c) (S : FnScope N ps (defScope st)) (len : ∀ vs H Q E, sp vs H Q E → vs.length = ps.length)
    (hb : ∀ (kV doc pm : Value) (an : Option Addr) (cdv ct : Value) (us : List Value), us.length = ps.length → bindArgs (PySem.W.fnOf x x (defArgs st) (defBody st) (defScope st) .none kV doc pm an cdv ct) ⟨us, []⟩ = pure (ps.zip us))
    (hbody : ∀ (f : Addr) (A : Around) (outer : List Env) (s : Shared) (H : Hp) (vs : List V) (Q : VK) (E : XK), Room k (A.deeper (envOfC x (defScope st) s.heap.objs.size f (.ref c))) → sp vs H Q E →
      ∃ t, PSs (cxOf CX0 P w K mg base N x (defScope st) f (.ref c) A outer s H E).nox (defBody st) t ∧ t { nx := fun _ H' => Q .non H', rt := Q } (start N vs) H) : Df P w K mg base x (k + 1) ps sp := by
  obtain ⟨f, oc, od, kV, doc, pm, an, ct, osl, g, lk, hcd, hk⟩ := F.ex
  refine ⟨f, _, g, hk, .all (hb kV doc pm an (.ref c) ct), fn_of lk hcd S len fun A outer s H vs Q E hr hsp => ?_, oc, od, osl, lk⟩
  obtain ⟨t, h, q⟩ := hbody f A outer s H vs Q E hr hsp
  exact ⟨t, h.nox, q⟩
end
/-- all but the table at P stands -/
def But (P : Addr) (H H' : Hp) : Prop := ∀ b o, b ≠ P → H b = some o → H' b = some o
theorem But.trans {P : Addr} {H H1 H2 : Hp} (a : But P H H1) (b : But P H1 H2) : But P H H2 := fun c o n h => b c o n (a c o n h)
theorem But.refl (P : Addr) (H : Hp) : But P H H := fun _ _ _ h => h
theorem Same.but {P : Addr} {H H' : Hp} (e : Same H H') : But P H H' := fun b o _ h => e b o h
theorem tab_but {P : Addr} {H H' : Hp} (h : Tabbed P H H') : But P H H' := fun b o n e => by rw [h.2 b n]; exact e
theorem But.kt {P : Addr} {H H' : Hp} (h : But P H H') (hP : TabG H P) : KeepT H H' := by
  obtain ⟨ps, hp, _⟩ := hP
  exact ⟨fun b xs e => h b _ (fun z => by rw [z, hp] at e; cases e) e, fun b o u e => h b _ (fun z => by rw [z, hp] at e; cases e) e⟩
theorem But.seq {P : Addr} {K : PySem.W.Frag} {H H' : Hp} {a : Addr} {xs : List V} (e : But P H H') (hP : TabG H P) (h : SqL K H a xs) : SqL K H' a xs := by
  obtain ⟨ps, hp, _⟩ := hP
  (rcases h with (h | ⟨o, h⟩) | h)
  · exact .inl (.inl (e _ _ (fun z => by rw [z, hp] at h; cases h) h))
  · exact .inl (.inr ⟨o, e _ _ (fun z => by rw [z, hp] at h; cases h) h⟩)
  · exact .inr h
theorem TabG.same {P : Addr} {H H' : Hp} (h : TabG H P) (e : Same H H') : TabG H' P := by
  obtain ⟨ps, hp, t⟩ := h
  exact ⟨ps, e _ _ hp, t⟩
theorem TabG.lst {P a : Addr} {H : Hp} {xs : List V} {o : HO} (h : TabG H P) (e : H a = some (.lst xs)) : TabG (upd H a o) P := by
  obtain ⟨ps, hp, t⟩ := h
  exact ⟨ps, by rw [upd_ne (fun z => by rw [z, e] at hp; cases hp)]; exact hp, t⟩
end V3
/-! A generator expression whose tests and element may call defs: its frame and the bareness of the other generators are known. -/
namespace V3
open PySem.Spec PySem L2 PyProof.Rows GxR
section
variable {w : World} {prog : Program} {A : Around}
abbrev testsOf (ifs : List Expr) (ce : Env) : Sem Bool := forIn ifs true fun c r => if r = true then do let ok ← isTrue c ce (eval c ce); pure (ForInStep.yield ok) else pure (ForInStep.yield r)
/-- what stood is kept, of the frames fs all but the slots -/
def KM (fs : List Addr) (h h' : Heap) : Prop := ∀ b o, h.get? b = some o → (b ∉ fs → h'.get? b = some o) ∧ ∃ sl, h'.get? b = some { o with slots := sl }
theorem KM.trans {fs : List Addr} {h h1 h2 : Heap} (p : KM fs h h1) (q : KM fs h1 h2) : KM fs h h2 := fun b o it => by
  obtain ⟨p1, sl, p2⟩ := p b o it
  obtain ⟨_, sl2, q2⟩ := q b _ p2
  exact ⟨fun nf => (q b o (p1 nf)).1 nf, sl2, q2⟩
theorem KM.exact {fs : List Addr} {h h1 : Heap} (k : ∀ b o, h.get? b = some o → h1.get? b = some o) : KM fs h h1 := fun b o it => ⟨fun _ => k b o it, o.slots, k b o it⟩
theorem KM.ns {fs : List Addr} {h h1 : Heap} {C : Addr} {mp : Str → Option Value} (k : KM fs h h1) (n : h.Ns C mp) : h1.Ns C mp := by
  obtain ⟨o, es, ep, at_, dat, more⟩ := n
  obtain ⟨_, sl, q⟩ := k C o at_
  exact ⟨_, es, ep, q, dat, more⟩
/-- .. and other generators may be new -/
structure KeptG (fs : List Addr) (t t' : Shared) : Prop where
  os : t'.os = t.os
  bare : AllBare t'.gens
  heap : KM fs t.heap t'.heap
/-- .. but for the generator's own frame and what its iterator writes -/
structure SinceG (C : Addr) (wr fs : List Addr) (t t' : Shared) : Prop where
  os : t'.os = t.os
  bare : AllBare t'.gens
  size : t.gens.size ≤ t'.gens.size
  heap : ∀ b o, b ≠ C → b ∉ wr → t.heap.get? b = some o → (b ∉ fs → t'.heap.get? b = some o) ∧ ∃ sl, t'.heap.get? b = some { o with slots := sl }
theorem SinceG.refl {C : Addr} {wr fs : List Addr} {t : Shared} (b : AllBare t.gens) : SinceG C wr fs t t := ⟨rfl, b, Nat.le_refl _, fun _ o _ _ it => ⟨fun _ => it, o.slots, it⟩⟩
theorem SinceG.step {C : Addr} {wr fs : List Addr} {t t' : Shared} {hp : Heap} {tk : Nat} (h : SinceG C wr fs t t') (k : ∀ b o, b ≠ C → b ∉ wr → t'.heap.get? b = some o → hp.get? b = some o) : SinceG C wr fs t { t' with heap := hp, toks := tk } :=
  ⟨h.os, h.bare, h.size, fun b o nc nw it => by
    obtain ⟨p1, sl, p2⟩ := h.heap b o nc nw it
    exact ⟨fun nf => k b o nc nw (p1 nf), sl, k b _ nc nw p2⟩⟩
theorem SinceG.more {C : Addr} {wr fs : List Addr} {t t1 t2 : Shared} (h : SinceG C wr fs t t1) (z : t1.gens.size ≤ t2.gens.size) (k : KeptG fs t1 t2) : SinceG C wr fs t t2 :=
  ⟨k.os.trans h.os, k.bare, Nat.le_trans h.size z, fun b o nc nw it => by
    obtain ⟨p1, sl, p2⟩ := h.heap b o nc nw it
    obtain ⟨_, sl2, q2⟩ := k.heap b _ p2
    exact ⟨fun nf => (k.heap b o (p1 nf)).1 nf, sl2, q2⟩⟩
/-- what was there when the generator was made -/
def KeptO (old wr fs : List Addr) (ref h : Heap) : Prop := ∀ b ∈ old, b ∉ wr → ∀ o, ref.get? b = some o → (b ∉ fs → h.get? b = some o) ∧ ∃ sl, h.get? b = some { o with slots := sl }
theorem KeptO.exact {old wr fs : List Addr} {ref h h1 : Heap} (p : KeptO old wr fs ref h) (k : ∀ b ∈ old, b ∉ wr → ∀ o, h.get? b = some o → h1.get? b = some o) : KeptO old wr fs ref h1 := fun b hb nw o it => by
  obtain ⟨p1, sl, p2⟩ := p b hb nw o it
  exact ⟨fun nf => k b hb nw o (p1 nf), sl, k b hb nw _ p2⟩
theorem KeptO.km {old wr fs : List Addr} {ref h h1 : Heap} (p : KeptO old wr fs ref h) (k : KM fs h h1) : KeptO old wr fs ref h1 := fun b hb nw o it => by
  obtain ⟨p1, sl, p2⟩ := p b hb nw o it
  obtain ⟨_, sl2, q2⟩ := k b _ p2
  exact ⟨fun nf => (k b o (p1 nf)).1 nf, sl2, q2⟩
/-- what is asked of the tests and of the element at each thing that is walked -/
structure QuietF (prog : Program) (w : World) (ce : Env) (x : Str) (ifs : List Expr) (elt : Expr) (old wr fs : List Addr) (Dr : Nat → Value → Prop) (pz : Nat → Bool) (F : Nat → Value → Prop) (ref : Heap) (fr : Option (List Env)) (D U : Nat) : Prop where
  tests : ∀ (B : Around) Ex i v (t : Shared) mp, B.handled = none → B.frames = fr → B.depth ≤ D → B.units ≤ U → AllBare t.gens → Dr i v → t.heap.Ns ce.locals mp → mp x = some v → KeptO old wr fs ref t.heap →
    wpAny (model prog w) B (testsOf ifs ce) (fun ok t' => ok = pz i ∧ KeptG fs t t') Ex t
  elt : ∀ (B : Around) Ex i v (t : Shared) mp, B.handled = none → B.frames = fr → B.depth ≤ D → B.units ≤ U → AllBare t.gens → Dr i v → pz i = true → t.heap.Ns ce.locals mp → mp x = some v → KeptO old wr fs ref t.heap →
    wpAny (model prog w) B (eval elt ce) (fun y t' => F i y ∧ KeptG fs t t') Ex t
/-- what the walker may count on from one thing to the next -/
def protoB (C : Addr) (fp old wr fs : List Addr) (pz : Nat → Bool) (n : Nat) (F : Nat → Value → Prop) : Protocol := fun left t0 v t go =>
  (∃ i, (passing pz n 0)[(passing pz n 0).length - 1 - left]? = some i ∧ F i v) ∧ SinceG C wr fs t0 t ∧
    ∀ u : Shared, (∀ b ∈ C :: (fp ++ old), ∀ o, t.heap.get? b = some o → u.heap.get? b = some o) → AllBare u.gens → go (.send .none) u
abbrev endB (C : Addr) (wr fs : List Addr) : GenEnd := fun n t0 r t1 => r = .ok .next ∧ (n = 0 ∧ SinceG C wr fs t0 t1)
abbrev loopC (elt : Expr) (x : Str) (px : Pos) (iter : Expr) (ifs : List Expr) (scope : Scope) (pos : Pos) (I : Addr) (ce : Env) : Code := .compLoop (.GeneratorExp elt [⟨.Name x px, iter, ifs, 0⟩] scope pos) 0 (.ref I) .none ce
abbrev startC (elt : Expr) (x : Str) (px : Pos) (iter : Expr) (ifs : List Expr) (scope : Scope) (pos : Pos) (I : Addr) (ce : Env) : Code := .compStart (.GeneratorExp elt [⟨.Name x px, iter, ifs, 0⟩] scope pos) 0 (.ref I) .none ce
theorem seg_loopF {elt iter : Expr} {x : Str} {px : Pos} {ifs : List Expr} {scope : Scope} {pos : Pos} {I : Addr} {fp old wr fs : List Addr} {n : Nat} {Dr : Nat → Value → Prop} {St : Nat → Heap → Prop} {ce : Env} {fr : Option (List Env)}
    (quiet0 : A.handled = none) (frA : (A.over (loopC elt x px iter ifs scope pos I ce) []).frames = fr) (Wk : ∀ B : Around, B.handled = none → Walks prog w B I fp wr n Dr St) (pz : Nat → Bool) (F : Nat → Value → Prop) (ref : Heap)
    (kx : ce.kindOf x = some .local) (plain : (ce.scope.kind == .class || (ce.scope.kind == .module && ce.locals != ce.globals)) = false)
    (noco : ce.scope.isCoroutine = false) (apart : ce.locals ∉ fp) (apartO : ce.locals ∉ old) (sepF : ∀ b ∈ fp, b ∉ fs) (hQ : QuietF prog w ce x ifs elt old wr fs Dr pz F ref fr (A.depth + 1) (A.units + 3)) :
    ∀ (k i : Nat) (t0 t : Shared) (mp : Str → Option Value), n - i = k → i ≤ n → St i t.heap → t.heap.Ns ce.locals mp → SinceG ce.locals wr fs t0 t →
      KeptO old wr fs ref t.heap →
      Seg (model prog w) A (endB ce.locals wr fs) (protoB ce.locals fp old wr fs pz n F) (passing pz n i).length t0 (loopC elt x px iter ifs scope pos I ce) ((model prog w).den (loopC elt x px iter ifs scope pos I ce)) [] t := by
  have q0 : (A.over (loopC elt x px iter ifs scope pos I ce) []).handled = none := quiet0
  have qd : (A.over (loopC elt x px iter ifs scope pos I ce) []).depth ≤ A.depth + 1 := Nat.le_of_eq rfl
  have qu : (A.over (loopC elt x px iter ifs scope pos I ce) []).units ≤ A.units + 3 := Nat.le_of_eq rfl
  have offW : ce.locals ∉ wr := fun z => apart ((Wk A quiet0).sub _ z)
  intro k
  induction k with
  | zero =>
    intro i t0 t mp ek il st ns since kept
    obtain rfl : i = n := by omega
    show Seg _ A _ _ _ t0 _ ((compTurn (.GeneratorExp elt [⟨.Name x px, iter, ifs, 0⟩] scope pos) 0 (.ref I) .none ce).onRaise (leaving ce)) [] t
    (rw [compTurn_gen, Sem.onRaise_eq_wrap])
    (refine seg_bind_wrap (wpAny_standAt ?_))
    refine seg_bind_wrap ((Wk _ q0).done t _ _ st fun hp tk stay => ?_)
    exact seg_end (.ok .next) ⟨rfl, by rw [passing_end]; rfl, since.step fun b o _ nw it => stay b o nw it⟩
  | succ k again =>
    intro i t0 t mp ek il st ns since kept
    have more : i < n := by omega
    show Seg _ A _ _ _ t0 _ ((compTurn (.GeneratorExp elt [⟨.Name x px, iter, ifs, 0⟩] scope pos) 0 (.ref I) .none ce).onRaise (leaving ce)) [] t
    (rw [compTurn_gen, Sem.onRaise_eq_wrap])
    (refine seg_bind_wrap (wpAny_standAt ?_))
    refine seg_bind_wrap ((Wk _ q0).item i t _ _ more st fun v ha ta drawn sta ka => ?_)
    (refine seg_bind_wrap (wpAny_of_eq (rfl : letOwnedTupleGo (.Name x px) (.ref I) v = pure ()) ?_))
    refine seg_bind_wrap (wpAny_assign_Name (wpAny_storeName_local kx (ns.at' fun o it => ka _ o offW it) (fun hb nsb sb => ?_) plain))
    have stayB : ∀ b o, b ≠ ce.locals → b ∉ wr → t.heap.get? b = some o → hb.get? b = some o := fun b o nc nw it => sb.extBut b o nc (ka b o nw it)
    have stb : St (i + 1) hb := (Wk A quiet0).frame _ _ _ sta fun b hm o it => sb.extBut b o (fun z => apart (z ▸ hm)) it
    have keptB : KeptO old wr fs ref hb := kept.exact fun b hm nw o it => stayB b o (fun z => apartO (z ▸ hm)) nw it
    have bareT : AllBare t.gens := since.bare
    refine seg_bind_wrap (GenW.wpAny_gsz (n := t.gens.size) (Nat.le_refl _) (wpAny_mono (hQ.tests _ _ i v _ _ q0 frA qd qu bareT drawn nsb (by simp) keptB) (fun ok tc kc szc => ?_) fun _ _ z => z))
    obtain ⟨rfl, kc⟩ := kc
    have stc : St (i + 1) tc.heap := (Wk A quiet0).frame _ _ _ stb fun b hm o it => (kc.heap b o it).1 (sepF b hm)
    have nsc := kc.heap.ns nsb
    have sinceC : SinceG ce.locals wr fs t0 tc := (since.step stayB).more szc kc
    cases ep : pz i with
    | false =>
      rw [passing_false more ep]
      (simp only [Bool.false_eq_true, if_false])
      exact seg_again rfl (again (i + 1) t0 _ _ (by omega) more stc nsc sinceC (keptB.km kc.heap))
    | true =>
      rw [passing_true more ep, List.length_cons]
      simp only [if_true]
      have out : ∀ v, yieldOut ce v = yieldValue v := fun v => by simp only [yieldOut, noco, Bool.false_eq_true, if_false]
      simp only [out]
      (rw [Sem.bind_eq_wrap', Sem.bind_eq_wrap', Sem.wrap_wrap, Sem.wrap_wrap])
      refine seg_wrap (GenW.wpAny_gsz (n := tc.gens.size) (Nat.le_refl _) (wpAny_mono (hQ.elt _ _ i v _ _ q0 frA qd qu sinceC.bare drawn ep nsc (by simp) (keptB.km kc.heap)) (fun y td hd szd => ?_) fun _ _ z => z))
      obtain ⟨fy, kd⟩ := hd
      refine seg_at (seg_yield rfl rfl rfl ⟨⟨i, passing_here more ep, fy⟩, sinceC.more szd kd, fun u hal bu => ?_⟩)
      refine seg_again rfl (again (i + 1) u u _ (by omega) more ((Wk A quiet0).frame _ _ _ stc fun b hm o it => hal b (List.mem_cons_of_mem _ (List.mem_append_left _ hm)) o ((kd.heap b o it).1 (sepF b hm)))
        ((kd.heap.ns nsc).at' fun o it => hal _ (List.mem_cons_self ..) o it) (SinceG.refl bu) (((keptB.km kc.heap).km kd.heap).exact fun b hm _ o it => hal b (List.mem_cons_of_mem _ (List.mem_append_right _ hm)) o it))
theorem seg_startF {elt iter : Expr} {x : Str} {px : Pos} {ifs : List Expr} {scope : Scope} {pos : Pos} {I : Addr} {fp old wr fs : List Addr} {n : Nat} {Dr : Nat → Value → Prop} {St : Nat → Heap → Prop} {ce : Env} {fr : Option (List Env)}
    (quiet0 : A.handled = none) (frA : (A.over (loopC elt x px iter ifs scope pos I ce) []).frames = fr) (Wk : ∀ B : Around, B.handled = none → Walks prog w B I fp wr n Dr St) (pz : Nat → Bool) (F : Nat → Value → Prop) (ref : Heap)
    (kx : ce.kindOf x = some .local) (plain : (ce.scope.kind == .class || (ce.scope.kind == .module && ce.locals != ce.globals)) = false)
    (noco : ce.scope.isCoroutine = false) (apart : ce.locals ∉ fp) (apartO : ce.locals ∉ old) (sepF : ∀ b ∈ fp, b ∉ fs) (hQ : QuietF prog w ce x ifs elt old wr fs Dr pz F ref fr (A.depth + 1) (A.units + 3))
    (t0 t : Shared) (mp : Str → Option Value) (st : St 0 t.heap) (ns : t.heap.Ns ce.locals mp) (since : SinceG ce.locals wr fs t0 t) (kept : KeptO old wr fs ref t.heap) :
    Seg (model prog w) A (endB ce.locals wr fs) (protoB ce.locals fp old wr fs pz n F) (passing pz n 0).length t0 (startC elt x px iter ifs scope pos I ce) ((model prog w).den (startC elt x px iter ifs scope pos I ce)) [] t := by
  have q0 : (A.over (startC elt x px iter ifs scope pos I ce) []).handled = none := quiet0
  have lp := seg_loopF (iter := iter) (px := px) (scope := scope) (pos := pos) quiet0 frA Wk pz F ref kx plain noco apart apartO sepF hQ n 0 t0 t mp (Nat.sub_zero _) (Nat.zero_le _) st ns since kept
  show Seg _ A _ _ _ t0 _ ((compStart (.GeneratorExp elt [⟨.Name x px, iter, ifs, 0⟩] scope pos) 0 (.ref I) .none ce).onRaise (leaving ce)) [] t
  unfold compStart
  rw [Sem.onRaise_eq_wrap]
  show Seg _ A _ _ _ t0 _ ((ask >>= _).wrap _ _ _ _) [] t
  (refine seg_bind_wrap (wpAny_askSetting ?_))
  split
  · exact seg_again rfl lp
  · first
      | exact seg_bind_wrap (wpAny_rule (seg_bind_wrap (wpAny_standAt (seg_bind_wrap ((Wk _ q0).self 0 t _ _ st (seg_again rfl lp))))))
      | (refine seg_bind_wrap (wpAny_rule ?_)
         show Seg _ A _ _ _ t0 _ ((standAt iter.pos >>= _).wrap _ _ _ _) [] t
         exact seg_bind_wrap (wpAny_standAt (seg_bind_wrap ((Wk _ q0).self 0 t _ _ st (seg_again rfl lp)))))
end
end V3
namespace V3
open PySem.Spec PySem L2 PyProof.Rows GxR
theorem bare_set {t : Shared} {g : Nat} {gs : GenState} (b : AllBare t.gens) (hg : gs.bare = true) : AllBare (t.setGen g gs).gens := fun y hy => by
  rcases Array.mem_or_eq_of_mem_setIfInBounds hy with z | z
  · exact b y z
  · rw [z]
    exact hg
theorem set_size (t : Shared) (g : Nat) (gs : GenState) : (t.setGen g gs).gens.size = t.gens.size := by simp [Shared.setGen]
theorem set_at {t : Shared} {g : Nat} {gs : GenState} (h : g < t.gens.size) : (t.setGen g gs).gens[g]? = some gs := by
  simp [Shared.setGen, h]
/-- what a walk leaves: all but wr stands, of the frames fs all but the slots; the generators stay bare -/
structure MovedV (wr fs : List Addr) (t t' : Shared) : Prop where
  os : t'.os = t.os
  bare : AllBare t'.gens
  heap : ∀ b o, b ∉ wr → t.heap.get? b = some o → (b ∉ fs → t'.heap.get? b = some o) ∧ ∃ sl, t'.heap.get? b = some { o with slots := sl }
theorem MovedV.trans {wr fs : List Addr} {t t1 t2 : Shared} (p : MovedV wr fs t t1) (q : MovedV wr fs t1 t2) : MovedV wr fs t t2 := ⟨q.os.trans p.os, q.bare, fun b o n it => by
  obtain ⟨p1, sl, p2⟩ := p.heap b o n it
  obtain ⟨_, sl2, q2⟩ := q.heap b _ n p2
  exact ⟨fun nf => (q.heap b o n (p1 nf)).1 nf, sl2, q2⟩⟩
structure WalksV (prog : Program) (w : World) (A : Around) (I : Addr) (wr fs : List Addr) (n : Nat) (P : Nat → Value → Prop) (St : Nat → Shared → Prop) : Prop where
  item : ∀ i (t : Shared) (Q : Option Value → Shared → Prop) (E : Value → Shared → Prop), i < n → St i t → (∀ v t', P i v → St (i + 1) t' → MovedV wr fs t t' → Q (some v) t') → wpAny (model prog w) A (pyNext (.ref I)) Q E t
  done : ∀ (t : Shared) (Q : Option Value → Shared → Prop) (E : Value → Shared → Prop), St n t → (∀ t', MovedV wr fs t t' → Q none t') → wpAny (model prog w) A (pyNext (.ref I)) Q E t
  self : ∀ (t : Shared) (Q : Value → Shared → Prop) (E : Value → Shared → Prop), St 0 t → Q (.ref I) t → wpAny (model prog w) A (pyIter (.ref I)) Q E t
section
variable {w : World} {prog : Program} {A : Around}
theorem WalksV.down {I : Addr} {wr fs : List Addr} {n : Nat} {P : Nat → Value → Prop} {St : Nat → Shared → Prop} (Wk : WalksV prog w A.in1 I wr fs n P St) : WalksV prog w A I wr fs n P St :=
  ⟨fun i t Q E il st k => wpAny_of_in1 (Wk.item i t Q E il st k), fun t Q E st k => wpAny_of_in1 (Wk.done t Q E st k), fun t Q E st k => wpAny_of_in1 (Wk.self t Q E st k)⟩
theorem WalksV.in4 {I : Addr} {wr fs : List Addr} {n : Nat} {P : Nat → Value → Prop} {St : Nat → Shared → Prop} (Wk : WalksV prog w A.in4 I wr fs n P St) : WalksV prog w A.in1 I wr fs n P St :=
  WalksV.down (A := A.in1) (WalksV.down (A := A.in1.in1) (WalksV.down (A := A.in1.in1.in1) Wk))
/-- the generator at a, number g, before its j-th thing -/
def AtB (prog : Program) (w : World) (A : Around) (a : Addr) (g : Nat) (C : Addr) (fp old wr fs : List Addr) (pz : Nat → Bool) (n : Nat) (F : Nat → Value → Prop) (j : Nat) (t : Shared) : Prop :=
  t.heap.IsGen a g ∧ t.heap.NoLimit ∧ AllBare t.gens ∧ ∃ gs, t.gens[g]? = some gs ∧ ∀ u : Shared, (∀ b ∈ C :: (fp ++ old), ∀ o, t.heap.get? b = some o → u.heap.get? b = some o) → AllBare u.gens →
    gs.Goes (model prog w) A.in1 (endB C wr fs) (protoB C fp old wr fs pz n F) ((passing pz n 0).length - j) (.send .none) u
theorem AtB.fresh {elt iter : Expr} {x : Str} {px : Pos} {ifs : List Expr} {scope : Scope} {pos : Pos} {I a : Addr} {g : Nat} {fp old wr fs : List Addr} {n : Nat} {Dr : Nat → Value → Prop} {St : Nat → Heap → Prop} {ce : Env} {fr : Option (List Env)}
    (quiet0 : A.handled = none) (frA : (A.in1.over (loopC elt x px iter ifs scope pos I ce) []).frames = fr) (Wk : ∀ B : Around, B.handled = none → Walks prog w B I fp wr n Dr St) (pz : Nat → Bool) (F : Nat → Value → Prop)
    (kx : ce.kindOf x = some .local) (plain : (ce.scope.kind == .class || (ce.scope.kind == .module && ce.locals != ce.globals)) = false)
    (noco : ce.scope.isCoroutine = false) (apart : ce.locals ∉ fp) (apartO : ce.locals ∉ old) (sepF : ∀ b ∈ fp, b ∉ fs) {t : Shared} {mp : Str → Option Value} (hQ : QuietF prog w ce x ifs elt old wr fs Dr pz F t.heap fr (A.depth + 1) (A.units + 4))
    (gen : t.heap.IsGen a g) (new : t.gens[g]? = some (.fresh (startC elt x px iter ifs scope pos I ce))) (st : St 0 t.heap) (ns : t.heap.Ns ce.locals mp) (lim : t.heap.NoLimit) (bare : AllBare t.gens) : AtB prog w A a g ce.locals fp old wr fs pz n F 0 t :=
  ⟨gen, lim, bare, _, new, fun u hal bu => ⟨rfl, seg_startF (A := A.in1) quiet0 frA Wk pz F t.heap kx plain noco apart apartO sepF hQ u u mp ((Wk A quiet0).frame _ _ _ st fun b hm o it => hal b (List.mem_cons_of_mem _ (List.mem_append_left _ hm)) o it)
    (ns.at' fun o it => hal _ (List.mem_cons_self ..) o it) (SinceG.refl bu) fun b hm _ o it => ⟨fun _ => hal b (List.mem_cons_of_mem _ (List.mem_append_right _ hm)) o it, o.slots, hal b (List.mem_cons_of_mem _ (List.mem_append_right _ hm)) o it⟩⟩⟩
theorem walksB (quiet0 : A.handled = none) (a : Addr) (g : Nat) (C : Addr) (fp old wr fs : List Addr) (pz : Nat → Bool) (n : Nat) (F : Nat → Value → Prop) (ac : a ≠ C) (aw : a ∉ wr) (af : a ∉ fs)
    (room : A.depth < recursionLimit) (csC : cStatics ≠ C) (csW : cStatics ∉ wr) (csF : cStatics ∉ fs) :
    WalksV prog w A a (C :: wr) fs (passing pz n 0).length (fun j y => ∃ i, (passing pz n 0)[j]? = some i ∧ F i y) (AtB prog w A a g C fp old wr fs pz n F) where
  item := fun j t Q E jl st want => by
    obtain ⟨gen, lim, bare, gs, at_, goes⟩ := st
    obtain ⟨r, hr⟩ : ∃ r, (passing pz n 0).length - j = r + 1 := ⟨(passing pz n 0).length - j - 1, by omega⟩
    rw [hr] at goes
    have gl : g < t.gens.size := (Array.getElem?_eq_some_iff.mp at_).1
    refine wpAny_pyNext_genexpQ (P := fun k t0 t1 => k = 0 ∧ SinceG C wr fs t0 t1) quiet0 lim room gen at_ (goes _ (fun _ _ _ it => it) (bare_set bare rfl)) (fun v t1 gs1 b1 told => ?_) (fun t1 ended hp keep => ?_)
    · obtain ⟨⟨i, hi, fv⟩, since, go⟩ := told
      rw [show (passing pz n 0).length - 1 - (r + 1 - 1) = j by omega] at hi
      have gl1 : g < t1.gens.size := by
        have := since.size
        rw [set_size] at this
        omega
      have g1 : (t1.setGen g gs1).gens[g]? = some gs1 := set_at gl1
      obtain ⟨o, nm, qn, ho, more⟩ := gen
      obtain ⟨mc, nsc, nol⟩ := lim
      refine want v _ ⟨i, hi, fv⟩ ⟨⟨o, nm, qn, (since.heap a o ac aw ho).1 af, more⟩, ⟨mc, nsc.at' fun o it => (since.heap cStatics o csC csW it).1 csF, nol⟩, bare_set since.bare b1, gs1, g1, fun u hal bu => ?_⟩
        ⟨since.os, bare_set since.bare b1, fun b o hb it => since.heap b o (fun z => hb (z ▸ List.mem_cons_self ..)) (fun z => hb (List.mem_cons_of_mem _ z)) it⟩
      rw [show (passing pz n 0).length - (j + 1) = r by omega]
      exact go u hal bu
    · exact absurd ended.1 (Nat.succ_ne_zero r)
  done := fun t Q E st want => by
    obtain ⟨gen, lim, bare, gs, at_, goes⟩ := st
    rw [Nat.sub_self] at goes
    refine wpAny_pyNext_genexpQ (P := fun k t0 t1 => k = 0 ∧ SinceG C wr fs t0 t1) quiet0 lim room gen at_ (goes _ (fun _ _ _ it => it) (bare_set bare rfl)) (fun v t1 gs1 b1 told => ?_) (fun t1 ended hp keep => ?_)
    · obtain ⟨_, since, go⟩ := told
      exact (go t1 (fun _ _ _ it => it) since.bare).elim
    · obtain ⟨_, since⟩ := ended
      exact want _ ⟨since.os, bare_set since.bare rfl, fun b o hb it => by
        obtain ⟨p1, sl, p2⟩ := since.heap b o (fun z => hb (z ▸ List.mem_cons_self ..)) (fun z => hb (List.mem_cons_of_mem _ z)) it
        exact ⟨fun nf => keep b o (p1 nf), sl, keep b _ p2⟩⟩
  self := fun _ _ _ st want => wpAny_pyIter_gen st.1 want
/-- all(..) over such a walk of truths -/
theorem all_loopV {I : Addr} {wr fs : List Addr} {n : Nat} {P : Nat → Value → Prop} {St : Nat → Shared → Prop} {R : Result → Shared → Prop} (Wk : WalksV prog w A.in1 I wr fs n P St) (tr : Nat → Bool) (isB : ∀ i v, P i v → v = .bool (tr i)) :
    ∀ (k i : Nat) (t : Shared), n - i = k → i ≤ n → St i t → (∀ t', MovedV wr fs t t' → R (.ok (.ret (.bool (((List.range n).drop i).all tr)))) t') → codeAny (model prog w) A (.builtin "all.loop" ⟨[.ref I], []⟩) R t := by
  intro k
  induction k with
  | zero =>
    intro i t ek il st want
    obtain rfl : i = n := by omega
    (refine codeAny_builtin F.entry_all_loop ?_)
    (rw [Around.under_plainId F.plain_all_loop _])
    show wpAny _ A.in1 (pyNext (.ref I) >>= _) _ _ t
    refine wpAny_bind (Wk.done t _ _ st fun t' mv => wpAny_bind (wpAny_rule (wpAny_pure ?_)))
    have z := want t' mv
    rw [List.drop_of_length_le (Nat.le_of_eq List.length_range)] at z
    exact z
  | succ k again =>
    intro i t ek il st want
    have lt : i < n := by omega
    have cut : (List.range n).drop i = i :: (List.range n).drop (i + 1) := range_drop lt
    (refine codeAny_builtin F.entry_all_loop ?_)
    (rw [Around.under_plainId F.plain_all_loop _])
    show wpAny _ A.in1 (pyNext (.ref I) >>= _) _ _ t
    refine wpAny_bind (Wk.item i t _ _ lt st fun v t' pv st' mv => ?_)
    rw [isB i v pv]
    (refine wpAny_bind (wpAny_holding (wpAny_truthy_bool ?_)))
    (refine wpAny_bind (wpAny_letGo ?_))
    rw [cut] at want
    cases eb : tr i with
    | true =>
      simp only [if_true]
      refine wpAny_pure ⟨plainId_quiet F.plain_all_loop _, again (i + 1) _ (by omega) lt st' fun t2 mv2 => ?_⟩
      have z := want t2 (mv.trans mv2)
      rw [List.all_cons, eb, Bool.true_and] at z
      exact z
    | false =>
      simp only [Bool.false_eq_true, if_false, ite_false]
      (refine wpAny_bind (wpAny_rule (wpAny_pure ?_)))
      have z := want t' mv
      rw [List.all_cons, eb, Bool.false_and] at z
      exact z
theorem call_allV {E : Value → Shared → Prop} {s : Shared} {x : Value} {Q : Value → Shared → Prop}
    (h : wpAny (model prog w) A.in1 (pyIter x) (fun it t => ∃ I wr fs n P St tr, it = .ref I ∧ WalksV prog w A.in1 I wr fs n P St ∧ St 0 t ∧ (∀ i v, P i v → v = .bool (tr i)) ∧ ∀ t', MovedV wr fs t t' → Q (.bool ((List.range n).all tr)) t') E s) :
    (wpAny (model prog w) A (call (.builtin "all") [x]) Q E s) := by
  (refine call_function_tree F.kind_all F.plain_all F.entry_all (F.args_all1 _) ?_)
  unfold Builtin.«all»
  (refine wpAny_bind (m := oneArg "all" _) (wpAny_pure ?_))
  refine wpAny_bind (wpAny_mono h (fun it t ht => ?_) fun _ _ z => z)
  obtain ⟨I, wr, fs, n, P, St, tr, rfl, Wk, st, isB, want⟩ := ht
  exact wpAny_pure ⟨plainId_quiet F.plain_all_loop _, all_loopV Wk tr isB n 0 t rfl (Nat.zero_le _) st fun t' mv => by simpa using want t' mv⟩
end
end V3
namespace V3
open PySem.Spec PySem L2 PyProof.Rows GxR
section
variable {w : World} {prog : Program} {A : Around} {E : Value → Shared → Prop} {s : Shared}
/-- what the maker of such a generator has to know, behind the code object and the builtins -/
def MadeF (prog : Program) (w : World) (A : Around) (env : Env) (elt iter : Expr) (x : Str) (px : Pos) (ifs : List Expr) (scope : Scope) (cl : List (Str × Addr)) (pos : Pos) (Q : Value → Shared → Prop) (it code : Value) (bi : Addr) (t : Shared) : Prop :=
  AllBare t.gens ∧ ∃ (I : Addr) (fp wr fs : List Addr) (n : Nat) (Dr : Nat → Value → Prop) (St : Nat → Heap → Prop) (pz : Nat → Bool) (F : Nat → Value → Prop), it = .ref I ∧ (∀ B : Around, B.handled = none → Walks prog w B I fp wr n Dr St) ∧ St 0 t.heap ∧
    (∀ b ∈ fp, b < t.heap.objs.size) ∧ t.heap.NoLimit ∧ cStatics ∉ wr ∧ (∀ b ∈ fs, b ≤ t.heap.objs.size) ∧ (∀ b ∈ fp, b ∉ fs) ∧ cStatics ∉ fs ∧
    (∀ ref : Heap, (∀ b o, t.heap.get? b = some o → ref.get? b = some o) →
      QuietF prog w (genEnv scope cl t.heap.objs.size code bi env) x ifs elt (List.range t.heap.objs.size) wr fs Dr pz F ref (A.in4.in1.over (loopC elt x px iter ifs scope pos I (genEnv scope cl t.heap.objs.size code bi env)) []).frames (A.depth + 1) (A.units + 8)) ∧
    ∀ a hp tk gs, gs.bare = true → t.heap.objs.size < a → hp.objs.size = a + 1 → (∀ b o, t.heap.get? b = some o → hp.get? b = some o) →
      WalksV prog w A.in4 a (t.heap.objs.size :: wr) fs (passing pz n 0).length (fun j y => ∃ i, (passing pz n 0)[j]? = some i ∧ F i y) (AtB prog w A.in4 a t.gens.size t.heap.objs.size fp (List.range t.heap.objs.size) wr fs pz n F) →
      AtB prog w A.in4 a t.gens.size t.heap.objs.size fp (List.range t.heap.objs.size) wr fs pz n F 0 { t with gens := t.gens.push gs, toks := tk, heap := hp } → Q (.ref a) { t with gens := t.gens.push gs, toks := tk, heap := hp }
theorem genexpF {env : Env} {elt iter : Expr} {x : Str} {px : Pos} {ifs : List Expr} {scope : Scope} {cl : List (Str × Addr)} {pos : Pos} {Q : Value → Shared → Prop}
    (quiet0 : A.handled = none) (noco : scope.isCoroutine = false) (clo : closureFor scope env = pure cl) (nocell : ∀ y ∈ scope.names, y.2 ≠ .cell) (dot0 : scope.names.lookup (".0" : Str) = some NameKind.local)
    (kx : scope.names.lookup x = some .local) (kd : scope.kind = .function) (room : A.depth < recursionLimit)
    (h : wpAny (model prog w) A (eval iter env) (fun xv t1 => wpAny (model prog w) A (pyIter xv) (fun it t2 => t2.heap.NoLimit ∧
      wpAny (model prog w) A (genexprCode env pos (env.qual ++ "<genexpr>") scope) (fun code t3 => wpAny (model prog w) A (builtinsFor env.globals env.builtins) (fun bi t4 => MadeF prog w A env elt iter x px ifs scope cl pos Q it code bi t4) E t3) E t2) E t1) E s)
    (nofold : ∀ v, genFold iter env v = pure v) : wpAny (model prog w) A (eval (.GeneratorExp elt [⟨.Name x px, iter, ifs, 0⟩] scope pos) env) Q E s := by
  refine wpAny_GeneratorExp_make noco clo nocell dot0 kd room (wpAny_mono h (fun xv t1 a1 => wpAny_mono a1 (fun it t2 a2 => ⟨a2.1, wpAny_mono a2.2 (fun code t3 a3 => wpAny_mono a3 (fun bi t4 a4 => ?_)
    fun _ _ z => z) fun _ _ z => z⟩) fun _ _ z => z) fun _ _ z => z) nofold
  obtain ⟨bare, I, fp, wr, fs, n, Dr, St, pz, F, rfl, Wk, st, low, lim, csW, lowF, sepF, csF, hQ, want⟩ := a4
  have cl4 : cStatics < t4.heap.objs.size := by
    obtain ⟨_, q, _⟩ := lim
    exact q.lt
  intro hp nsp same
  have sz : hp.objs.size = t4.heap.objs.size + 1 := by rw [same.1, Heap.size_push]
  have keep : ∀ b o, t4.heap.get? b = some o → hp.get? b = some o := fun b o it => same.extBut b o (Nat.ne_of_lt (Heap.lt_size it)) (Heap.get?_push_of_some _ it)
  have inR : ∀ b ∈ wr, b ∈ List.range t4.heap.objs.size := fun b hb => List.mem_range.mpr (low b ((Wk A quiet0).sub b hb))
  have nC : hp.objs.size ≠ t4.heap.objs.size := by
    rw [sz]
    exact Nat.succ_ne_self _
  have nR : hp.objs.size ∉ List.range t4.heap.objs.size := fun z => by
    have := List.mem_range.mp z
    omega
  have keep5 : ∀ b o, t4.heap.get? b = some o → (hp.push { cls := .type "generator", data := .fields #[.int t4.gens.size 0, .str "<genexpr>" (t4.toks + 1), .str (env.qual ++ "<genexpr>") (t4.toks + 1 + 1)] }).get? b = some o :=
    fun b o it => Heap.get?_push_of_some _ (keep b o it)
  refine want _ _ _ _ rfl (by omega) (by rw [Heap.size_push]) keep5 (walksB (A := A.in4) quiet0 _ _ _ fp _ wr fs pz n F nC (fun z => nR (inR _ z)) (fun z => by have h9 : (hp.objs.size : Nat) ≤ t4.heap.objs.size := lowF _ z; omega) room (Nat.ne_of_lt cl4) csW csF) ?_
  refine AtB.fresh (A := A.in4) (ce := genEnv scope cl t4.heap.objs.size code bi env) (mp := fun y => if y = ".0" then some (.ref I) else none) quiet0 rfl
    Wk pz F kx (by simp [genEnv, kd]) noco
    (fun z => Nat.lt_irrefl _ (low _ z)) (fun z => Nat.lt_irrefl _ (List.mem_range.mp z)) sepF (hQ _ keep5) ⟨_, _, _, Heap.get?_push_size _ rfl, rfl, rfl, rfl⟩ (Array.getElem?_push_size ..) ((Wk A quiet0).frame _ _ _ st fun b _ o it => keep5 b o it) (nsp.push _) (lim.keeps keep5) (bare.push rfl)
end
end V3
/-! A call of a def with a promise, from a generator expression's own frame. -/
namespace V3
open PySem.Spec PySem L2 PyProof.Rows GxR
/-- what is known of lists and tuples, held fast by their very objects -/
def fast (h : Heap) (H : Hp) : Hp := fun b => match H b with
  | some (.tup xs) => (h.get? b).map fun o => .frz o (.tup xs)
  | some (.lst xs) => (h.get? b).map fun o => .frz o (.lst xs)
  | some (.frz o (.tup xs)) => some (.frz o (.tup xs))
  | some (.frz o (.lst xs)) => some (.frz o (.lst xs))
  | some (.dK kvs) => (h.get? b).map fun o => .frz o (.dK kvs)
  | some (.frz o (.dK kvs)) => some (.frz o (.dK kvs))
  | _ => none
section
variable {P : Program} {w : World} {h h' : Heap} {H : Hp}
theorem fast_none {b : Addr} (e : H b = none) : fast h H b = none := by
  unfold fast
  rw [e]
theorem fast_cases {b : Addr} {u : HO} (e : fast h H b = some u) : (∃ xs o, H b = some (.tup xs) ∧ h.get? b = some o ∧ u = .frz o (.tup xs)) ∨ (∃ xs o, H b = some (.lst xs) ∧ h.get? b = some o ∧ u = .frz o (.lst xs)) ∨
    (∃ xs o, H b = some (.frz o (.tup xs)) ∧ u = .frz o (.tup xs)) ∨ (∃ xs o, H b = some (.frz o (.lst xs)) ∧ u = .frz o (.lst xs)) ∨
    (∃ kvs o, H b = some (.dK kvs) ∧ h.get? b = some o ∧ u = .frz o (.dK kvs)) ∨ ∃ kvs o, H b = some (.frz o (.dK kvs)) ∧ u = .frz o (.dK kvs) := by
  unfold fast at e
  cases hb : H b with
  | none =>
    rw [hb] at e
    cases e
  | some ho =>
    rw [hb] at e
    cases ho with
    | tup xs =>
      obtain ⟨o, h1, h2⟩ := Option.map_eq_some_iff.mp e
      exact .inl ⟨xs, o, rfl, h1, h2.symm⟩
    | lst xs =>
      obtain ⟨o, h1, h2⟩ := Option.map_eq_some_iff.mp e
      exact .inr (.inl ⟨xs, o, rfl, h1, h2.symm⟩)
    | frz o u0 =>
      cases u0 with
      | tup xs => exact .inr (.inr (.inl ⟨xs, o, rfl, (Option.some.inj e).symm⟩))
      | lst xs => exact .inr (.inr (.inr (.inl ⟨xs, o, rfl, (Option.some.inj e).symm⟩)))
      | dK kvs => exact .inr (.inr (.inr (.inr (.inr ⟨kvs, o, rfl, (Option.some.inj e).symm⟩))))
      | _ => cases e
    | dK kvs =>
      obtain ⟨o, h1, h2⟩ := Option.map_eq_some_iff.mp e
      exact .inr (.inr (.inr (.inr (.inl ⟨kvs, o, rfl, h1, h2.symm⟩))))
    | _ => cases e
theorem fast_ok (ok : HOk P w H h) (k : ∀ b u o, H b = some u → (∀ q, u ≠ .tbl q) → h.get? b = some o → h'.get? b = some o) : HOk P w (fast h H) h' := by
  intro b u e
  rcases fast_cases e with (⟨xs, o, e1, e2, rfl⟩ | ⟨xs, o, e1, e2, rfl⟩ | ⟨xs, o, e1, rfl⟩ | ⟨xs, o, e1, rfl⟩ | ⟨kvs, o, e1, e2, rfl⟩ | ⟨kvs, o, e1, rfl⟩)
  · obtain ⟨z, its, rv, o2, h1, h2, n, h3⟩ := ok b _ e1
    rw [e2] at h1
    cases h1
    have kk := k b _ o e1 (fun q z => by cases z) e2
    exact ⟨kk, z, its, rv, o, kk, h2, n, h3⟩
  · obtain ⟨z, its, n, rv, h1⟩ := ok b _ e1
    rw [e2] at h1
    have kk := k b _ o e1 (fun q z => by cases z) e2
    exact ⟨kk, z, its, n, rv, by rw [kk, h1]⟩
  · obtain ⟨e2, z, its, rv, o2, h1, h2, n, h3⟩ := ok b _ e1
    rw [e2] at h1
    cases h1
    have kk := k b _ o e1 (fun q z => by cases z) e2
    exact ⟨kk, z, its, rv, o, kk, h2, n, h3⟩
  · obtain ⟨e2, z, its, n, rv, h1⟩ := ok b _ e1
    rw [e2] at h1
    have kk := k b _ o e1 (fun q z => by cases z) e2
    exact ⟨kk, z, its, n, rv, by rw [kk, h1]⟩
  · obtain ⟨z, ns, vs, kv, o2, es, ep, h1, x1⟩ := ok b _ e1
    rw [e2] at h1
    cases h1
    have kk := k b _ o e1 (fun q z => by cases z) e2
    exact ⟨kk, z, ns, vs, kv, o, es, ep, kk, x1⟩
  · obtain ⟨e2, z, ns, vs, kv, o2, es, ep, h1, x1⟩ := ok b _ e1
    rw [e2] at h1
    cases h1
    have kk := k b _ o e1 (fun q z => by cases z) e2
    exact ⟨kk, z, ns, vs, kv, o, es, ep, kk, x1⟩
theorem fast_tup {b : Addr} {xs : List V} (ok : HOk P w H h) (e : H b = some (.tup xs)) : ∃ o, fast h H b = some (.frz o (.tup xs)) := by
  obtain ⟨z, its, rv, o, h1, _⟩ := ok b _ e
  exact ⟨o, by unfold fast; rw [e]; simp only []; rw [h1]; rfl⟩
theorem fast_lst {b : Addr} {xs : List V} (ok : HOk P w H h) (e : H b = some (.lst xs)) : ∃ o, fast h H b = some (.frz o (.lst xs)) := by
  obtain ⟨z, its, n, rv, h1⟩ := ok b _ e
  exact ⟨_, by unfold fast; rw [e]; simp only []; rw [h1]; rfl⟩
theorem fast_dK {b : Addr} {kvs : List (Key × V)} (ok : HOk P w H h) (e : H b = some (.dK kvs)) : ∃ o, fast h H b = some (.frz o (.dK kvs)) := by
  obtain ⟨z, ns, vs, kv, o2, es, ep, h1, x1⟩ := ok b _ e
  exact ⟨_, by unfold fast; rw [e]; simp only []; rw [h1]; rfl⟩
theorem fastT {K : PySem.W.Frag} {a : Addr} {xs : List V} (ok : HOk P w H h) (s : SqT K H a xs) : SqT K (fast h H) a xs := by
  rcases s with ((e | ⟨o, e⟩) | e)
  · exact .inl (.inr (fast_tup ok e))
  · exact .inl (.inr ⟨o, by unfold fast; rw [e]⟩)
  · exact .inr e
theorem fastL {K : PySem.W.Frag} {a : Addr} {xs : List V} (ok : HOk P w H h) (s : SqL K H a xs) : SqL K (fast h H) a xs := by
  rcases s with ((e | ⟨o, e⟩) | e)
  · exact .inl (.inr (fast_lst ok e))
  · exact .inl (.inr ⟨o, by unfold fast; rw [e]⟩)
  · exact .inr e
end
mutual
theorem Dp.fast {P : Program} {w : World} {K : PySem.W.Frag} {h : Heap} {H : Hp} (ok : HOk P w H h) : ∀ {v : V} {d : PyData}, Dp K H v d → Dp K (V3.fast h H) v d
  | _, _, .non => .non
  | _, _, .bl b => .bl b
  | _, _, .int i => .int i
  | _, _, .str x => .str x
  | _, _, .lst s a => .lst (fastL ok s) (DpAll.fast ok a)
  | _, _, .tup s a => .tup (fastT ok s) (DpAll.fast ok a)
theorem DpAll.fast {P : Program} {w : World} {K : PySem.W.Frag} {h : Heap} {H : Hp} (ok : HOk P w H h) : ∀ {vs : List V} {ds : List PyData}, DpAll K H vs ds → DpAll K (V3.fast h H) vs ds
  | _, _, .nil => .nil
  | _, _, .cons a b => .cons (Dp.fast ok a) (DpAll.fast ok b)
end
theorem kept_CE {P : Program} {w : World} {outer : List Env} {h : Heap} {H : Hp} {t t' : Shared} {Q : VK} {u : Value} (ok : HOk P w (fast h H) t.heap) (c : CE outer P w (fast h H) t Q u t') : KeptG (frs outer) t t' ∧ ∃ v H', RelV v u ∧ Q v H' := by
  obtain ⟨v, H', os, bare, un, ok', r, q⟩ := c
  refine ⟨⟨os, bare, fun b o it => ?_⟩, v, H', r, q⟩
  have fixed : ∀ o' u', fast h H b = some (.frz o' u') → t'.heap.get? b = some o := fun o' u' e => by
    have h1 : t.heap.get? b = some o' := (ok b _ e).1
    rw [it] at h1
    cases h1
    exact (ok' b _ (un.frzs b _ _ e)).1
  cases e : fast h H b with
  | none =>
    by_cases hb : b ∈ frs outer
    · obtain ⟨sl, z⟩ := un.slot b o it e hb (by simp)
      exact ⟨fun nf => absurd hb nf, sl, z⟩
    · have z := un.keep b o it e hb (by simp)
      exact ⟨fun _ => z, o.slots, z⟩
  | some ho =>
    rcases fast_cases e with (⟨xs, o', e1, e2, rfl⟩ | ⟨xs, o', e1, e2, rfl⟩ | ⟨xs, o', e1, rfl⟩ | ⟨xs, o', e1, rfl⟩ | ⟨xs, o', e1, e2, rfl⟩ | ⟨xs, o', e1, rfl⟩) <;> exact ⟨fun _ => fixed _ _ e, o.slots, fixed _ _ e⟩
/-- what the frame's call of the def needs of the state t -/
structure InGen (X : Cx) (H : Hp) (h : Heap) (ce : Env) (C : Addr) (t : Shared) : Prop where
  base : ∀ b o, X.base.get? b = some o → t.heap.get? b = some o
  sz : X.base.objs.size ≤ t.heap.objs.size
  funs : t.heap.FunFrames X.base (ce :: X.stack)
  frf : ∀ b ∈ frs (ce :: X.stack), H b = none
  ok : HOk X.prog X.w (fast h H) t.heap
  bare : AllBare t.gens
theorem gen_call {X : Cx} {pins : List (Addr × Obj)} {σ : L2.St} {H : Hp} {s t : Shared} {k : Nat} {f C : Addr} {fd : FuncData} {ps : List Str} {sp : Sp} {B : Around} {ce : Env} {us : List Value} {vs : List V} {q : V → Prop} {R : Value → Shared → Prop} {Ex : Value → Shared → Prop}
    (I : Inv X pins σ H s) (G : FnOk X.prog X.w X.K X.mg X.base CX0 k f fd ps sp) (bd : Binds X.K fd ps []) (hr : Room (k + 1) X.A) (g : InGen X H s.heap ce C t)
    (b0 : B.handled = none) (bf : B.frames = some (ce :: X.stack)) (bd1 : B.depth ≤ X.A.depth + 1) (bu : B.units ≤ X.A.units + 8) (r : Vals vs us) (ask : sp vs (fast s.heap H) (fun v _ => q v) E0)
    (fin : ∀ v u t', q v → RelV v u → KeptG (frs (ce :: X.stack)) t t' → R u t') : wpAny (model X.prog X.w) B (call (.ref f) us) R Ex t := by
  have room : Room k B := ⟨b0, by have := hr.dp; omega, by have := hr.un; omega⟩
  have kin : X.K.In t.heap := I.ok.mod.kin.keeps g.base
  have e0 : Env0 X.prog X.w X.K X.mg X.base B (ce :: X.stack) t (fast s.heap H) := ⟨bf, I.ok.mod, fun b o it => ⟨g.base b o it, fast_none (I.bs b o it).2⟩, g.sz, g.funs, fun b hb => fast_none (g.frf b hb), g.ok, g.bare⟩
  have hl : (us ++ []).length = ps.length := by
    rw [List.append_nil, ← r.length]
    exact G.len _ _ _ _ ask
  have bs := bd t us kin hl
  rw [List.append_nil] at bs
  refine wpAny_call (codeAny_mono (G.run B (ce :: X.stack) t (fast s.heap H) ⟨us, []⟩ us vs (fun v _ => q v) E0 room e0 bs r ask) fun res t' c => ?_)
  cases res with
  | error e => exact False.elim c
  | ok fl =>
    cases fl with
    | ret u =>
      obtain ⟨kg, v, H', rv, qv⟩ := kept_CE g.ok c
      exact fin v u t' qv rv kg
    | next => exact False.elim c
    | brk => exact False.elim c
    | cont => exact False.elim c
end V3
set_option maxHeartbeats 8100000
namespace V3
open PySem.Spec PySem L2 PyProof.Rows GxR
section
variable {pins : List (Addr × Obj)} {X : Cx} {σ : L2.St} {H : Hp} {s : Shared}
theorem over_frames {A : Around} {elt iter : Expr} {x : Str} {px : Pos} {ifs : List Expr} {scope : Scope} {pos : Pos} {I : Addr} {ce : Env} {l : List Env} (e : A.frames = some l) :
    (A.in4.in1.over (loopC elt x px iter ifs scope pos I ce) []).frames = some (ce :: l) := by
  have e5 : A.in4.in1.frames = some l := e
  simp only [Around.over, List.map_nil]
  rw [e5]
  rfl
/-- behind a walk of a generator: the table has grown, of the frames the slots may differ -/
theorem inv_gen {P : Addr} {ps more : Array Value} {t' : Shared} (I : Inv X pins σ H s) (hP : H P = some (.tbl ps)) (os : t'.os = s.os) (bare : AllBare t'.gens)
    (k : ∀ b o, b ≠ P → s.heap.get? b = some o → (b ∉ frs X.stack → t'.heap.get? b = some o) ∧ ∃ sl, t'.heap.get? b = some { o with slots := sl })
    (hm : t'.heap.get? P = some { cls := .none, data := .fields (ps ++ more) }) : Inv X pins σ (upd H P (.tbl (ps ++ more))) t' := by
  have nP : ∀ b u, H b = some u → (∀ q, u ≠ .tbl q) → b ≠ P := fun b u e q zz => by
    rw [zz, hP] at e
    (exact q ps (Option.some.inj e).symm)
  have nN : ∀ b, H b = none → b ≠ P := fun b e zz => by
    rw [zz, hP] at e
    cases e
  have exactly : ∀ b u o, H b = some u → b ≠ P → s.heap.get? b = some o → t'.heap.get? b = some o := fun b u o e n it => (k b o n it).1 fun z => by
    rw [I.stkFree b z] at e
    cases e
  have un : Un (frs X.stack) [] H (upd H P (.tbl (ps ++ more))) s.heap t'.heap := by
    refine ⟨fun b o it e nf _ => (k b o (nN b e) it).1 nf, fun b o it e _ _ => (k b o (nN b e) it).2, fun b o _ e _ => by rw [upd_ne (nN b e)]; exact e, fun b o it _ => ?_, fun b xs e => by rw [upd_ne (nP b _ e (fun q z => by cases z))]; exact e,
      fun b o u e => by rw [upd_ne (nP b _ e (fun q z => by cases z))]; exact e, fun b qs e => ?_⟩
    · by_cases hb : b = P
      · exact ⟨_, by rw [hb]; exact hm⟩
      · obtain ⟨_, sl, z⟩ := k b o hb it
        exact ⟨_, z⟩
    · by_cases hb : b = P
      · rw [hb, hP] at e
        cases e
        exact ⟨more, by rw [hb, upd_same]⟩
      · exact ⟨#[], by rw [upd_ne hb, e]; simp⟩
  have ok : HOk X.prog X.w (upd H P (.tbl (ps ++ more))) t'.heap := by
    intro b u e
    by_cases hb : b = P
    · subst hb
      rw [upd_same] at e
      cases e
      exact hm
    · rw [upd_ne hb] at e
      refine (I.hok b u e).stay (fun d v hd q => ?_) (fun d q => by rw [upd_ne (nP d _ q (fun q z => by cases z))]; exact q) fun d xs q => by rw [upd_ne (nP d _ q (fun q z => by cases z))]; exact q
      rcases hd with (z | z)
      · subst z
        exact exactly _ u v e hb q
      · exact exactly d _ v z (nP d _ z (fun q z => by cases z)) q
  have J := I.call (h' := t'.heap) (g' := t'.gens) (d' := t'.drawn) (t' := t'.toks) (ch := []) un ok bare (fun b z => absurd z (by simp))
  rw [sh_eta s t' os] at J
  exact J
end
/-- all(f(x, c) for x in t), t a tuple, f a def with a promise, c a name of the def -/
def tAllC (X : Cx) (P : Addr) (ic : Nat) (sp : Sp) (te : TE) : TE := fun σ H Q => te σ H fun v H1 => ∃ (a : Addr) (xs : List V) (vc : V) (tr : Nat → Bool), v = .ref a ∧ SqT X.K H1 a xs ∧ TabG H1 P ∧ σ[ic]? = some (some vc) ∧
  (∀ h, HOk X.prog X.w H1 h → ∀ i xi, xs[i]? = some xi → sp [xi, vc] (fast h H1) (fun v _ => v = .bl (tr i)) E0) ∧ ∀ H2, Tabbed P H1 H2 → Q (.bl ((List.range xs.length).all tr)) H2
end V3
namespace V3
open PySem.Spec PySem L2 PyProof.Rows GxR
section
variable {X : Cx}
theorem tests_none {M : Model} {B : Around} {ce : Env} {Ex : Value → Shared → Prop} {t : Shared} {R : Bool → Shared → Prop} (h : R true t) : wpAny M B (testsOf [] ce) R Ex t := by
  show wpAny M B (forIn ([] : List Expr) true _) R Ex t
  simp only [List.forIn_nil]
  exact wpAny_pure h
theorem frs_apart {s : Shared} {l : List Env} {base : Heap} {b : Addr} (f : s.heap.FunFrames base l) (hb : b ∈ frs l) : base.get? b = none ∧ ∃ o, s.heap.get? b = some o ∧ ∀ vs, o.data ≠ .fields vs := by
  obtain ⟨n, o, ho, nf⟩ := f.mem hb
  exact ⟨n, o, ho, nf⟩
end
end V3
/-! A generator expression with two fors. -/
namespace V3
open PySem.Spec PySem L2 PyProof.Rows GxR
section
variable {w : World} {prog : Program} {A : Around}
abbrev gen2 (elt : Expr) (x : Str) (px : Pos) (iter : Expr) (y : Str) (py : Pos) (iter2 : Expr) (scope : Scope) (pos : Pos) : Expr := .GeneratorExp elt [⟨.Name x px, iter, [], 0⟩, ⟨.Name y py, iter2, [], 0⟩] scope pos
theorem turn0 (elt : Expr) (x : Str) (px : Pos) (iter : Expr) (y : Str) (py : Pos) (iter2 : Expr) (scope : Scope) (pos : Pos) (it acc : Value) (env : Env) :
    compTurn (gen2 elt x px iter y py iter2 scope pos) 0 it acc env = (do
      standAt iter.pos
      match ← pyNext it with
      | none => pure (.done .next)
      | some v =>
        letOwnedTupleGo (.Name x px) it v
        assign (.Name x px) env v
        let mut ok := true
        for test in ([] : List Expr) do
          if ok then
            ok ← isTrue test env (eval test env)
        if ok then
          let q ← eval iter2 env
          standAt iter2.pos
          let q ← if (0 : Nat) != 0 then foldedIterable iter2 q else foldedSetIterable iter2 env q
          let _ ← runOwn (.compStart (gen2 elt x px iter y py iter2 scope pos) 1 (← holding [q] (if (0 : Nat) != 0 then asyncIter q else pyIter q)) acc env) env
        again (.compLoop (gen2 elt x px iter y py iter2 scope pos) 0 it acc env)) := by rfl
theorem turn1 (elt : Expr) (x : Str) (px : Pos) (iter : Expr) (y : Str) (py : Pos) (iter2 : Expr) (scope : Scope) (pos : Pos) (it acc : Value) (env : Env) :
    compTurn (gen2 elt x px iter y py iter2 scope pos) 1 it acc env = (do
      standAt iter2.pos
      match ← pyNext it with
      | none => pure (.done .next)
      | some v =>
        letOwnedTupleGo (.Name y py) it v
        assign (.Name y py) env v
        let mut ok := true
        for test in ([] : List Expr) do
          if ok then
            ok ← isTrue test env (eval test env)
        if ok then
          (eval elt env >>= fun thing => standAt elt.pos >>= fun _ => yieldOut env thing >>= fun _ => pure ())
        again (.compLoop (gen2 elt x px iter y py iter2 scope pos) 1 it acc env)) := by rfl
/-- what stands of keep, of the frames fs all but the slots -/
structure SinceK (keep fs : List Addr) (t t' : Shared) : Prop where
  os : t'.os = t.os
  bare : AllBare t'.gens
  size : t.gens.size ≤ t'.gens.size
  heap : ∀ b ∈ keep, ∀ o, t.heap.get? b = some o → (b ∉ fs → t'.heap.get? b = some o) ∧ ∃ sl, t'.heap.get? b = some { o with slots := sl }
theorem SinceK.refl {keep fs : List Addr} {t : Shared} (b : AllBare t.gens) : SinceK keep fs t t := ⟨rfl, b, Nat.le_refl _, fun _ _ o it => ⟨fun _ => it, o.slots, it⟩⟩
theorem SinceK.step {keep fs : List Addr} {t t' : Shared} {hp : Heap} {tk : Nat} (h : SinceK keep fs t t') (k : ∀ b ∈ keep, ∀ o, t'.heap.get? b = some o → hp.get? b = some o) : SinceK keep fs t { t' with heap := hp, toks := tk } :=
  ⟨h.os, h.bare, h.size, fun b hb o it => by
    obtain ⟨p1, sl, p2⟩ := h.heap b hb o it
    exact ⟨fun nf => k b hb o (p1 nf), sl, k b hb _ p2⟩⟩
theorem SinceK.more {keep fs : List Addr} {t t1 t2 : Shared} (h : SinceK keep fs t t1) (z : t1.gens.size ≤ t2.gens.size) (k : KeptG fs t1 t2) : SinceK keep fs t t2 :=
  ⟨k.os.trans h.os, k.bare, Nat.le_trans h.size z, fun b hb o it => by
    obtain ⟨p1, sl, p2⟩ := h.heap b hb o it
    obtain ⟨_, sl2, q2⟩ := k.heap b _ p2
    exact ⟨fun nf => (k.heap b o (p1 nf)).1 nf, sl2, q2⟩⟩
/-- one thing after the other: the m-th of N satisfies F m -/
def protoN (keep fs : List Addr) (N : Nat) (F : Nat → Value → Prop) : Protocol := fun left t0 v t go =>
  F (N - 1 - left) v ∧ SinceK keep fs t0 t ∧ ∀ u : Shared, (∀ b o, t.heap.get? b = some o → u.heap.get? b = some o) → AllBare u.gens → go (.send .none) u
abbrev endN (keep fs : List Addr) : GenEnd := fun n t0 r t1 => r = .ok .next ∧ (n = 0 ∧ SinceK keep fs t0 t1)
abbrev lp (elt : Expr) (x : Str) (px : Pos) (iter : Expr) (y : Str) (py : Pos) (iter2 : Expr) (scope : Scope) (pos : Pos) (ce : Env) (d : Nat) (I : Addr) : Code := .compLoop (gen2 elt x px iter y py iter2 scope pos) d (.ref I) .none ce
/-- what a predicate of heaps bears: the frame and the inner iterator change, the frames' slots too -/
def Bears (Ok : Heap → Prop) (C J : Addr) (fs : List Addr) : Prop := ∀ h h' : Heap, Ok h → (∀ b o, b ≠ C → b ≠ J → h.get? b = some o → (b ∉ fs → h'.get? b = some o) ∧ ∃ sl, h'.get? b = some { o with slots := sl }) → Ok h'
theorem seg_in {elt iter iter2 : Expr} {x y : Str} {px py : Pos} {scope : Scope} {pos : Pos} {J : Addr} {ce : Env} {keep fs : List Addr} {m rest base N : Nat} {Dr : Nat → Value → Prop} {St : Nat → Heap → Prop} {F : Nat → Value → Prop} {Ok : Heap → Prop} {vx : Value} {fr : Option (List Env)}
    {kK : Result → Sem PySem.Fin} {hK : Option Value} {lK : List Value} {cK : Code} {pK : Pos} (quiet0 : (A.over (lp elt x px iter y py iter2 scope pos ce 1 J) [.ret kK hK false lK cK pK []]).handled = none)
    (frA : (A.over (lp elt x px iter y py iter2 scope pos ce 1 J) [.ret kK hK false lK cK pK []]).frames = fr) {D U : Nat} (qd : (A.over (lp elt x px iter y py iter2 scope pos ce 1 J) [.ret kK hK false lK cK pK []]).depth ≤ D) (qu : (A.over (lp elt x px iter y py iter2 scope pos ce 1 J) [.ret kK hK false lK cK pK []]).units ≤ U)
    (Wk : ∀ B : Around, B.handled = none → Walks prog w B J [J] [J] m Dr St) (JC : J ≠ ce.locals) (Jf : J ∉ fs) (Jk : J ∉ keep) (Ck : ce.locals ∉ keep) (bears : Bears Ok ce.locals J fs)
    (kx : ce.kindOf y = some .local) (plain : (ce.scope.kind == .class || (ce.scope.kind == .module && ce.locals != ce.globals)) = false) (noco : ce.scope.isCoroutine = false) (xy : x ≠ y) (eN : N = base + m + rest)
    (hel : ∀ (B : Around) Ex j v (t : Shared) mp, B.handled = none → B.frames = fr → B.depth ≤ D → B.units ≤ U → AllBare t.gens → j < m → Dr j v → Ok t.heap → t.heap.Ns ce.locals mp → mp x = some vx → mp y = some v → wpAny (model prog w) B (eval elt ce) (fun q t' => F (base + j) q ∧ KeptG fs t t') Ex t)
    (fin : ∀ (t0 t : Shared) (mp : Str → Option Value), Ok t.heap → t.heap.Ns ce.locals mp → SinceK keep fs t0 t → Seg (model prog w) A (endN keep fs) (protoN keep fs N F) rest t0 cK (kK (.ok .next)) [] t) :
    ∀ (k j : Nat) (t0 t : Shared) (mp : Str → Option Value), m - j = k → j ≤ m → St j t.heap → Ok t.heap → t.heap.Ns ce.locals mp → mp x = some vx → SinceK keep fs t0 t →
      Seg (model prog w) A (endN keep fs) (protoN keep fs N F) (m - j + rest) t0 (lp elt x px iter y py iter2 scope pos ce 1 J) ((model prog w).den (lp elt x px iter y py iter2 scope pos ce 1 J)) [.ret kK hK false lK cK pK []] t := by
  intro k
  induction k with
  | zero =>
    intro j t0 t mp ek jl st ok ns hx since
    obtain rfl : j = m := by omega
    show Seg _ A _ _ _ t0 _ ((compTurn (gen2 elt x px iter y py iter2 scope pos) 1 (.ref J) .none ce).onRaise _) _ t
    rw [turn1, Sem.onRaise_eq_wrap]
    refine seg_bind_wrap (wpAny_standAt (seg_bind_wrap ((Wk _ quiet0).done t _ _ st fun hp tk stay => ?_)))
    have e0 : j - j + rest = rest := by omega
    rw [e0]
    refine seg_leaf (.ok .next) (fin _ _ mp (bears _ _ ok fun b o _ nJ it => ⟨fun _ => stay b o (by simpa using nJ) it, o.slots, stay b o (by simpa using nJ) it⟩) (ns.at' fun o it => stay _ o (by simpa using (Ne.symm JC)) it) (since.step fun b hb o it => stay b o (fun z => Jk ((List.mem_singleton.mp z) ▸ hb)) it))
  | succ k again =>
    intro j t0 t mp ek jl st ok ns hx since
    have more : j < m := by omega
    show Seg _ A _ _ _ t0 _ ((compTurn (gen2 elt x px iter y py iter2 scope pos) 1 (.ref J) .none ce).onRaise _) _ t
    rw [turn1, Sem.onRaise_eq_wrap]
    refine seg_bind_wrap (wpAny_standAt (seg_bind_wrap ((Wk _ quiet0).item j t _ _ more st fun v ha ta drawn sta ka => ?_)))
    refine seg_bind_wrap (wpAny_of_eq (rfl : letOwnedTupleGo (.Name y py) (.ref J) v = pure ()) ?_)
    refine seg_bind_wrap (wpAny_assign_Name (wpAny_storeName_local kx (ns.at' fun o it => ka _ o (by simpa using (Ne.symm JC)) it) (fun hb nsb sb => ?_) plain))
    have stayB : ∀ b o, b ≠ ce.locals → b ≠ J → t.heap.get? b = some o → hb.get? b = some o := fun b o nc nj it => sb.extBut b o nc (ka b o (by simpa using nj) it)
    have okB : Ok hb := bears _ _ ok fun b o nc nj it => ⟨fun _ => stayB b o nc nj it, o.slots, stayB b o nc nj it⟩
    have stB : St (j + 1) hb := (Wk _ quiet0).frame _ _ _ sta fun b hm o it => sb.extBut b o (fun z => JC (by rw [← z]; exact (List.mem_singleton.mp hm).symm)) it
    have sinceB : ∀ tk : Nat, SinceK keep fs t0 { t with heap := hb, toks := tk } := fun tk => since.step fun b hm o it => stayB b o (fun z => Ck (z ▸ hm)) (fun z => Jk (z ▸ hm)) it
    refine seg_bind_wrap (tests_none ?_)
    simp only [if_true]
    have out : ∀ v, yieldOut ce v = yieldValue v := fun v => by simp only [yieldOut, noco, Bool.false_eq_true, if_false]
    simp only [out]
    (rw [Sem.bind_eq_wrap', Sem.bind_eq_wrap', Sem.wrap_wrap, Sem.wrap_wrap])
    have en : m - j + rest = (m - (j + 1) + rest) + 1 := by omega
    rw [en]
    refine seg_wrap (GenW.wpAny_gsz (n := t.gens.size) (Nat.le_refl _) (wpAny_mono (hel _ _ j v _ _ quiet0 frA qd qu since.bare more drawn okB nsb (by simp [xy, hx]) (by simp)) (fun q td both szd => ?_) fun _ _ z => z))
    obtain ⟨fq, kd⟩ := both
    have okD : Ok td.heap := bears _ _ okB fun b o _ _ it => kd.heap b o it
    have stD : St (j + 1) td.heap := (Wk _ quiet0).frame _ _ _ stB fun b hm o it => (kd.heap b o it).1 (fun z => Jf ((List.mem_singleton.mp hm) ▸ z))
    refine seg_at (seg_yield rfl rfl rfl ⟨?_, (sinceB _).more szd kd, fun u hal bu => ?_⟩)
    · have ei : N - 1 - (m - (j + 1) + rest) = base + j := by omega
      rw [ei]
      exact fq
    · refine seg_again rfl (again (j + 1) u u _ (by omega) more ((Wk _ quiet0).frame _ _ _ stD fun b _ o it => hal b o it) (bears _ _ okD fun b o _ _ it => ⟨fun _ => hal b o it, o.slots, hal b o it⟩)
        ((kd.heap.ns nsb).at' fun o it => hal _ o it) (by simp [xy, hx]) (SinceK.refl bu))
end
end V3
namespace V3
open PySem.Spec PySem L2 PyProof.Rows GxR
section
variable {w : World} {prog : Program} {A : Around}
/-- the inner walk of the outer thing i, made from the state t -/
structure Inner (prog : Program) (w : World) (Dr2 : Nat → Value → Prop) (m : Nat) (fs : List Addr) (t t2 : Shared) (jt : Value) : Prop where
  kept : KeptG fs t t2
  ex : ∃ (J : Addr) (St : Nat → Heap → Prop), jt = .ref J ∧ t.heap.objs.size ≤ J ∧ (∀ B : Around, B.handled = none → Walks prog w B J [J] [J] m Dr2 St) ∧ St 0 t2.heap
theorem seg_two {elt iter iter2 : Expr} {x y : Str} {px py : Pos} {scope : Scope} {pos : Pos} {J : Addr} {ce : Env} {keep fs : List Addr} {n rest base N : Nat} {Dr : Nat → Value → Prop} {St : Nat → Heap → Prop} {F : Nat → Value → Prop} {Ok : Heap → Prop} {vx : Value} {fr : Option (List Env)}
    {kK : Result → Sem PySem.Fin} {hK : Option Value} {lK : List Value} {cK : Code} {pK : Pos} {D U : Nat} (quiet1 : (A.over (lp elt x px iter y py iter2 scope pos ce 1 J) [.ret kK hK false lK cK pK []]).handled = none)
    (quiet0 : (A.over (.compStart (gen2 elt x px iter y py iter2 scope pos) 1 (.ref J) .none ce) [.ret kK hK false lK cK pK []]).handled = none)
    (frA : (A.over (lp elt x px iter y py iter2 scope pos ce 1 J) [.ret kK hK false lK cK pK []]).frames = fr) (qd : (A.over (lp elt x px iter y py iter2 scope pos ce 1 J) [.ret kK hK false lK cK pK []]).depth ≤ D) (qu : (A.over (lp elt x px iter y py iter2 scope pos ce 1 J) [.ret kK hK false lK cK pK []]).units ≤ U)
    (Wk : ∀ B : Around, B.handled = none → Walks prog w B J [J] [J] n Dr St) (JC : J ≠ ce.locals) (Jf : J ∉ fs) (Jk : J ∉ keep) (Ck : ce.locals ∉ keep) (bears : Bears Ok ce.locals J fs)
    (kx : ce.kindOf y = some .local) (plain : (ce.scope.kind == .class || (ce.scope.kind == .module && ce.locals != ce.globals)) = false) (noco : ce.scope.isCoroutine = false) (xy : x ≠ y) (eN : N = base + n + rest)
    (hel : ∀ (B : Around) Ex j v (t : Shared) mp, B.handled = none → B.frames = fr → B.depth ≤ D → B.units ≤ U → AllBare t.gens → j < n → Dr j v → Ok t.heap → t.heap.Ns ce.locals mp → mp x = some vx → mp y = some v → wpAny (model prog w) B (eval elt ce) (fun q t' => F (base + j) q ∧ KeptG fs t t') Ex t)
    (fin : ∀ (t0 t : Shared) (mp : Str → Option Value), Ok t.heap → t.heap.Ns ce.locals mp → SinceK keep fs t0 t → Seg (model prog w) A (endN keep fs) (protoN keep fs N F) rest t0 cK (kK (.ok .next)) [] t)
    (t0 t : Shared) (mp : Str → Option Value) (st : St 0 t.heap) (ok : Ok t.heap) (ns : t.heap.Ns ce.locals mp) (hx : mp x = some vx) (since : SinceK keep fs t0 t) :
      Seg (model prog w) A (endN keep fs) (protoN keep fs N F) (n - 0 + rest) t0 (.compStart (gen2 elt x px iter y py iter2 scope pos) 1 (.ref J) .none ce) ((model prog w).den (.compStart (gen2 elt x px iter y py iter2 scope pos) 1 (.ref J) .none ce)) [.ret kK hK false lK cK pK []] t := by
  have lp' := seg_in (iter := iter) (iter2 := iter2) (px := px) (py := py) (scope := scope) (pos := pos) quiet1 frA qd qu Wk JC Jf Jk Ck bears kx plain noco xy eN hel fin n 0 t0 t mp (Nat.sub_zero _) (Nat.zero_le _) st ok ns hx since
  show Seg _ A _ _ _ t0 _ ((compStart (gen2 elt x px iter y py iter2 scope pos) 1 (.ref J) .none ce).onRaise _) _ t
  unfold compStart
  rw [Sem.onRaise_eq_wrap]
  show Seg _ A _ _ _ t0 _ ((ask >>= _).wrap _ _ _ _) _ t
  (refine seg_bind_wrap (wpAny_askSetting ?_))
  split
  · exact seg_again rfl lp'
  · first
      | exact seg_bind_wrap (wpAny_rule (seg_bind_wrap (wpAny_standAt (seg_bind_wrap ((Wk _ quiet0).self 0 t _ _ st (seg_again rfl lp'))))))
      | (refine seg_bind_wrap (wpAny_rule ?_)
         show Seg _ A _ _ _ t0 _ ((standAt iter2.pos >>= _).wrap _ _ _ _) _ t
         exact seg_bind_wrap (wpAny_standAt (seg_bind_wrap ((Wk _ quiet0).self 0 t _ _ st (seg_again rfl lp')))))
theorem seg_out {elt iter iter2 : Expr} {x y : Str} {px py : Pos} {scope : Scope} {pos : Pos} {I : Addr} {ce : Env} {keep fs : List Addr} {n : Nat} {m base : Nat → Nat} {Dr : Nat → Value → Prop} {Dr2 : Nat → Nat → Value → Prop} {St : Nat → Heap → Prop} {F : Nat → Value → Prop} {G : Heap → Prop} {P2 : Nat → Value → Shared → Prop} {fr : Option (List Env)}
    (quiet0 : A.handled = none) {D U : Nat} (frA : (A.over (lp elt x px iter y py iter2 scope pos ce 0 I) []).frames = fr) (qd : A.depth + 3 ≤ D) (qu : A.units + 9 ≤ U)
    (Wk : ∀ B : Around, B.handled = none → Walks prog w B I [I] [I] n Dr St) (IC : I ≠ ce.locals) (If : I ∉ fs) (Ik : I ∉ keep) (Ck : ce.locals ∉ keep)
    (G1 : ∀ h h' : Heap, G h → (∀ b o, b ∈ keep → h.get? b = some o → (b ∉ fs → h'.get? b = some o) ∧ ∃ sl, h'.get? b = some { o with slots := sl }) → G h') (Glow : ∀ h, G h → ∀ b, b ∈ fs ∨ b ∈ keep → b ≠ ce.locals → b < h.objs.size) (Slow : ∀ i h, St i h → I < h.objs.size)
    (kx : ce.kindOf x = some .local) (ky : ce.kindOf y = some .local) (plain : (ce.scope.kind == .class || (ce.scope.kind == .module && ce.locals != ce.globals)) = false) (noco : ce.scope.isCoroutine = false) (xy : x ≠ y)
    (b0 : base 0 = 0) (bS : ∀ i, base (i + 1) = base i + m i) (fold : ∀ v, foldedSetIterable iter2 ce v = pure v)
    (hin : ∀ (B : Around) Ex i v (t : Shared) mp, B.handled = none → B.frames = fr → B.depth ≤ D → B.units ≤ U → AllBare t.gens → i < n → Dr i v → G t.heap → t.heap.Ns ce.locals mp → mp x = some v → wpAny (model prog w) B (eval iter2 ce) (fun q t1 => KeptG fs t t1 ∧ P2 i q t1) Ex t)
    (hit : ∀ (B : Around) Ex i q (t : Shared), B.handled = none → P2 i q t → AllBare t.gens → wpAny (model prog w) B (pyIter q) (fun jt t2 => Inner prog w (Dr2 i) (m i) fs t t2 jt) Ex t)
    (hel : ∀ (B : Around) Ex i v j u (t : Shared) mp, B.handled = none → B.frames = fr → B.depth ≤ D → B.units ≤ U → AllBare t.gens → i < n → Dr i v → j < m i → Dr2 i j u → G t.heap → t.heap.Ns ce.locals mp → mp x = some v → mp y = some u → wpAny (model prog w) B (eval elt ce) (fun q t' => F (base i + j) q ∧ KeptG fs t t') Ex t) :
    ∀ (k i : Nat) (t0 t : Shared) (mp : Str → Option Value), n - i = k → i ≤ n → St i t.heap → G t.heap → t.heap.Ns ce.locals mp → SinceK keep fs t0 t →
      Seg (model prog w) A (endN keep fs) (protoN keep fs (base n) F) (base n - base i) t0 (lp elt x px iter y py iter2 scope pos ce 0 I) ((model prog w).den (lp elt x px iter y py iter2 scope pos ce 0 I)) [] t := by
  have q0 : (A.over (lp elt x px iter y py iter2 scope pos ce 0 I) []).handled = none := quiet0
  have mono : ∀ k i : Nat, base i ≤ base (i + k) := fun k => by
    induction k with
    | zero => exact fun i => Nat.le_refl _
    | succ k ih =>
      intro i
      have := ih i
      rw [← Nat.add_assoc, bS]
      omega
  intro k
  induction k with
  | zero =>
    intro i t0 t mp ek il st g ns since
    obtain rfl : i = n := by omega
    show Seg _ A _ _ _ t0 _ ((compTurn (gen2 elt x px iter y py iter2 scope pos) 0 (.ref I) .none ce).onRaise _) _ t
    rw [turn0, Sem.onRaise_eq_wrap, Nat.sub_self]
    refine seg_bind_wrap (wpAny_standAt (seg_bind_wrap ((Wk _ q0).done t _ _ st fun hp tk stay => ?_)))
    exact seg_end (.ok .next) ⟨rfl, rfl, since.step fun b hb o it => stay b o (fun z => Ik ((List.mem_singleton.mp z) ▸ hb)) it⟩
  | succ k again =>
    intro i t0 t mp ek il st g ns since
    have more : i < n := by omega
    show Seg _ A _ _ _ t0 _ ((compTurn (gen2 elt x px iter y py iter2 scope pos) 0 (.ref I) .none ce).onRaise _) _ t
    rw [turn0, Sem.onRaise_eq_wrap]
    refine seg_bind_wrap (wpAny_standAt (seg_bind_wrap ((Wk _ q0).item i t _ _ more st fun v ha ta drawn sta ka => ?_)))
    (refine seg_bind_wrap (wpAny_of_eq (rfl : letOwnedTupleGo (.Name x px) (.ref I) v = pure ()) ?_))
    refine seg_bind_wrap (wpAny_assign_Name (wpAny_storeName_local kx (ns.at' fun o it => ka _ o (by simpa using (Ne.symm IC)) it) (fun hb nsb sb => ?_) plain))
    have stayB : ∀ b o, b ≠ ce.locals → b ≠ I → t.heap.get? b = some o → hb.get? b = some o := fun b o nc nj it => sb.extBut b o nc (ka b o (by simpa using nj) it)
    have gB : G hb := G1 _ _ g fun b o hk it => ⟨fun _ => stayB b o (fun z => Ck (z ▸ hk)) (fun z => Ik (z ▸ hk)) it, o.slots, stayB b o (fun z => Ck (z ▸ hk)) (fun z => Ik (z ▸ hk)) it⟩
    have stB : St (i + 1) hb := (Wk _ q0).frame _ _ _ sta fun b hm o it => sb.extBut b o (fun z => IC (by rw [← z]; exact (List.mem_singleton.mp hm).symm)) it
    have sinceB : ∀ tk : Nat, SinceK keep fs t0 { t with heap := hb, toks := tk } := fun tk => since.step fun b hm o it => stayB b o (fun z => Ck (z ▸ hm)) (fun z => Ik (z ▸ hm)) it
    refine seg_bind_wrap (tests_none ?_)
    simp only [if_true]
    have dA : (A.over (lp elt x px iter y py iter2 scope pos ce 0 I) []).depth ≤ D := Nat.le_trans (Nat.le_of_eq rfl) (Nat.le_trans (Nat.le_add_right (A.depth + 1) 2) qd)
    have uA : (A.over (lp elt x px iter y py iter2 scope pos ce 0 I) []).units ≤ U := Nat.le_trans (Nat.le_of_eq rfl) (Nat.le_trans (Nat.le_add_right (A.units + 3) 6) qu)
    refine seg_bind_wrap (GenW.wpAny_gsz (n := t.gens.size) (Nat.le_refl _) (wpAny_mono (hin _ _ i v _ _ q0 frA dA uA since.bare more drawn gB nsb (by simp)) (fun q t1 h1 sz1 => ?_) fun _ _ z => z))
    obtain ⟨k1, p2⟩ := h1
    (refine seg_bind_wrap (wpAny_standAt ?_))
    refine seg_bind_wrap ?_
    show wpAny _ _ (foldedSetIterable iter2 ce q) _ _ t1
    rw [fold]
    refine wpAny_pure ?_
    (refine seg_bind_wrap (wpAny_holding ?_))
    show wpAny _ _ (pyIter q) _ _ t1
    refine GenW.wpAny_gsz (n := t1.gens.size) (Nat.le_refl _) (wpAny_mono (hit _ _ i q t1 q0 p2 k1.bare) (fun jt t2 h2 sz2 => ?_) fun _ _ z => z)
    obtain ⟨k2, J, St2, rfl, fresh, W2, st20⟩ := h2
    have fresh : t1.heap.objs.size ≤ (J : Nat) := fresh
    have g1 : G t1.heap := G1 _ _ gB fun b o _ it => k1.heap b o it
    have g2 : G t2.heap := G1 _ _ g1 fun b o _ it => k2.heap b o it
    have Wf : ∀ h h' : Heap, St (i + 1) h → (∀ b o, b = I → h.get? b = some o → h'.get? b = some o) → St (i + 1) h' := fun h h' s e => (Wk _ q0).frame _ _ _ s fun b hm o it => e b o (List.mem_singleton.mp hm) it
    have st1 : St (i + 1) t1.heap := Wf _ _ stB fun b o e it => (k1.heap b o it).1 (fun z => If (e ▸ z))
    have st2 : St (i + 1) t2.heap := Wf _ _ st1 fun b o e it => (k2.heap b o it).1 (fun z => If (e ▸ z))
    have ns1 := k1.heap.ns nsb
    have ns2 := k2.heap.ns ns1
    have JC : J ≠ ce.locals := fun z => by
      obtain ⟨o, es, ep, at_, dat, more⟩ := ns1
      have lt := Heap.lt_size at_
      exact absurd lt (Nat.not_lt.mpr (z ▸ fresh))
    have JI : J ≠ I := fun z => by
      exact absurd (Slow _ _ st1) (Nat.not_lt.mpr (z ▸ fresh))
    have Jf : J ∉ fs := fun z => by
      exact absurd (Glow _ g1 _ (.inl z) JC) (Nat.not_lt.mpr fresh)
    have Jk : J ∉ keep := fun z => by
      exact absurd (Glow _ g1 _ (.inr z) JC) (Nat.not_lt.mpr fresh)
    have le : base (i + 1) ≤ base n := by
      have := mono (n - (i + 1)) (i + 1)
      have e : i + 1 + (n - (i + 1)) = n := by omega
      rwa [e] at this
    have eb := bS i
    have cnt : base n - base i = m i - 0 + (base n - base (i + 1)) := by omega
    rw [cnt, Sem.bind_eq_wrap', Sem.wrap_wrap]
    unfold runOwn
    refine seg_call fun p => ?_
    refine seg_two (n := m i) (base := base i) (N := base n) (rest := base n - base (i + 1)) (Dr := Dr2 i) (St := St2) (F := F) (Ok := fun h => G h ∧ St (i + 1) h) (vx := v) (fr := fr) (D := D) (U := U) ?_ ?_ ?_ ?_ ?_ W2 JC Jf Jk Ck (fun h h' ok e => ⟨?_, ?_⟩) ky plain noco xy ?_ ?_ ?_ t0 t2 _ st20 ⟨g2, st2⟩ ns2 (by simp) (((sinceB _).more sz1 k1).more sz2 k2)
    · exact quiet0
    · exact quiet0
    · exact frA
    · refine Nat.le_trans (Nat.le_of_eq ?_) (Nat.le_trans (Nat.le_add_right (A.depth + 1) 2) qd)
      rfl
    · refine Nat.le_trans (Nat.le_of_eq ?_) (Nat.le_trans (Nat.le_add_right (A.units + 3) 6) qu)
      rfl
    · exact G1 _ _ ok.1 fun b o hk it => e b o (fun z => Ck (z ▸ hk)) (fun z => Jk (z ▸ hk)) it
    · exact Wf _ _ ok.2 fun b o eI it => (e b o (fun z => IC (eI.symm.trans z)) (fun z => JI (z.symm.trans eI)) it).1 (fun z => If (eI ▸ z))
    · omega
    · exact fun B Ex j u t' mp' hq hf hd hu hb jl dr ok n' hx hy => hel B Ex i v j u t' mp' hq hf hd hu hb more drawn jl dr ok.1 n' hx hy
    · exact fun t0' t' mp' ok n' since' => seg_again rfl (again (i + 1) t0' t' mp' (by omega) more ok.2 ok.1 n' since')
end
end V3
/-! A generator expression with two fors, walked from outside. -/
namespace V3
open PySem.Spec PySem L2 PyProof.Rows GxR
theorem SinceK.trans {keep fs : List Addr} {t t1 t2 : Shared} (p : SinceK keep fs t t1) (q : SinceK keep fs t1 t2) : SinceK keep fs t t2 :=
  ⟨q.os.trans p.os, q.bare, Nat.le_trans p.size q.size, fun b hb o it => by
    obtain ⟨p1, sl, p2⟩ := p.heap b hb o it
    obtain ⟨_, sl2, q2⟩ := q.heap b hb _ p2
    exact ⟨fun nf => (q.heap b hb o (p1 nf)).1 nf, sl2, q2⟩⟩
/-- what the maker knows of the two walks and of the element -/
structure Two (prog : Program) (w : World) (ce : Env) (elt iter2 : Expr) (x y : Str) (keep fs : List Addr) (n : Nat) (m base : Nat → Nat) (Dr : Nat → Value → Prop) (Dr2 : Nat → Nat → Value → Prop) (P2 : Nat → Value → Shared → Prop) (F : Nat → Value → Prop) (G : Heap → Prop) (fr : Option (List Env)) (D U : Nat) : Prop where
  G1 : ∀ h h' : Heap, G h → (∀ b o, b ∈ keep → h.get? b = some o → (b ∉ fs → h'.get? b = some o) ∧ ∃ sl, h'.get? b = some { o with slots := sl }) → G h'
  Glow : ∀ h, G h → ∀ b, b ∈ fs ∨ b ∈ keep → b ≠ ce.locals → b < h.objs.size
  hin : ∀ (B : Around) Ex i v (t : Shared) mp, B.handled = none → B.frames = fr → B.depth ≤ D → B.units ≤ U → AllBare t.gens → i < n → Dr i v → G t.heap → t.heap.Ns ce.locals mp → mp x = some v → wpAny (model prog w) B (eval iter2 ce) (fun q t1 => KeptG fs t t1 ∧ P2 i q t1) Ex t
  hit : ∀ (B : Around) Ex i q (t : Shared), B.handled = none → P2 i q t → AllBare t.gens → wpAny (model prog w) B (pyIter q) (fun jt t2 => Inner prog w (Dr2 i) (m i) fs t t2 jt) Ex t
  hel : ∀ (B : Around) Ex i v j u (t : Shared) mp, B.handled = none → B.frames = fr → B.depth ≤ D → B.units ≤ U → AllBare t.gens → i < n → Dr i v → j < m i → Dr2 i j u → G t.heap → t.heap.Ns ce.locals mp → mp x = some v → mp y = some u → wpAny (model prog w) B (eval elt ce) (fun q t' => F (base i + j) q ∧ KeptG fs t t') Ex t
section
variable {w : World} {prog : Program} {A : Around}
abbrev st2 (elt : Expr) (x : Str) (px : Pos) (iter : Expr) (y : Str) (py : Pos) (iter2 : Expr) (scope : Scope) (pos : Pos) (ce : Env) (I : Addr) : Code := .compStart (gen2 elt x px iter y py iter2 scope pos) 0 (.ref I) .none ce
theorem seg_first {elt iter iter2 : Expr} {x y : Str} {px py : Pos} {scope : Scope} {pos : Pos} {I : Addr} {ce : Env} {keep fs : List Addr} {n : Nat} {m base : Nat → Nat} {Dr : Nat → Value → Prop} {Dr2 : Nat → Nat → Value → Prop} {St : Nat → Heap → Prop} {F : Nat → Value → Prop} {G : Heap → Prop} {P2 : Nat → Value → Shared → Prop} {fr : Option (List Env)}
    (quiet0 : A.handled = none) {D U : Nat} (frA : (A.over (lp elt x px iter y py iter2 scope pos ce 0 I) []).frames = fr) (qd : A.depth + 3 ≤ D) (qu : A.units + 9 ≤ U)
    (Wk : ∀ B : Around, B.handled = none → Walks prog w B I [I] [I] n Dr St) (IC : I ≠ ce.locals) (If : I ∉ fs) (Ik : I ∉ keep) (Ck : ce.locals ∉ keep) (Slow : ∀ i h, St i h → I < h.objs.size)
    (kx : ce.kindOf x = some .local) (ky : ce.kindOf y = some .local) (plain : (ce.scope.kind == .class || (ce.scope.kind == .module && ce.locals != ce.globals)) = false) (noco : ce.scope.isCoroutine = false) (xy : x ≠ y)
    (b0 : base 0 = 0) (bS : ∀ i, base (i + 1) = base i + m i) (fold : ∀ v, foldedSetIterable iter2 ce v = pure v) (T : Two prog w ce elt iter2 x y keep fs n m base Dr Dr2 P2 F G fr D U)
    (t0 t : Shared) (mp : Str → Option Value) (st : St 0 t.heap) (g : G t.heap) (ns : t.heap.Ns ce.locals mp) (since : SinceK keep fs t0 t) :
    Seg (model prog w) A (endN keep fs) (protoN keep fs (base n) F) (base n) t0 (st2 elt x px iter y py iter2 scope pos ce I) ((model prog w).den (st2 elt x px iter y py iter2 scope pos ce I)) [] t := by
  have q0 : (A.over (st2 elt x px iter y py iter2 scope pos ce I) []).handled = none := quiet0
  have lp' := seg_out (iter := iter) (px := px) (py := py) (scope := scope) (pos := pos) quiet0 frA qd qu Wk IC If Ik Ck T.G1 T.Glow Slow kx ky plain noco xy b0 bS fold T.hin T.hit T.hel n 0 t0 t mp (Nat.sub_zero _) (Nat.zero_le _) st g ns since
  rw [b0, Nat.sub_zero] at lp'
  show Seg _ A _ _ _ t0 _ ((compStart (gen2 elt x px iter y py iter2 scope pos) 0 (.ref I) .none ce).onRaise _) _ t
  unfold compStart
  rw [Sem.onRaise_eq_wrap]
  show Seg _ A _ _ _ t0 _ ((ask >>= _).wrap _ _ _ _) _ t
  (refine seg_bind_wrap (wpAny_askSetting ?_))
  split
  · exact seg_again rfl lp'
  · first
      | exact seg_bind_wrap (wpAny_rule (seg_bind_wrap (wpAny_standAt (seg_bind_wrap ((Wk _ q0).self 0 t _ _ st (seg_again rfl lp'))))))
      | (refine seg_bind_wrap (wpAny_rule ?_)
         show Seg _ A _ _ _ t0 _ ((standAt iter.pos >>= _).wrap _ _ _ _) _ t
         exact seg_bind_wrap (wpAny_standAt (seg_bind_wrap ((Wk _ q0).self 0 t _ _ st (seg_again rfl lp')))))
/-- the generator at a, number g, before its j-th thing of N -/
def AtN (prog : Program) (w : World) (A : Around) (a : Addr) (g : Nat) (keep fs : List Addr) (N : Nat) (F : Nat → Value → Prop) (j : Nat) (t : Shared) : Prop :=
  t.heap.IsGen a g ∧ t.heap.NoLimit ∧ AllBare t.gens ∧ ∃ gs, t.gens[g]? = some gs ∧ ∀ u : Shared, (∀ b o, t.heap.get? b = some o → u.heap.get? b = some o) → AllBare u.gens →
    gs.Goes (model prog w) A.in1 (endN keep fs) (protoN keep fs N F) (N - j) (.send .none) u
structure WalksN (prog : Program) (w : World) (A : Around) (a : Addr) (keep fs : List Addr) (N : Nat) (F : Nat → Value → Prop) (St : Nat → Shared → Prop) : Prop where
  item : ∀ i (t : Shared) (Q : Option Value → Shared → Prop) (E : Value → Shared → Prop), i < N → St i t → (∀ v t', F i v → St (i + 1) t' → SinceK keep fs t t' → Q (some v) t') → wpAny (model prog w) A (pyNext (.ref a)) Q E t
  done : ∀ (t : Shared) (Q : Option Value → Shared → Prop) (E : Value → Shared → Prop), St N t → (∀ t', SinceK keep fs t t' → Q none t') → wpAny (model prog w) A (pyNext (.ref a)) Q E t
  self : ∀ (t : Shared) (Q : Value → Shared → Prop) (E : Value → Shared → Prop), St 0 t → Q (.ref a) t → wpAny (model prog w) A (pyIter (.ref a)) Q E t
theorem walksN (quiet0 : A.handled = none) (a : Addr) (g : Nat) (keep fs : List Addr) (N : Nat) (F : Nat → Value → Prop) (ak : a ∈ keep) (af : a ∉ fs) (room : A.depth < recursionLimit) (ck : cStatics ∈ keep) (cf : cStatics ∉ fs) :
    WalksN prog w A a keep fs N F (AtN prog w A a g keep fs N F) where
  item := fun j t Q E jl st want => by
    obtain ⟨gen, lim, bare, gs, at_, goes⟩ := st
    obtain ⟨r, hr⟩ : ∃ r, N - j = r + 1 := ⟨N - j - 1, by omega⟩
    rw [hr] at goes
    have gl : g < t.gens.size := (Array.getElem?_eq_some_iff.mp at_).1
    refine wpAny_pyNext_genexpQ (P := fun k t0 t1 => k = 0 ∧ SinceK keep fs t0 t1) quiet0 lim room gen at_ (goes _ (fun _ _ it => it) (bare_set bare rfl)) (fun v t1 gs1 b1 told => ?_) (fun t1 ended hp keep => ?_)
    · obtain ⟨fv, since, go⟩ := told
      rw [show N - 1 - (r + 1 - 1) = j by omega] at fv
      have big := since.size
      rw [set_size] at big
      have gl1 : g < t1.gens.size := Nat.lt_of_lt_of_le gl big
      have g1 : (t1.setGen g gs1).gens[g]? = some gs1 := set_at gl1
      obtain ⟨o, nm, qn, ho, more⟩ := gen
      obtain ⟨mc, nsc, nol⟩ := lim
      refine want v _ fv ⟨⟨o, nm, qn, (since.heap a ak o ho).1 af, more⟩, ⟨mc, nsc.at' fun o it => (since.heap cStatics ck o it).1 cf, nol⟩, bare_set since.bare b1, gs1, g1, fun u hal bu => ?_⟩
        ⟨since.os, bare_set since.bare b1, by rw [set_size]; exact big, fun b hb o it => since.heap b hb o it⟩
      rw [show N - (j + 1) = r by omega]
      exact go u hal bu
    · exact absurd ended.1 (Nat.succ_ne_zero r)
  done := fun t Q E st want => by
    obtain ⟨gen, lim, bare, gs, at_, goes⟩ := st
    rw [Nat.sub_self] at goes
    refine wpAny_pyNext_genexpQ (P := fun k t0 t1 => k = 0 ∧ SinceK keep fs t0 t1) quiet0 lim room gen at_ (goes _ (fun _ _ it => it) (bare_set bare rfl)) (fun v t1 gs1 b1 told => ?_) (fun t1 ended hp kp => ?_)
    · obtain ⟨_, since, go⟩ := told
      exact (go t1 (fun _ _ it => it) since.bare).elim
    · obtain ⟨_, since⟩ := ended
      have big := since.size
      rw [set_size] at big
      exact want _ ⟨since.os, bare_set since.bare rfl, by show t.gens.size ≤ (t1.setGen g .finished).gens.size; rw [set_size]; exact big, fun b hb o it => by
        obtain ⟨p1, sl, p2⟩ := since.heap b hb o it
        exact ⟨fun nf => kp b o (p1 nf), sl, kp b _ p2⟩⟩
  self := fun _ _ _ st want => wpAny_pyIter_gen st.1 want
theorem WalksN.down {I : Addr} {keep fs : List Addr} {n : Nat} {P : Nat → Value → Prop} {St : Nat → Shared → Prop} (Wk : WalksN prog w A.in1 I keep fs n P St) : WalksN prog w A I keep fs n P St :=
  ⟨fun i t Q E il st k => wpAny_of_in1 (Wk.item i t Q E il st k), fun t Q E st k => wpAny_of_in1 (Wk.done t Q E st k), fun t Q E st k => wpAny_of_in1 (Wk.self t Q E st k)⟩
theorem WalksN.in4 {I : Addr} {keep fs : List Addr} {n : Nat} {P : Nat → Value → Prop} {St : Nat → Shared → Prop} (Wk : WalksN prog w A.in4 I keep fs n P St) : WalksN prog w A.in1 I keep fs n P St :=
  WalksN.down (A := A.in1) (WalksN.down (A := A.in1.in1) (WalksN.down (A := A.in1.in1.in1) Wk))
/-- all(..) over such a walk of truths -/
theorem all_loopN {I : Addr} {keep fs : List Addr} {n : Nat} {P : Nat → Value → Prop} {St : Nat → Shared → Prop} {R : Result → Shared → Prop} (Wk : WalksN prog w A.in1 I keep fs n P St) (tr : Nat → Bool) (isB : ∀ i v, P i v → v = .bool (tr i)) :
    ∀ (k i : Nat) (t : Shared), n - i = k → i ≤ n → St i t → (∀ t', SinceK keep fs t t' → R (.ok (.ret (.bool (((List.range n).drop i).all tr)))) t') → codeAny (model prog w) A (.builtin "all.loop" ⟨[.ref I], []⟩) R t := by
  intro k
  induction k with
  | zero =>
    intro i t ek il st want
    obtain rfl : i = n := by omega
    (refine codeAny_builtin F.entry_all_loop ?_)
    (rw [Around.under_plainId F.plain_all_loop _])
    show wpAny _ A.in1 (pyNext (.ref I) >>= _) _ _ t
    refine wpAny_bind (Wk.done t _ _ st fun t' mv => wpAny_bind (wpAny_rule (wpAny_pure ?_)))
    have z := want t' mv
    rw [List.drop_of_length_le (Nat.le_of_eq List.length_range)] at z
    exact z
  | succ k again =>
    intro i t ek il st want
    have lt : i < n := by omega
    have cut : (List.range n).drop i = i :: (List.range n).drop (i + 1) := range_drop lt
    (refine codeAny_builtin F.entry_all_loop ?_)
    (rw [Around.under_plainId F.plain_all_loop _])
    show wpAny _ A.in1 (pyNext (.ref I) >>= _) _ _ t
    refine wpAny_bind (Wk.item i t _ _ lt st fun v t' pv st' mv => ?_)
    rw [isB i v pv]
    (refine wpAny_bind (wpAny_holding (wpAny_truthy_bool ?_)))
    (refine wpAny_bind (wpAny_letGo ?_))
    rw [cut] at want
    cases eb : tr i with
    | true =>
      simp only [if_true]
      refine wpAny_pure ⟨plainId_quiet F.plain_all_loop _, again (i + 1) _ (by omega) lt st' fun t2 mv2 => ?_⟩
      have z := want t2 (mv.trans mv2)
      rw [List.all_cons, eb, Bool.true_and] at z
      exact z
    | false =>
      simp only [Bool.false_eq_true, if_false, ite_false]
      (refine wpAny_bind (wpAny_rule (wpAny_pure ?_)))
      have z := want t' mv
      rw [List.all_cons, eb, Bool.false_and] at z
      exact z
theorem call_allN {E : Value → Shared → Prop} {s : Shared} {x : Value} {Q : Value → Shared → Prop}
    (h : wpAny (model prog w) A.in1 (pyIter x) (fun it t => ∃ I keep fs n P St tr, it = .ref I ∧ WalksN prog w A.in1 I keep fs n P St ∧ St 0 t ∧ (∀ i v, P i v → v = .bool (tr i)) ∧ ∀ t', SinceK keep fs t t' → Q (.bool ((List.range n).all tr)) t') E s) :
    (wpAny (model prog w) A (call (.builtin "all") [x]) Q E s) := by
  (refine call_function_tree F.kind_all F.plain_all F.entry_all (F.args_all1 _) ?_)
  unfold Builtin.«all»
  (refine wpAny_bind (m := oneArg "all" _) (wpAny_pure ?_))
  refine wpAny_bind (wpAny_mono h (fun it t ht => ?_) fun _ _ z => z)
  obtain ⟨I, keep, fs, n, P, St, tr, rfl, Wk, st, isB, want⟩ := ht
  exact wpAny_pure ⟨plainId_quiet F.plain_all_loop _, all_loopN Wk tr isB n 0 t rfl (Nat.zero_le _) st fun t' mv => by simpa using want t' mv⟩
end
end V3
/-! The making of a generator expression with two fors. -/
namespace V3
open PySem.Spec PySem L2 PyProof.Rows GxR
section
variable {w : World} {prog : Program} {A : Around} {E : Value → Shared → Prop} {s : Shared}
theorem eval_gen2 (elt : Expr) (x : Str) (px : Pos) (iter : Expr) (y : Str) (py : Pos) (iter2 : Expr) (scope : Scope) (pos : Pos) (env : Env) (noco : scope.isCoroutine = false) :
    eval (gen2 elt x px iter y py iter2 scope pos) env = (eval iter env >>= fun a => standAt iter.pos >>= fun _ => genFold iter env a >>= fun b => holding [b] (pyIter b) >>= fun it => enterFrame >>= fun _ =>
      closureFor scope env >>= fun cl => genexprCode env pos (env.qual ++ "<genexpr>") scope >>= fun code => builtinsFor env.globals env.builtins >>= fun bi =>
      newFunctionEnv scope env.globals cl [(".0", it)] (env.qual ++ "<genexpr>.") none code none bi >>= fun ce => newGenerator (.compStart (gen2 elt x px iter y py iter2 scope pos) 0 it .none ce) "<genexpr>" (env.qual ++ "<genexpr>")) := by
  unfold gen2
  rw [arm_eval_GeneratorExp]
  simp only [noco, Bool.false_eq_true, if_false]
  cases iter <;> rfl
theorem make2 {env : Env} {elt iter iter2 : Expr} {x y : Str} {px py : Pos} {scope : Scope} {cl : List (Str × Addr)} {pos : Pos} {Q : Value → Shared → Prop}
    (noco : scope.isCoroutine = false) (clo : closureFor scope env = pure cl) (nocell : ∀ z ∈ scope.names, z.2 ≠ .cell) (dot0 : scope.names.lookup (".0" : Str) = some NameKind.local) (kd : scope.kind = .function) (room : A.depth < recursionLimit)
    (h : wpAny (model prog w) A (eval iter env) (fun xv t1 => wpAny (model prog w) A (pyIter xv) (fun it t2 => t2.heap.NoLimit ∧
      wpAny (model prog w) A (genexprCode env pos (env.qual ++ "<genexpr>") scope) (fun code t3 => wpAny (model prog w) A (builtinsFor env.globals env.builtins) (fun bi t4 =>
        ∀ hp, hp.Ns t4.heap.objs.size (fun z => if z = ".0" then some it else none) → Heap.SameBut t4.heap.objs.size (t4.heap.push { cls := .type "frame", data := .dict #[] }) hp →
          Q (.ref hp.objs.size) { t4 with gens := t4.gens.push (.fresh (.compStart (gen2 elt x px iter y py iter2 scope pos) 0 it .none (genEnv scope cl t4.heap.objs.size code bi env))), toks := t4.toks + 1 + 1 + 1, heap := hp.push { cls := .type "generator", data := .fields #[.int t4.gens.size 0, .str "<genexpr>" (t4.toks + 1), .str (env.qual ++ "<genexpr>") (t4.toks + 1 + 1)] } }) E t3) E t2) E t1) E s)
    (nofold : ∀ v, genFold iter env v = pure v) : wpAny (model prog w) A (eval (gen2 elt x px iter y py iter2 scope pos) env) Q E s := by
  rw [eval_gen2 _ _ _ _ _ _ _ _ _ _ noco, clo]
  refine wpAny_bind (wpAny_mono h (fun xv t1 a1 => ?_) fun _ _ z => z)
  refine wpAny_bind (wpAny_standAt (wpAny_bind (wpAny_of_eq (nofold xv) (wpAny_bind (wpAny_holding (wpAny_mono a1 (fun it t2 a2 => ?_) fun _ _ z => z))))))
  refine wpAny_bind (wpAny_enterFrame a2.1 room (wpAny_bind (wpAny_pure (wpAny_bind (wpAny_mono a2.2 (fun code t3 a3 => wpAny_bind (wpAny_mono a3 (fun bi t4 a4 => ?_) fun _ _ z => z)) fun _ _ z => z)))))
  have loc : ∀ z ∈ ([((".0" : Str), it)] : List (Str × Value)), scope.names.lookup z.1 = some NameKind.local := fun z hz => by
    rw [List.mem_singleton.mp hz]
    exact dot0
  refine wpAny_bind (wpAny_newFunctionEnv nocell loc (fun hp n same => ?_) kd)
  have same1 : (fun z : Str => ([((".0" : Str), it)] : List (Str × Value)).reverse.lookup z) = fun z : Str => if z = (".0" : Str) then some it else none := by
    funext z
    by_cases e : z = ".0"
    · rw [e]
      simp
    · have b : (z == (".0" : Str)) = false := by simpa using e
      simp [List.lookup, b, e]
  rw [same1] at n
  (simp only [newGenerator, newFields])
  exact wpAny_bind (wpAny_newGen (wpAny_bind (wpAny_mkText (wpAny_bind (wpAny_mkText (wpAny_newObj_type (a4 hp n same) (by size_fits)))))))
end
end V3
namespace V3
open PySem.Spec PySem L2 PyProof.Rows GxR
/-- of the heap ref all but I stands, of the frames fs all but the slots -/
def KT (ref : Heap) (I : Addr) (fs : List Addr) (h : Heap) : Prop := ∀ b o, b ≠ I → ref.get? b = some o → (b ∉ fs → h.get? b = some o) ∧ ∃ sl, h.get? b = some { o with slots := sl }
def live (h : Heap) (I : Addr) : List Addr := (List.range h.objs.size).filter fun b => b != I && (h.get? b).isSome
theorem mem_live {h : Heap} {I b : Addr} : b ∈ live h I ↔ b ≠ I ∧ ∃ o, h.get? b = some o := by
  unfold live
  rw [List.mem_filter, List.mem_range, Bool.and_eq_true, bne_iff_ne, Option.isSome_iff_exists]
  exact ⟨fun z => z.2, fun z => ⟨by obtain ⟨_, o, e⟩ := z; exact Heap.lt_size e, z⟩⟩
section
variable {w : World} {prog : Program} {A : Around} {E : Value → Shared → Prop} {s : Shared}
theorem AtN.fresh {elt iter iter2 : Expr} {x y : Str} {px py : Pos} {scope : Scope} {pos : Pos} {I a : Addr} {g : Nat} {ce : Env} {keep fs : List Addr} {n : Nat} {m base : Nat → Nat} {Dr : Nat → Value → Prop} {Dr2 : Nat → Nat → Value → Prop} {St : Nat → Heap → Prop} {F : Nat → Value → Prop} {P2 : Nat → Value → Shared → Prop} {fr : Option (List Env)} {G : Heap → Prop}
    (quiet0 : A.handled = none) {D U : Nat} (frA : (A.in1.over (lp elt x px iter y py iter2 scope pos ce 0 I) []).frames = fr) (qd : A.depth + 3 ≤ D) (qu : A.units + 10 ≤ U)
    (Wk : ∀ B : Around, B.handled = none → Walks prog w B I [I] [I] n Dr St) (IC : I ≠ ce.locals) (If : I ∉ fs) (Ik : I ∉ keep) (Ck : ce.locals ∉ keep) (Slow : ∀ i h, St i h → I < h.objs.size)
    (kx : ce.kindOf x = some .local) (ky : ce.kindOf y = some .local) (plain : (ce.scope.kind == .class || (ce.scope.kind == .module && ce.locals != ce.globals)) = false) (noco : ce.scope.isCoroutine = false) (xy : x ≠ y)
    (b0 : base 0 = 0) (bS : ∀ i, base (i + 1) = base i + m i) (fold : ∀ v, foldedSetIterable iter2 ce v = pure v) (T : Two prog w ce elt iter2 x y keep fs n m base Dr Dr2 P2 F G fr D U)
    {t : Shared} {mp : Str → Option Value} (gen : t.heap.IsGen a g) (new : t.gens[g]? = some (.fresh (st2 elt x px iter y py iter2 scope pos ce I))) (st : St 0 t.heap) (ns : t.heap.Ns ce.locals mp) (lim : t.heap.NoLimit) (bare : AllBare t.gens)
    (gt : ∀ h : Heap, (∀ b o, t.heap.get? b = some o → h.get? b = some o) → G h) : AtN prog w A a g keep fs (base n) F 0 t :=
  ⟨gen, lim, bare, _, new, fun u hal bu => ⟨rfl, seg_first (A := A.in1) quiet0 frA qd (by show A.units + 1 + 9 ≤ U; omega) Wk IC If Ik Ck Slow kx ky plain noco xy b0 bS fold T u u mp ((Wk A quiet0).frame _ _ _ st fun b _ o it => hal b o it) (gt _ hal) (ns.at' fun o it => hal _ o it) (SinceK.refl bu)⟩⟩
/-- what the maker of such a generator has to know, behind the code object and the builtins -/
def MadeN (prog : Program) (w : World) (A : Around) (env : Env) (elt iter : Expr) (x : Str) (px : Pos) (y : Str) (py : Pos) (iter2 : Expr) (scope : Scope) (cl : List (Str × Addr)) (pos : Pos) (Q : Value → Shared → Prop) (it code : Value) (bi : Addr) (t : Shared) : Prop :=
  AllBare t.gens ∧ ∃ (I : Addr) (fs : List Addr) (n : Nat) (m base : Nat → Nat) (Dr : Nat → Value → Prop) (Dr2 : Nat → Nat → Value → Prop) (P2 : Nat → Value → Shared → Prop) (St : Nat → Heap → Prop) (F : Nat → Value → Prop), it = .ref I ∧ (∀ B : Around, B.handled = none → Walks prog w B I [I] [I] n Dr St) ∧ St 0 t.heap ∧
    (∀ i h, St i h → I < h.objs.size) ∧ t.heap.NoLimit ∧ cStatics ≠ I ∧ (∀ b ∈ fs, b = t.heap.objs.size ∨ ∃ o, t.heap.get? b = some o) ∧ I ∉ fs ∧ cStatics ∉ fs ∧ base 0 = 0 ∧ (∀ i, base (i + 1) = base i + m i) ∧ (∀ v, foldedSetIterable iter2 (genEnv scope cl t.heap.objs.size code bi env) v = pure v) ∧
    (∀ (B : Around) Ex i v (u : Shared) mp, B.handled = none → B.frames = (A.in4.in1.over (lp elt x px iter y py iter2 scope pos (genEnv scope cl t.heap.objs.size code bi env) 0 I) []).frames → B.depth ≤ A.depth + 3 → B.units ≤ A.units + 14 → AllBare u.gens → i < n → Dr i v → KT t.heap I fs u.heap → u.heap.Ns t.heap.objs.size mp → mp x = some v →
      wpAny (model prog w) B (eval iter2 (genEnv scope cl t.heap.objs.size code bi env)) (fun q t1 => KeptG fs u t1 ∧ P2 i q t1) Ex u) ∧
    (∀ (B : Around) Ex i q (u : Shared), B.handled = none → P2 i q u → AllBare u.gens → wpAny (model prog w) B (pyIter q) (fun jt t2 => Inner prog w (Dr2 i) (m i) fs u t2 jt) Ex u) ∧
    (∀ (B : Around) Ex i v j z (u : Shared) mp, B.handled = none → B.frames = (A.in4.in1.over (lp elt x px iter y py iter2 scope pos (genEnv scope cl t.heap.objs.size code bi env) 0 I) []).frames → B.depth ≤ A.depth + 3 → B.units ≤ A.units + 14 → AllBare u.gens → i < n → Dr i v → j < m i → Dr2 i j z → KT t.heap I fs u.heap → u.heap.Ns t.heap.objs.size mp → mp x = some v → mp y = some z →
      wpAny (model prog w) B (eval elt (genEnv scope cl t.heap.objs.size code bi env)) (fun q t1 => F (base i + j) q ∧ KeptG fs u t1) Ex u) ∧
    ∀ a hp tk gs keep, gs.bare = true → t.heap.objs.size < a → hp.objs.size = a + 1 → (∀ b o, t.heap.get? b = some o → hp.get? b = some o) → (∀ b o, b ≠ I → t.heap.get? b = some o → b ∈ keep) →
      WalksN prog w A.in4 a keep fs (base n) F (AtN prog w A.in4 a t.gens.size keep fs (base n) F) →
      AtN prog w A.in4 a t.gens.size keep fs (base n) F 0 { t with gens := t.gens.push gs, toks := tk, heap := hp } → Q (.ref a) { t with gens := t.gens.push gs, toks := tk, heap := hp }
theorem genexpN {env : Env} {elt iter iter2 : Expr} {x y : Str} {px py : Pos} {scope : Scope} {cl : List (Str × Addr)} {pos : Pos} {Q : Value → Shared → Prop}
    (quiet0 : A.handled = none) (noco : scope.isCoroutine = false) (clo : closureFor scope env = pure cl) (nocell : ∀ z ∈ scope.names, z.2 ≠ .cell) (dot0 : scope.names.lookup (".0" : Str) = some NameKind.local)
    (kx : scope.names.lookup x = some .local) (ky : scope.names.lookup y = some .local) (xy : x ≠ y) (kd : scope.kind = .function) (room : A.depth < recursionLimit)
    (h : wpAny (model prog w) A (eval iter env) (fun xv t1 => wpAny (model prog w) A (pyIter xv) (fun it t2 => t2.heap.NoLimit ∧
      wpAny (model prog w) A (genexprCode env pos (env.qual ++ "<genexpr>") scope) (fun code t3 => wpAny (model prog w) A (builtinsFor env.globals env.builtins) (fun bi t4 => MadeN prog w A env elt iter x px y py iter2 scope cl pos Q it code bi t4) E t3) E t2) E t1) E s)
    (nofold : ∀ v, genFold iter env v = pure v) : wpAny (model prog w) A (eval (gen2 elt x px iter y py iter2 scope pos) env) Q E s := by
  refine make2 noco clo nocell dot0 kd room (wpAny_mono h (fun xv t1 a1 => wpAny_mono a1 (fun it t2 a2 => ⟨a2.1, wpAny_mono a2.2 (fun code t3 a3 => wpAny_mono a3 (fun bi t4 a4 => ?_) fun _ _ z => z) fun _ _ z => z⟩) fun _ _ z => z) fun _ _ z => z) nofold
  obtain ⟨bare, I, fs, n, m, base, Dr, Dr2, P2, St, F, rfl, Wk, st, slow, lim, csI, liveF, If, csF, b0, bS, fold, hin, hit, hel, want⟩ := a4
  have csAt : ∃ o, t4.heap.get? cStatics = some o := by
    obtain ⟨_, q, _⟩ := lim
    obtain ⟨o, _, _, at_, _⟩ := q
    exact ⟨o, at_⟩
  intro hp nsp same
  have sz : hp.objs.size = t4.heap.objs.size + 1 := by rw [same.1, Heap.size_push]
  have ne5 : ∀ b o, t4.heap.get? b = some o → hp.get? b = some o := fun b o it => same.extBut b o (Nat.ne_of_lt (Heap.lt_size it)) (Heap.get?_push_of_some _ it)
  have keep5 : ∀ b o, t4.heap.get? b = some o → (hp.push { cls := .type "generator", data := .fields #[.int t4.gens.size 0, .str "<genexpr>" (t4.toks + 1), .str (env.qual ++ "<genexpr>") (t4.toks + 1 + 1)] }).get? b = some o :=
    fun b o it => Heap.get?_push_of_some _ (ne5 b o it)
  have IL : I < t4.heap.objs.size := slow _ _ st
  have aF : hp.objs.size ∉ fs := fun z => by
    rcases liveF _ z with e | ⟨o, e⟩
    · rw [sz] at e
      exact Nat.succ_ne_self _ e
    · have lt := Heap.lt_size e
      rw [sz] at lt
      exact Nat.lt_irrefl _ (Nat.lt_of_succ_lt lt)
  have aI : hp.objs.size ≠ I := fun z => by
    rw [← z, sz] at IL
    exact Nat.lt_irrefl _ (Nat.lt_of_succ_lt IL)
  have inK : ∀ b o, b ≠ I → t4.heap.get? b = some o → b ∈ hp.objs.size :: live t4.heap I := fun b o ne it => List.mem_cons_of_mem _ (mem_live.mpr ⟨ne, o, it⟩)
  have Ck : t4.heap.objs.size ∉ hp.objs.size :: live t4.heap I := fun z => by
    rcases List.mem_cons.mp z with e | e
    · rw [sz] at e
      exact Nat.succ_ne_self _ e.symm
    · obtain ⟨_, o, q⟩ := mem_live.mp e
      exact Nat.lt_irrefl _ (Heap.lt_size q)
  have Ik : I ∉ hp.objs.size :: live t4.heap I := fun z => by
    rcases List.mem_cons.mp z with e | e
    · exact aI e.symm
    · exact (mem_live.mp e).1 rfl
  obtain ⟨oC, csO⟩ := csAt
  refine want _ _ _ _ (hp.objs.size :: live t4.heap I) rfl (by omega) (by rw [Heap.size_push]) keep5 inK (walksN (A := A.in4) quiet0 _ _ _ fs _ F (List.mem_cons_self ..) aF room (inK _ _ csI csO) csF) ?_
  obtain ⟨hq, ehq⟩ : ∃ hq : Heap, hq = hp.push { cls := .type "generator", data := .fields #[.int t4.gens.size 0, .str "<genexpr>" (t4.toks + 1), .str (env.qual ++ "<genexpr>") (t4.toks + 1 + 1)] } := ⟨_, rfl⟩
  have atA : ∃ o, hq.get? hp.objs.size = some o := ⟨_, by rw [ehq]; exact Heap.get?_push_size _ rfl⟩
  have all : ∀ b ∈ hp.objs.size :: live t4.heap I, ∃ o, hq.get? b = some o := fun b hb => by
    rcases List.mem_cons.mp hb with (e | e)
    · rw [e]
      exact atA
    · obtain ⟨_, o, q⟩ := mem_live.mp e
      exact ⟨o, by rw [ehq]; exact keep5 b o q⟩
  have down : ∀ u : Heap, (∀ b ∈ hp.objs.size :: live t4.heap I, ∀ o, hq.get? b = some o → (b ∉ fs → u.get? b = some o) ∧ ∃ sl, u.get? b = some { o with slots := sl }) → KT t4.heap I fs u := fun u k b o ne it => k b (inK b o ne it) o (by rw [ehq]; exact keep5 b o it)
  refine AtN.fresh (A := A.in4) (ce := genEnv scope cl t4.heap.objs.size code bi env) (mp := fun z => if z = ".0" then some (.ref I) else none) (D := A.depth + 3) (U := A.units + 14) (m := m) (Dr2 := Dr2) (P2 := P2)
    (G := fun u => ∀ b ∈ hp.objs.size :: live t4.heap I, ∀ o, hq.get? b = some o → (b ∉ fs → u.get? b = some o) ∧ ∃ sl, u.get? b = some { o with slots := sl })
    quiet0 rfl (Nat.le_refl _) (Nat.le_refl _) Wk (Nat.ne_of_lt IL) If Ik Ck slow kx ky (by simp [genEnv, kd]) noco xy b0 bS fold ⟨?_, ?_, ?_, hit, ?_⟩ ⟨_, _, _, Heap.get?_push_size _ rfl, rfl, rfl, rfl⟩ (Array.getElem?_push_size ..) ((Wk A quiet0).frame _ _ _ st fun b _ o it => keep5 b o it) (nsp.push _) (lim.keeps keep5) (bare.push rfl) ?_
  · intro u u2 g k b hb o it
    obtain ⟨p1, sl, p2⟩ := g b hb o it
    obtain ⟨_, sl2, q2⟩ := k b _ hb p2
    exact ⟨fun nf => (k b o hb (p1 nf)).1 nf, sl2, q2⟩
  · intro u g b hb nC
    have hk : b ∈ hp.objs.size :: live t4.heap I := hb.elim (fun z => (liveF b z).elim (fun e => absurd e nC) fun e => by
      obtain ⟨o, q⟩ := e
      exact inK b o (fun e2 => If (e2 ▸ z)) q) id
    obtain ⟨o, q⟩ := all b hk
    obtain ⟨_, sl, z⟩ := g b hk o q
    exact Heap.lt_size z
  · exact fun B Ex i v u mp q1 q2 q3 q4 q5 q6 q7 q8 q9 q10 => hin B Ex i v u mp q1 q2 q3 q4 q5 q6 q7 (down _ q8) q9 q10
  · exact fun B Ex i v j z u mp q1 q2 q3 q4 q5 q6 q7 q8 q9 q10 q11 q12 q13 => hel B Ex i v j z u mp q1 q2 q3 q4 q5 q6 q7 q8 q9 (down _ q10) q11 q12 q13
  · intro u k b hb o it
    have e := k b o (by rw [← ehq]; exact it)
    exact ⟨fun _ => e, o.slots, e⟩
end
end V3
/-! v[i][j] == v[j][i] and range(i), whatever the frame. -/
namespace V3
open PySem.Spec PySem L2 PyProof.Rows GxR
section
variable {w : World} {prog : Program} {B : Around} {E : Value → Shared → Prop} {t : Shared} {env : Env}
/-- a name (or what else) whose value is known, read without any change -/
def Gives (prog : Program) (w : World) (B : Around) (E : Value → Shared → Prop) (env : Env) (e : Expr) (u : Value) (t : Shared) : Prop := ∀ Q : Value → Shared → Prop, Q u t → wpAny (model prog w) B (eval e env) Q E t
theorem item_of {a b : Expr} {p : Pos} {V : Addr} {its : Array Value} {i : Nat} {ti : Tok} {x : Value} (ga : Gives prog w B E env a (.ref V) t) (gb : Gives prog w B E env b (.int i ti) t) (hs : PlainIx b) (hV : IsTup t.heap V its) (small : its.size < 2 ^ 63) (hx : its[i]? = some x) :
    Gives prog w B E env (.Subscript a b p) x t := by
  intro Q q
  have lt : i < its.size := (Array.getElem?_eq_some_iff.mp hx).1
  refine Subscript_ (ga _ (gb _ (subscriptTail_builtinR (x := x) hV.typeIs slot_tuple_getitem.lookup (getItem_tuple (j := i) hV (by omega) (by omega) ?_ hx ⟨rfl, q⟩) (hs _ _))))
  have e : seqIndex? (i : Int) its.size = some (i : Int).toNat := PySem.StrLaws.seqIndex_nonneg (by omega) (by omega)
  rw [e]
  rfl
theorem eq_cross {a a2 b b2 c c2 : Expr} {p1 p2 p3 p4 p5 : Pos} {V Ri Rj : Addr} {rows ci cj : Array Value} {i j : Nat} {ti tj : Tok} {u u2 : Value} {d d2 : PyData} {as bs : List Addr} {Q : Value → Shared → Prop}
    (ga : Gives prog w B E env a (.ref V) t) (ga2 : Gives prog w B E env a2 (.ref V) t) (gb : Gives prog w B E env b (.int i ti) t) (gb2 : Gives prog w B E env b2 (.int i ti) t) (gc : Gives prog w B E env c (.int j tj) t) (gc2 : Gives prog w B E env c2 (.int j tj) t)
    (pb : PlainIx b) (pb2 : PlainIx b2) (pc : PlainIx c) (pc2 : PlainIx c2) (hV : IsTup t.heap V rows) (s0 : rows.size < 2 ^ 63) (hi : rows[i]? = some (.ref Ri)) (hj : rows[j]? = some (.ref Rj)) (hRi : IsTup t.heap Ri ci) (s1 : ci.size < 2 ^ 63) (hRj : IsTup t.heap Rj cj) (s2 : cj.size < 2 ^ 63)
    (hu : ci[j]? = some u) (hu2 : cj[i]? = some u2) (r1 : Reads t.heap u d as) (r2 : Reads t.heap u2 d2 bs) (sd : SeqAt.shaped d = true) (sd2 : SeqAt.shaped d2 = true) (un : B.units + 64 < cLine) (q : Q (.bool (PyData.eqv d d2)) t) (hm : behindInMarks .Eq (.Subscript (.Subscript a2 c2 p3) b2 p4) = false) :
    wpAny (model prog w) B (eval (.Compare (.Subscript (.Subscript a b p1) c p2) [.Eq] [.Subscript (.Subscript a2 c2 p3) b2 p4] p5) env) Q E t :=
  wpAny_Compare1 (item_of (item_of ga gb pb hV s0 hi) gc pc hRi s1 hu _ (item_of (item_of ga2 gc2 pc2 hV s0 hj) gb2 pb2 hRj s2 hu2 _ (SeqAt.compareEq_shaped r1 r2 sd sd2 un q))) hm
/-- range(i), called as a type with one whole number, and walked -/
theorem range_called {i : Nat} {ti : Tok} {Q : Value → Shared → Prop} (h : ∀ (R : Addr) (t1 : Shared) (tv tw : Tok), KeptG [] t t1 → IsRange t1.heap R 0 i 1 tv ti tw → AllBare t1.gens → Q (.ref R) t1) (bare : AllBare t.gens) : wpAny (model prog w) B (call (.type "range") [.int i ti]) Q E t := by
  refine call_range_1 (h _ _ _ _ ⟨rfl, bare, KM.exact fun b o it => Heap.get?_push_of_some _ it⟩ (IsRange.new ..) bare)
theorem range_walked {i : Nat} {R : Addr} {tv ti tw : Tok} {fs : List Addr} (hr : IsRange t.heap R 0 i 1 tv ti tw) (big : i < 2 ^ 62) (bare : AllBare t.gens) : wpAny (model prog w) B (pyIter (.ref R)) (fun jt t2 => Inner prog w (fun j v => ∃ tj, v = .int (0 + (j : Nat) * 1) tj) i fs t t2 jt) E t := by
  refine wpAny_pyIter_range hr (small_one (by omega) (by omega) (by omega) (by omega)) ?_
  refine ⟨⟨rfl, bare, KM.exact fun b o it => Heap.get?_push_of_some _ it⟩, t.heap.objs.size, _, rfl, Nat.le_refl _, fun B2 q => Walks.range q _ 0 1 i, ?_⟩
  have e1 : (0 : Int) + ((0 : Nat) : Int) * 1 = 0 := by simp
  have e2 : ((i : Nat) : Int) - ((0 : Nat) : Int) = Builtin.Range.rangeSize 0 i 1 := by
    rw [rangeSize_one]
    split <;> omega
  show IsRangeIter _ _ (0 + ((0 : Nat) : Int) * 1) (((i : Nat) : Int) - ((0 : Nat) : Int)) 1
  rw [e1, e2]
  (exact Heap.get?_push_size _ rfl)
end
end V3
namespace V3
open PySem.Spec PySem L2 PyProof.Rows GxR
section
variable {X : Cx}
abbrev callXC (fn x cn : Str) (p0 p1 p2 pos0 : Pos) : Expr := .Call (.Name fn p0) [.Name x p1, .Name cn p2] [] pos0
abbrev genXC (fn x cn : Str) (p0 p1 p2 pos0 px gpos : Pos) (iter : Expr) (scope : Scope) : Expr := .GeneratorExp (callXC fn x cn p0 p1 p2 pos0) [⟨.Name x px, iter, [], 0⟩] scope gpos
theorem pe_allC {c P : Addr} {iter : Expr} {x cn fn : Str} {px p p0 p1 p2 pos0 gpos pos : Pos} {scope : Scope} {te : TE} {k : Nat} {ps : List Str} {sp : Sp} {ic : Nat}
    (hr : Room (k + 1) X.A) (hg : Gl X "all") (hma : X.mg "all" = none) (TB : TabB X.base X.mg c P) (hcode : X.env.code = .ref c) (S : GenS X.env scope x) (hi : PE X iter te) (D : Df X.prog X.w X.K X.mg X.base fn k ps sp) (Cc : Cap X scope cn ic)
    (kf : scope.names.lookup fn = some .globalImplicit) (dx : (x == ("__debug__" : Str)) = false) (df : (fn == ("__debug__" : Str)) = false) (nofold : ∀ v, genFold iter X.env v = pure v)
    (he : starEach [genXC fn x cn p0 p1 p2 pos0 px gpos iter scope] X.env = (false, eval (genXC fn x cn p0 p1 p2 pos0 px gpos iter scope) X.env) :: starEach [] X.env := by rfl) :
    PE X (.Call (.Name "all" p) [genXC fn x cn p0 p1 p2 pos0 px gpos iter scope] [] pos) (tAllC X P ic sp te) := by
  obtain ⟨f, fd, gf, kp, bd, G, _⟩ := D.ex
  (refine ⟨fun pins s σ H Q I h => ?_⟩)
  refine wpAny_Call_Name_kw (ld_blt (u := .builtin "all") I hg hma (by decide +kernel) ?_)
  refine PyProof.Rows.callWith_builtin1 (id := "all") ?_ he (by rfl)
  rw [he]
  show wpAny _ _ (spliced ((false, eval (genXC fn x cn p0 p1 p2 pos0 px gpos iter scope) X.env) :: backTo pos (starEach [] X.env))) _ _ s
  refine Calls.spliced_cons (genexpF hr.hd S.co (closure_ok S.free) S.cell S.dot S.loc S.kind (by have := hr.dp; omega) ?_ nofold)
  refine thn (hi.run pins s σ H _ I h) fun xv s1 ⟨v, H1, I1, rv, a, xs, vc, tr, ev, hsq, tab, hvc, ask, want⟩ => ?_
  subst ev
  cases rv
  obtain ⟨ptab, hP, htr⟩ := tab
  obtain ⟨its, rvs, pl, zl⟩ := I1.tuple hsq
  have lenI := rvs.length
  have tupA : s1.heap.IsTuple a its.toArray := by
    obtain ⟨ob, q1, q2, q3, q4⟩ := pl
    exact ⟨ob, q1, q2, q3, q4⟩
  refine wpAny_pyIter_tuple tupA ?_
  obtain ⟨oI, hoI⟩ : ∃ oI : Obj, oI = { cls := .type "tuple_iterator", data := .fields #[.ref a, .int 0 0] } := ⟨_, rfl⟩
  rw [← hoI]
  have freshO : oI.isFreed = false := by rw [hoI]; rfl
  have atP : s1.heap.get? P = some { cls := .none, data := .fields ptab } := I1.hok P _ hP
  have ltP : P < s1.heap.objs.size := Heap.lt_size atP
  have atP2 : (s1.heap.push oI).get? P = some { cls := .none, data := .fields ptab } := Heap.get?_push_of_some _ atP
  have hdC : PySem.W.CodeHd (s1.heap.push oI) c P := TB.code.keeps fun b u e => Heap.get?_push_of_some _ (I1.bk b u e)
  have nol : (s1.heap.push oI).NoLimit := I1.nolimit.push oI
  have szO : (s1.heap.push oI).objs.size = s1.heap.objs.size + 1 := Heap.size_push ..
  have csB : ∃ o, X.base.get? cStatics = some o := by
    obtain ⟨_, q, _⟩ := I1.ok.mod.nolimit
    obtain ⟨o, es, ep, ho, _⟩ := q
    exact ⟨o, ho⟩
  have notFr : ∀ b o, X.base.get? b = some o → b ∉ frs X.stack := fun b o it z => by
    have := (frs_apart I1.stack z).1
    rw [it] at this
    cases this
  have frLow : ∀ b ∈ frs X.stack, b < s1.heap.objs.size := fun b z => by
    obtain ⟨_, o, ho, _⟩ := frs_apart I1.stack z
    exact Heap.lt_size ho
  have frNotP : P ∉ frs X.stack := fun z => by
    have := I1.stkFree P z
    rw [hP] at this
    cases this
  have aFr : a ∉ frs X.stack := fun z => by
    rcases hsq with ((e | ⟨o, e⟩) | ⟨o, it2, n2, e, _⟩)
    · have := I1.stkFree a z
      rw [e] at this
      cases this
    · have := I1.stkFree a z
      rw [e] at this
      cases this
    · exact notFr a o (I1.ok.mod.kin a o e) z
  have aLow : a < s1.heap.objs.size := by
    obtain ⟨ob, q1, _⟩ := tupA
    exact Heap.lt_size q1
  -- behind the code object
  have cont : ∀ (code : Value) (hp3 : Heap) (tk : Nat) (ptab3 : Array Value), Heap.ExtBut P (s1.heap.push oI) hp3 → (s1.heap.push oI).objs.size ≤ hp3.objs.size → hp3.get? P = some { cls := .none, data := .fields ptab3 } → (∃ more, ptab3 = ptab ++ more) → TriplesOk ptab3.toList →
      wpAny (model X.prog X.w) X.A (builtinsFor X.env.globals X.env.builtins) (fun bi t4 => MadeF X.prog X.w X.A X.env (callXC fn x cn p0 p1 p2 pos0) iter x px [] scope (cloFrom X.env.cells scope.names []) gpos
        (fun g t5 => wpAny (model X.prog X.w) X.A (spliced (backTo pos (starEach [] X.env))) (fun vs t6 => wpAny (model X.prog X.w) X.A (call (.builtin "all") (g :: vs)) (EP X pins σ Q) X.xe t6) X.xe t5) (.ref s1.heap.objs.size) code bi t4) X.xe { s1 with heap := hp3, toks := tk } := by
    intro code hp3 tk ptab3 hx3 sz3 atP3 grown ok3
    (obtain ⟨bm, ob, e1, e2, e3, e4, e5, e6, e7, e8⟩ := TB.bm)
    have keep3 : ∀ b u, b ≠ P → s1.heap.get? b = some u → hp3.get? b = some u := fun b u nb it => hx3 b u nb (Heap.get?_push_of_some _ it)
    have big3 : s1.heap.objs.size + 1 ≤ hp3.objs.size := by
      rw [← szO]
      exact sz3
    have baseNP : ∀ b o, X.base.get? b = some o → b ≠ P := fun b o it z => by
      have := (I1.bs b o it).2
      rw [z, hP] at this
      cases this
    obtain ⟨oCs, csAt⟩ := csB
    have csLow : cStatics < s1.heap.objs.size := Heap.lt_size (I1.bk _ _ csAt)
    have aNP : a ≠ P := fun z => by
      obtain ⟨ob2, q1, _, _, q4⟩ := tupA
      rw [z, atP] at q1
      cases q1
      cases q4
    refine wpAny_builtinsFor (m := X.mg) (by rw [I1.ok.glob]; exact ((I1.mod.glob.keeps I1.bk).push oI).extBut hx3 TB.gP) e1 e2 (keep3 _ _ e4 (I1.bk _ _ e5)) e6 e7 e8 ?_
    refine ⟨I1.bare, s1.heap.objs.size, [s1.heap.objs.size, a], [s1.heap.objs.size], hp3.objs.size :: frs X.stack, its.toArray.size, (fun i v => its.toArray[i]? = some v), (fun i h => h.IsTupleIter s1.heap.objs.size a i ∧ h.IsTuple a its.toArray), (fun _ => true), (fun i y => y = .bool (tr i)), rfl,
      fun B hB => Walks.tuple hB _ a (Nat.ne_of_lt aLow) _, ⟨⟨oI, hx3 _ _ (Nat.ne_of_gt ltP) (Heap.get?_push_size _ freshO), by rw [hoI], by rw [hoI]; rfl⟩, ?_⟩, ?_, nol.extBut hx3 (baseNP _ _ csAt), ?_, ?_, ?_, ?_, ?_, ?_⟩
    · obtain ⟨ob2, q1, q2⟩ := tupA
      exact ⟨ob2, keep3 _ _ aNP q1, q2⟩
    · intro b hb
      show b < hp3.objs.size
      rcases List.mem_cons.mp hb with (z | z)
      · rw [z]
        exact big3
      · (rw [List.mem_singleton.mp z])
        exact Nat.lt_of_lt_of_le aLow (Nat.le_trans (Nat.le_succ _) big3)
    · intro z
      have := List.mem_singleton.mp z
      rw [this] at csLow
      exact Nat.lt_irrefl _ csLow
    · intro b hb
      show b ≤ hp3.objs.size
      rcases List.mem_cons.mp hb with (z | z)
      · rw [z]
        exact Nat.le_refl _
      · exact Nat.le_of_lt (Nat.lt_of_lt_of_le (frLow b z) (Nat.le_trans (Nat.le_succ _) big3))
    · intro b hb hf
      rcases List.mem_cons.mp hb with (z | z)
      · subst z
        rcases List.mem_cons.mp hf with (y | y)
        · exact Nat.ne_of_lt big3 y
        · exact Nat.lt_irrefl _ (frLow _ y)
      · have z2 := List.mem_singleton.mp z
        subst z2
        rcases List.mem_cons.mp hf with (y | y)
        · exact Nat.ne_of_lt (Nat.lt_of_lt_of_le aLow (Nat.le_trans (Nat.le_succ _) big3)) y
        · exact aFr y
    · intro z
      rcases List.mem_cons.mp z with (y | y)
      · exact Nat.ne_of_lt (Nat.lt_of_lt_of_le csLow (Nat.le_trans (Nat.le_succ _) big3)) y
      · exact notFr _ _ csAt y
    · intro ref href
      refine ⟨fun B Ex i v t mp hB fB dB uB bT dv ns hv kept => tests_none ⟨rfl, ⟨rfl, bT, KM.exact (fun _ _ it => it)⟩⟩, fun B Ex i v t mp hB fB dB uB bT dv _ ns hv kept => ?_⟩
      rw [over_frames I1.ok.frames] at fB
      have both : ∀ b o, b ≠ P → s1.heap.get? b = some o → (b ∉ frs X.stack → t.heap.get? b = some o) ∧ ∃ sl, t.heap.get? b = some { o with slots := sl } := fun b o nb it => by
        have lt := Heap.lt_size it
        have ltc : b < hp3.objs.size := Nat.lt_of_lt_of_le lt (Nat.le_trans (Nat.le_succ _) big3)
        obtain ⟨p1, p2⟩ := kept b (List.mem_range.mpr ltc) (fun z => by rw [List.mem_singleton.mp z] at lt; exact Nat.lt_irrefl _ lt) o (href _ _ (keep3 b o nb it))
        exact ⟨fun nf => p1 fun z => (List.mem_cons.mp z).elim (fun y => Nat.ne_of_lt ltc y) nf, p2⟩
      have baseT : ∀ b o, X.base.get? b = some o → t.heap.get? b = some o := fun b o it => (both b o (baseNP b o it) (I1.bk b o it)).1 (notFr b o it)
      obtain ⟨oC, esC, epC, atC, datC, moreC⟩ := id ns
      have ltC : hp3.objs.size < t.heap.objs.size := Heap.lt_size atC
      have bszS : X.base.objs.size ≤ s1.heap.objs.size := Nat.le_trans I1.ok.bsz I1.sz
      have gi : ∀ bi : Addr, InGen X H1 s1.heap (genEnv scope (cloFrom X.env.cells scope.names []) hp3.objs.size code bi X.env) hp3.objs.size t := by
        intro bi
        refine ⟨baseT, Nat.le_trans bszS (Nat.le_of_lt (Nat.lt_of_le_of_lt (Nat.le_trans (Nat.le_succ _) big3) ltC)), ⟨?_, ⟨hp3.objs.size, oC, rfl, ?_, atC, fun vs z => ?_⟩, ?_⟩, fun b hb => ?_, ?_, bT⟩
        · show scope.kind ≠ .module
          rw [S.kind]
          exact fun z => nomatch z
        · cases eb : X.base.get? hp3.objs.size with
          | none => rfl
          | some o =>
            have := Nat.lt_of_lt_of_le (Heap.lt_size eb) bszS
            omega
        · rw [datC] at z
          cases z
        · refine Heap.FunFrames.of_keeps (fun b o it nf => ?_) I1.stack
          have nb : b ≠ P := fun z => by
            rw [z, atP] at it
            cases it
            exact nf _ rfl
          obtain ⟨_, sl, z⟩ := both b o nb it
          exact ⟨_, z, rfl⟩
        · rcases List.mem_cons.mp hb with (z | z)
          · rw [z]
            exact I1.hok.fresh (Nat.le_trans (Nat.le_succ _) big3)
          · exact I1.stkFree b z
        · refine fast_ok I1.hok fun b u o e nt it => (both b o (fun z => ?_) it).1 fun z => ?_
          · rw [z, hP] at e
            exact nt ptab (Option.some.inj e).symm
          · have := I1.stkFree b z
            rw [e] at this
            cases this
      have li : i < its.length := by
        have := (Array.getElem?_eq_some_iff.mp dv).1
        simpa using this
      have hxi : xs[i]? = some xs[i] := List.getElem?_eq_getElem (by omega)
      obtain ⟨u, hu, ru⟩ := rvs.get hxi
      have ev : u = v := by
        have q : its.toArray[i]? = some u := by simpa using hu
        rw [q] at dv
        exact Option.some.inj dv
      subst ev
      obtain ⟨cc, uc, rc, look, cellAt⟩ := Cc.at I1 hvc
      have cellT : t.heap.IsCell cc (some uc) := by
        obtain ⟨o, ho, hd⟩ := cellAt
        have nb : cc ≠ P := fun z => by
          rw [z, atP] at ho
          cases ho
          cases hd
        obtain ⟨_, sl, z⟩ := both cc o nb ho
        exact ⟨_, z, hd⟩
      refine wpAny_Call_Name_kw (Calls.Name_function_global S.kind kf (Calls.loadGlobal_global (by show t.heap.Ns X.env.globals X.mg; rw [I1.ok.glob]; exact I1.mod.glob.keeps baseT) gf ?_) df)
      refine PySem.W.callWith_K (h₀ := X.base) I1.ok.mod.kin kp ?_
      show wpAny _ B (spliced ((false, eval (.Name x p1) (genEnv scope (cloFrom X.env.cells scope.names []) hp3.objs.size code _ X.env)) :: (false, eval (.Name cn p2) (genEnv scope (cloFrom X.env.cells scope.names []) hp3.objs.size code _ X.env)) :: [])) _ _ t
      refine Calls.spliced_cons (wpAny_Name (wpAny_loadName_local (by exact S.kind) (by exact S.loc) ns hv ?_) dx)
      refine Calls.spliced_cons (Cc.eval S.kind rfl rfl look cellT ?_)
      refine Calls.spliced_nil ⟨I1.ok.mod.kin.keeps baseT, ?_⟩
      exact gen_call I1 G bd hr (gi _) hB fB dB uB (.cons ru (.cons rc .nil)) (ask _ I1.hok i xs[i] hxi) fun v2 u2 t2 qv rv2 kg => ⟨by subst qv; exact rv2, kg⟩
    · intro g hp5 tk5 gs gsb ltg szg k5 Wk at5
      refine Calls.spliced_nil (call_allV ?_)
      have pall : passing (fun _ => true) its.toArray.size 0 = List.range its.toArray.size := GxR.passing_true _
      refine Wk.in4.self _ _ _ at5 ⟨g, _, _, _, _, _, tr, rfl, Wk.in4, at5, fun j y hy => ?_, fun t' mv => ?_⟩
      · obtain ⟨i, hi2, hf⟩ := hy
        rw [pall, List.getElem?_range (by
          have := (List.getElem?_eq_some_iff.mp hi2).1
          rw [List.length_range] at this
          exact this)] at hi2
        rw [Option.some.inj hi2]
        exact hf
      · obtain ⟨more, rfl⟩ := grown
        have offW : ∀ b, b < s1.heap.objs.size → b ∉ hp3.objs.size :: [s1.heap.objs.size] := fun b lt z => by
          rcases List.mem_cons.mp z with (y | y)
          · exact Nat.ne_of_lt (Nat.lt_of_lt_of_le lt (Nat.le_trans (Nat.le_succ _) big3)) y
          · exact Nat.ne_of_lt lt (List.mem_singleton.mp y)
        have kB : ∀ b o, b < s1.heap.objs.size → hp3.get? b = some o → (b ∉ frs X.stack → t'.heap.get? b = some o) ∧ ∃ sl, t'.heap.get? b = some { o with slots := sl } := fun b o lt it => by
          obtain ⟨p1, p2⟩ := mv.heap b o (offW b lt) (k5 b o it)
          exact ⟨fun nf => p1 fun z => (List.mem_cons.mp z).elim (fun y => Nat.ne_of_lt (Nat.lt_of_lt_of_le lt (Nat.le_trans (Nat.le_succ _) big3)) y) nf, p2⟩
        have J := inv_gen (t' := t') (more := more) I1 hP mv.os mv.bare (fun b o nb it => kB b o (Heap.lt_size it) (keep3 b o nb it)) ((kB P _ ltP atP3).1 frNotP)
        have len : (passing (fun _ => true) its.toArray.size 0).length = xs.length := by
          rw [pall, List.length_range, List.size_toArray]
          omega
        rw [len]
        exact ⟨.bl _, _, J, rfl, want _ ⟨⟨ptab ++ more, upd_same, ok3⟩, fun b nb => upd_ne nb⟩⟩
  refine ⟨nol, ?_⟩
  cases among : codeAmong gpos ptab.toList with
  | none =>
    refine wpAny_genexprCodeX hcode (hdC.code atP2 htr) (hdC.tab atP2) among fun c2 hp2 tk hx2 ge2 lt2 isC _ tabA _ => ?_
    obtain ⟨o1, vs, f1, tf, fl, tg, inF, tx, tt, op, _, _, _, _, _, _, _, _, _, trs, _⟩ := isC
    exact cont _ hp2 tk _ hx2 (Nat.le_trans ge2 (Nat.le_of_lt lt2)) tabA.2 ⟨_, rfl⟩ trs
  | some cv =>
    refine wpAny_genexprCode_hit hcode (hdC.code atP2 htr) among ?_
    exact cont cv (s1.heap.push oI) s1.toks ptab (Heap.ExtBut.refl _ _) (Nat.le_refl _) atP2 ⟨#[], by simp⟩ htr
end
end V3
/-! all(v[i][j] == v[j][i] for i in range(n) for j in range(i)) as a rule. -/
namespace V3
open PySem.Spec PySem L2 PyProof.Rows GxR
/-- how many pairs stand before row i -/
def tri : Nat → Nat
  | 0 => 0
  | i + 1 => tri i + i
theorem tri_mono : ∀ {i k : Nat}, i ≤ k → tri i ≤ tri k := fun {i k} h => by
  induction h with
  | refl => exact Nat.le_refl _
  | step _ ih => exact Nat.le_trans ih (Nat.le_add_right ..)
theorem tri_inj {i j k l : Nat} (h1 : j < i) (h2 : l < k) (e : tri i + j = tri k + l) : i = k ∧ j = l := by
  have a : ∀ {i j k l : Nat}, j < i → l < k → tri i + j = tri k + l → ¬ i < k := fun {i j k l} h1 h2 e lt => by
    have m : tri (i + 1) ≤ tri k := tri_mono lt
    have s : tri (i + 1) = tri i + i := rfl
    omega
  have q : i = k := by
    rcases Nat.lt_trichotomy i k with z | z | z
    · exact absurd z (a h1 h2 e)
    · exact z
    · exact absurd z (a h2 h1 e.symm)
  subst q
  exact ⟨rfl, by omega⟩
theorem flat_all (f : Nat → Nat → Bool) : ∃ tr : Nat → Bool, (∀ i j, j < i → tr (tri i + j) = f i j) ∧ ∀ n, (List.range (tri n)).all tr = (List.range n).all fun i => (List.range i).all (f i) := by
  classical
  refine ⟨fun k => decide (∀ i j, j < i → k = tri i + j → f i j = true), ?_, ?_⟩
  · intro i j h
    cases e : f i j with
    | true =>
      refine decide_eq_true fun i2 j2 h2 q => ?_
      obtain ⟨rfl, rfl⟩ := tri_inj h h2 q
      exact e
    | false => exact decide_eq_false fun z => by rw [z i j h rfl] at e; cases e
  · have at_ : ∀ i j, j < i → (decide (∀ i2 j2, j2 < i2 → tri i + j = tri i2 + j2 → f i2 j2 = true)) = f i j := fun i j h => by
      cases e : f i j with
      | true =>
        refine decide_eq_true fun i2 j2 h2 q => ?_
        obtain ⟨rfl, rfl⟩ := tri_inj h h2 q
        exact e
      | false => exact decide_eq_false fun z => by rw [z i j h rfl] at e; cases e
    intro n
    induction n with
    | zero => rfl
    | succ n ih =>
      show (List.range (tri n + n)).all _ = _
      rw [List.range_add, List.all_append, ih, List.range_succ, List.all_append, List.all_map]
      congr 1
      simp only [List.all_cons, List.all_nil, Bool.and_true]
      (rw [Bool.eq_iff_iff, List.all_eq_true, List.all_eq_true])
      exact ⟨fun z j hj => by have := z j hj; rw [← at_ n j (List.mem_range.mp hj)]; exact this, fun z j hj => by have := z j hj; rw [← at_ n j (List.mem_range.mp hj)] at this; exact this⟩
theorem over_frames2 {A : Around} {elt : Expr} {x : Str} {px : Pos} {iter : Expr} {y : Str} {py : Pos} {iter2 : Expr} {scope : Scope} {pos : Pos} {I : Addr} {ce : Env} {l : List Env} (e : A.frames = some l) :
    (A.in4.in1.over (lp elt x px iter y py iter2 scope pos ce 0 I) []).frames = some (ce :: l) := by
  have e5 : A.in4.in1.frames = some l := e
  simp only [Around.over, List.map_nil]
  rw [e5]
  rfl
end V3
namespace V3
open PySem.Spec PySem L2 PyProof.Rows GxR
mutual
/-- data is read again where all but one address stands, and that is no list, tuple or dict -/
theorem reads_but {P : Addr} {ps : Array Value} {h h2 : Heap} (at_ : h.get? P = some { cls := .none, data := .fields ps }) (k : ∀ b o, b ≠ P → h.get? b = some o → h2.get? b = some o) : ∀ {v : Value} {d : PyData} {as : List Addr}, Reads h v d as → Reads h2 v d as
  | _, _, _, .none => .none
  | _, _, _, .bool b => .bool b
  | _, _, _, .int z tk => .int z tk
  | _, _, _, .str z tk => .str z tk
  | _, _, _, .list e1 e2 e3 r => .list (k _ _ (fun z => by rw [z, at_] at e1; cases e1; cases e3) e1) e2 e3 (readsAll_but at_ k r)
  | _, _, _, .tuple e1 e2 e3 r => .tuple (k _ _ (fun z => by rw [z, at_] at e1; cases e1; cases e3) e1) e2 e3 (readsAll_but at_ k r)
  | _, _, _, .dict e1 e2 e3 r r2 => .dict (k _ _ (fun z => by rw [z, at_] at e1; cases e1; cases e3) e1) e2 e3 (readsAll_but at_ k r) (readsAll_but at_ k r2)
theorem readsAll_but {P : Addr} {ps : Array Value} {h h2 : Heap} (at_ : h.get? P = some { cls := .none, data := .fields ps }) (k : ∀ b o, b ≠ P → h.get? b = some o → h2.get? b = some o) : ∀ {vs : List Value} {ds : List PyData} {as : List Addr}, ReadsAll h vs ds as → ReadsAll h2 vs ds as
  | _, _, _, .nil => .nil
  | _, _, _, .cons r r2 => .cons (reads_but at_ k r) (readsAll_but at_ k r2)
end
/-- the rows at a, known in H: the first N of each of the first N are the data d -/
def Square (K : PySem.W.Frag) (H : Hp) (a : Addr) (N : Nat) (d : Nat → Nat → PyData) : Prop :=
  ∃ rows, SqT K H a rows ∧ ∀ i, i < N → ∃ r cs, rows[i]? = some (.ref r) ∧ SqT K H r cs ∧ ∀ j, j < N → ∃ c, cs[j]? = some c ∧ Dp K H c (d i j) ∧ SeqAt.shaped (d i j) = true
/-- the truth of all(v[i][j] == v[j][i] for i in range(n) for j in range(i)) -/
def tAll2 (X : Cx) (P : Addr) (ic : Nat) (ta : TA) : TE := fun σ H Q => ta σ H fun vs H1 => ∃ (N : Nat) (a : Addr) (d : Nat → Nat → PyData), vs = [.int N] ∧ N < 2 ^ 62 ∧ TabG H1 P ∧ σ[ic]? = some (some (.ref a)) ∧ Square X.K H1 a N d ∧
  ∀ H2, Tabbed P H1 H2 → Q (.bl ((List.range N).all fun i => (List.range i).all fun j => PyData.eqv (d i j) (d j i))) H2
section
variable {X : Cx}
abbrev cross (v x y : Str) (q1 q2 q3 q4 q5 q6 q7 q8 q9 qa qb : Pos) : Expr := .Compare (.Subscript (.Subscript (.Name v q1) (.Name x q2) q3) (.Name y q4) q5) [.Eq] [.Subscript (.Subscript (.Name v q6) (.Name y q7) q8) (.Name x q9) qa] qb
abbrev rangeOf (e : Expr) (q0 q2 : Pos) : Expr := .Call (.Name "range" q0) [e] [] q2
theorem pe_all2 {c P : Addr} {n : Expr} {v x y : Str} {ta : TA} {px py p q1 q2 q3 q4 q5 q6 q7 q8 q9 qa qb r0 r1 r2 r3 r4 gpos pos : Pos} {scope : Scope} {k ic : Nat}
    (hr : Room (k + 1) X.A) (hg : Gl X "all") (hma : X.mg "all" = none) (hgr : Gl X "range") (hmr : X.mg "range" = none) (TB : TabB X.base X.mg c P) (hcode : X.env.code = .ref c) (S : GenS X.env scope x) (sy : scope.names.lookup y = some .local) (xy : x ≠ y) (ha : PA X [n] ta) (Cc : Cap X scope v ic)
    (kf : scope.names.lookup ("range" : Str) = some .globalImplicit) (dx : (x == ("__debug__" : Str)) = false) (dy : (y == ("__debug__" : Str)) = false)
    (hs : starEach [n] X.env = [(false, eval n X.env)] := by rfl)
    (he : starEach [gen2 (cross v x y q1 q2 q3 q4 q5 q6 q7 q8 q9 qa qb) x px (rangeOf n r0 r1) y py (rangeOf (.Name x r2) r3 r4) scope gpos] X.env = (false, eval (gen2 (cross v x y q1 q2 q3 q4 q5 q6 q7 q8 q9 qa qb) x px (rangeOf n r0 r1) y py (rangeOf (.Name x r2) r3 r4) scope gpos) X.env) :: starEach [] X.env := by rfl) :
    PE X (.Call (.Name "all" p) [gen2 (cross v x y q1 q2 q3 q4 q5 q6 q7 q8 q9 qa qb) x px (rangeOf n r0 r1) y py (rangeOf (.Name x r2) r3 r4) scope gpos] [] pos) (tAll2 X P ic ta) := by
  (refine ⟨fun pins s σ H Q I h => ?_⟩)
  refine wpAny_Call_Name_kw (ld_blt (u := .builtin "all") I hg hma (by decide +kernel) ?_)
  refine PyProof.Rows.callWith_builtin1 (id := "all") ?_ he (by rfl)
  rw [he]
  show wpAny _ _ (spliced ((false, eval (gen2 (cross v x y q1 q2 q3 q4 q5 q6 q7 q8 q9 qa qb) x px (rangeOf n r0 r1) y py (rangeOf (.Name x r2) r3 r4) scope gpos) X.env) :: backTo pos (starEach [] X.env))) _ _ s
  refine Calls.spliced_cons (genexpN hr.hd S.co (closure_ok S.free) S.cell S.dot S.loc sy xy S.kind (by have := hr.dp; omega) ?_ (fun _ => rfl))
  refine Call_ (ld_blt I hgr hmr boot_range (PyProof.Rows.callWith_type1 (thn (ha.run r1 pins s σ H _ I h) fun us s1 ⟨vs, H1, I1, rs, N, a, d, ev, big, tab, hvc, sq, want⟩ => ?_) hs rfl))
  subst ev
  cases rs with
  | cons rn rr =>
  cases rr
  obtain ⟨tn, rfl⟩ := rn
  refine call_range_1 (wpAny_pyIter_range (IsRange.new ..) (small_one (by omega) (by omega) (by omega) (by omega)) ?_)
  obtain ⟨ptab, hP, htr⟩ := tab
  have nums : ((0 : Int) + ((0 : Nat) : Int) * 1 = 0) ∧ (((N : Nat) : Int) - ((0 : Nat) : Int) = Builtin.Range.rangeSize 0 N 1) := by
    refine ⟨by simp, ?_⟩
    rw [rangeSize_one]
    split <;> omega
  obtain ⟨oR, eR⟩ : ∃ oR : Obj, oR = { cls := .type "range", data := .fields #[.int 0 s1.toks, .int N tn, .int 1 (s1.toks + 1)] } := ⟨_, rfl⟩
  obtain ⟨oJ, eJ⟩ : ∃ oJ : Obj, oJ = { cls := .type "range_iterator", data := .fields #[rawInt 0, rawInt (Builtin.Range.rangeSize 0 N 1), rawInt 1] } := ⟨_, rfl⟩
  rw [← eR, ← eJ]
  have freshO : oJ.isFreed = false := by rw [eJ]; rfl
  obtain ⟨h2, eh⟩ : ∃ h2 : Heap, h2 = (s1.heap.push oR).push oJ := ⟨_, rfl⟩
  obtain ⟨J, eA⟩ : ∃ J : Addr, J = (s1.heap.push oR).objs.size := ⟨_, rfl⟩
  have k2 : ∀ b o, s1.heap.get? b = some o → h2.get? b = some o := fun b o it => by rw [eh]; exact Heap.get?_push_of_some _ (Heap.get?_push_of_some _ it)
  have atJ : h2.get? J = some oJ := by rw [eh, eA]; exact Heap.get?_push_size _ freshO
  have Jbig : s1.heap.objs.size ≤ J := by rw [eA, Heap.size_push]; exact Nat.le_succ _
  have nol : h2.NoLimit := by rw [eh]; exact (I1.nolimit.push oR).push oJ
  rw [← eh, ← eA]
  have atP : s1.heap.get? P = some { cls := .none, data := .fields ptab } := I1.hok P _ hP
  have atP2 : h2.get? P = some { cls := .none, data := .fields ptab } := k2 _ _ atP
  have hdC : PySem.W.CodeHd h2 c P := TB.code.keeps fun b u e => k2 b u (I1.bk b u e)
  obtain ⟨tr, trAt, trAll⟩ := flat_all (fun i j => PyData.eqv (d i j) (d j i))
  have csB : ∃ o, X.base.get? cStatics = some o := by
    obtain ⟨_, z, _⟩ := I1.ok.mod.nolimit
    obtain ⟨o, _, _, ho, _⟩ := z
    exact ⟨o, ho⟩
  have baseNP : ∀ b o, X.base.get? b = some o → b ≠ P := fun b o it z => by
    have e := (I1.bs b o it).2
    rw [z, hP] at e
    cases e
  have ltP : P < s1.heap.objs.size := Heap.lt_size atP
  have frNotP : P ∉ frs X.stack := fun z => by
    have e := I1.stkFree P z
    rw [hP] at e
    cases e
  have cont : ∀ (code : Value) (hp3 : Heap) (tk : Nat) (ptab3 : Array Value), Heap.ExtBut P h2 hp3 → hp3.get? P = some { cls := .none, data := .fields ptab3 } → (∃ more, ptab3 = ptab ++ more) → TriplesOk ptab3.toList →
      wpAny (model X.prog X.w) X.A (builtinsFor X.env.globals X.env.builtins) (fun bi t4 => MadeN X.prog X.w X.A X.env (cross v x y q1 q2 q3 q4 q5 q6 q7 q8 q9 qa qb) (rangeOf n r0 r1) x px y py (rangeOf (.Name x r2) r3 r4) scope (cloFrom X.env.cells scope.names []) gpos
        (fun g t5 => wpAny (model X.prog X.w) X.A (spliced (backTo pos (starEach [] X.env))) (fun vs t6 => wpAny (model X.prog X.w) X.A (call (.builtin "all") (g :: vs)) (EP X pins σ Q) X.xe t6) X.xe t5) (.ref J) code bi t4) X.xe { s1 with heap := hp3, toks := tk } := by
    intro code hp3 tk ptab3 hx3 atP3 grown ok3
    (obtain ⟨bm, ob, e1, e2, e3, e4, e5, e6, e7, e8⟩ := TB.bm)
    have keep3 : ∀ b u, b ≠ P → s1.heap.get? b = some u → hp3.get? b = some u := fun b u nb it => hx3 b u nb (k2 b u it)
    have nJ : ∀ b u, s1.heap.get? b = some u → b ≠ J := fun b u it z => by
      have lt := Heap.lt_size it
      rw [z] at lt
      exact absurd Jbig (Nat.not_le.mpr lt)
    have JP : J ≠ P := fun z => by
      rw [z] at Jbig
      exact absurd Jbig (Nat.not_le.mpr ltP)
    obtain ⟨oCs, csAt⟩ := csB
    refine wpAny_builtinsFor (m := X.mg) (by rw [I1.ok.glob]; exact ((I1.mod.glob.keeps I1.bk).keeps k2).extBut hx3 TB.gP) e1 e2 (keep3 _ _ e4 (I1.bk _ _ e5)) e6 e7 e8 ?_
    refine ⟨I1.bare, J, [], N, (fun i => i), tri, (fun i q => ∃ ti, q = .int (0 + (i : Nat) * 1) ti), (fun _ j q => ∃ tj, q = .int (0 + (j : Nat) * 1) tj), (fun i q t1 => ∃ R tv ti tw, q = .ref R ∧ i < N ∧ IsRange t1.heap R 0 i 1 tv ti tw), (fun i h => IsRangeIter h J (0 + (i : Nat) * 1) ((N : Int) - (i : Nat)) 1), (fun k u => u = .bool (tr k)), rfl,
      fun B hB => Walks.range hB J 0 1 N, ?_, fun i h z => Heap.lt_size z, nol.extBut hx3 (baseNP _ _ csAt), nJ _ _ (I1.bk _ _ csAt), fun b z => absurd z (by simp), by simp, by simp, rfl, fun _ => rfl, fun _ => rfl, ?_, ?_, ?_, ?_⟩
    · show IsRangeIter hp3 J (0 + ((0 : Nat) : Int) * 1) (((N : Nat) : Int) - ((0 : Nat) : Int)) 1
      rw [nums.1, nums.2]
      have z := hx3 J _ JP atJ
      rw [eJ] at z
      exact z
    · intro B Ex i u0 u mp hB fB dB uB bu il dv kt ns hv
      obtain ⟨ti, rfl⟩ := dv
      have baseU : ∀ b o, X.base.get? b = some o → u.heap.get? b = some o := fun b o it => (kt b o (nJ _ _ (I1.bk b o it)) (keep3 b o (baseNP b o it) (I1.bk b o it))).1 (by simp)
      obtain ⟨mb, b1, b2⟩ := I1.mod.blt
      refine wpAny_Call_Name_kw (Calls.Name_function_global S.kind kf (Calls.loadGlobal_builtin (env := genEnv scope (cloFrom X.env.cells scope.names []) hp3.objs.size code builtinsNs X.env) (v := .type "range") (by show u.heap.Ns X.env.globals X.mg; rw [I1.ok.glob]; exact I1.mod.glob.keeps baseU) hmr (show u.heap.Ns builtinsNs mb from b1.keeps baseU) ((b2 _ (by decide)).trans boot_range) ?_))
      refine PyProof.Rows.callWith_type1 ?_ rfl rfl
      refine Calls.spliced_cons (wpAny_Name (wpAny_loadName_local (by exact S.kind) (by exact S.loc) ns hv ?_) dx)
      refine Calls.spliced_nil ?_
      have e : (0 : Int) + (i : Nat) * 1 = (i : Nat) := by simp
      rw [e]
      exact range_called (fun R t1 tv tw kg hr bt => ⟨kg, R, tv, ti, tw, rfl, il, hr⟩) bu
    · intro B Ex i q u hB p2 bu
      obtain ⟨R, tv, ti, tw, rfl, il, hr⟩ := p2
      exact range_walked hr (Nat.lt_trans il big) bu
    · intro B Ex i ui j uj u mp hB fB dB uB bu il dv jl dj kt ns hv hy
      obtain ⟨ti, rfl⟩ := dv
      obtain ⟨tj, rfl⟩ := dj
      have jN : j < N := Nat.lt_trans jl il
      have ei : (0 : Int) + (i : Nat) * 1 = (i : Nat) := by simp
      have ej : (0 : Int) + (j : Nat) * 1 = (j : Nat) := by simp
      rw [ei] at hv
      rw [ej] at hy
      have both : ∀ b o, b ≠ P → s1.heap.get? b = some o → u.heap.get? b = some o := fun b o nb it => (kt b o (nJ _ _ it) (keep3 b o nb it)).1 (by simp)
      obtain ⟨cc, uc, rc, look, cellAt⟩ := Cc.at I1 hvc
      cases rc
      have cellU : u.heap.IsCell cc (some (.ref a)) := by
        obtain ⟨o, ho, hd⟩ := cellAt
        refine ⟨o, both cc o (fun z => ?_) ho, hd⟩
        rw [z, atP] at ho
        cases ho
        cases hd
      have tupU : ∀ (b : Addr) (cs : List V), SqT X.K H1 b cs → ∃ its : List Value, Vals cs its ∧ IsTup u.heap b its.toArray ∧ its.toArray.size < 2 ^ 63 := fun b cs z => by
        obtain ⟨its, rv, pl, zl⟩ := I1.tuple z
        obtain ⟨o, o1, o2, m, o3⟩ := pl
        have l63 := line63
        have len := rv.length
        refine ⟨its, rv, ⟨o, both b o (fun z => ?_) o1, o2, m, o3⟩, by rw [List.size_toArray]; omega⟩
        rw [z, atP] at o1
        cases o1
        cases o3
      obtain ⟨rows, sqr, more⟩ := sq
      obtain ⟨its, rv, isV, zV⟩ := tupU _ _ sqr
      obtain ⟨ri, ci, gi, sqi, ati⟩ := more i il
      obtain ⟨rj, cj, gj, sqj, atj⟩ := more j jN
      obtain ⟨ii, rvi, isI, zI⟩ := tupU _ _ sqi
      obtain ⟨jj, rvj, isJ, zJ⟩ := tupU _ _ sqj
      obtain ⟨w1, v1, y1⟩ := rv.get gi
      obtain ⟨w2, v2, y2⟩ := rv.get gj
      cases y1
      cases y2
      obtain ⟨c1, g1, dp1, sh1⟩ := ati j jN
      obtain ⟨c2, g2, dp2, sh2⟩ := atj i il
      obtain ⟨w3, v3, y3⟩ := rvi.get g1
      obtain ⟨w4, v4, y4⟩ := rvj.get g2
      obtain ⟨as, rd1⟩ := Dp.reads I1 _ _ _ dp1 y3
      obtain ⟨bs, rd2⟩ := Dp.reads I1 _ _ _ dp2 y4
      have ga : ∀ pq : Pos, Gives X.prog X.w B Ex (genEnv scope (cloFrom X.env.cells scope.names []) hp3.objs.size code builtinsNs X.env) (.Name v pq) (.ref a) u := fun pq R z => Cc.eval S.kind rfl rfl look cellU z
      have gx : ∀ pq : Pos, Gives X.prog X.w B Ex (genEnv scope (cloFrom X.env.cells scope.names []) hp3.objs.size code builtinsNs X.env) (.Name x pq) (.int i ti) u := fun pq R z => wpAny_Name (wpAny_loadName_local (by exact S.kind) (by exact S.loc) ns hv z) dx
      have gy : ∀ pq : Pos, Gives X.prog X.w B Ex (genEnv scope (cloFrom X.env.cells scope.names []) hp3.objs.size code builtinsNs X.env) (.Name y pq) (.int j tj) u := fun pq R z => wpAny_Name (wpAny_loadName_local (by exact S.kind) (by exact sy) ns hy z) dy
      have plain : ∀ (z : Str) (pq : Pos), PlainIx (.Name z pq) := fun _ _ _ _ => rfl
      refine eq_cross (ga _) (ga _) (gx _) (gx _) (gy _) (gy _) (plain _ _) (plain _ _) (plain _ _) (plain _ _) isV zV (by simpa using v1) (by simpa using v2) isI zI isJ zJ (by simpa using v3) (by simpa using v4) (reads_but atP both rd1) (reads_but atP both rd2) sh1 sh2 (by have := hr.un; omega) ⟨?_, rfl, bu, KM.exact fun _ _ it => it⟩ (nomark _)
      show Value.bool _ = Value.bool (tr (tri i + j))
      rw [trAt i j jl]
    · intro g hp5 tk5 gs keep gsb ltg szg k5 inK Wk at5
      refine Calls.spliced_nil (call_allN ?_)
      refine Wk.in4.self _ _ _ at5 ⟨g, keep, [], _, _, _, tr, rfl, Wk.in4, at5, fun j u hu => hu, fun t' mv => ?_⟩
      obtain ⟨more, rfl⟩ := grown
      have fin := inv_gen (t' := t') (more := more) I1 hP mv.os mv.bare (fun b o nb it => by
        obtain ⟨z1, z2⟩ := mv.heap b (inK b o (nJ _ _ it) (keep3 b o nb it)) o (k5 b o (keep3 b o nb it))
        exact ⟨fun _ => z1 (by simp), z2⟩) ((mv.heap P (inK P _ JP.symm atP3) _ (k5 P _ atP3)).1 (by simp))
      rw [trAll]
      exact ⟨.bl _, _, fin, rfl, want _ ⟨⟨ptab ++ more, upd_same, ok3⟩, fun b nb => upd_ne nb⟩⟩
  refine ⟨nol, ?_⟩
  cases among : codeAmong gpos ptab.toList with
  | none =>
    refine wpAny_genexprCodeX hcode (hdC.code atP2 htr) (hdC.tab atP2) among fun c2 hp2 tk hx2 ge2 lt2 isC _ tabA _ => ?_
    obtain ⟨o1, vs, f1, tf, fl, tg, inF, tx, tt, op, _, _, _, _, _, _, _, _, _, trs, _⟩ := isC
    exact cont _ hp2 tk _ hx2 tabA.2 ⟨_, rfl⟩ trs
  | some cv =>
    refine wpAny_genexprCode_hit hcode (hdC.code atP2 htr) among ?_
    exact cont cv h2 _ ptab (Heap.ExtBut.refl _ _) atP2 ⟨#[], by simp⟩ htr
end
end V3
/-! Fractions as rational numbers: sizes, and what the reckoning of the program and of the law is. -/
namespace V3
theorem radd (x y : Rat) : x + y = Rat.divInt (x.num * (y.den : Int) + y.num * (x.den : Int)) ((x.den : Int) * (y.den : Int)) := by
  rw [Rat.add_def', ← Rat.divInt_ofNat, Int.natCast_mul]
theorem rsub (x y : Rat) : x - y = Rat.divInt (x.num * (y.den : Int) - y.num * (x.den : Int)) ((x.den : Int) * (y.den : Int)) := by
  rw [Rat.sub_def', ← Rat.divInt_ofNat, Int.natCast_mul]
theorem rmul (x y : Rat) : x * y = Rat.divInt (x.num * y.num) ((x.den : Int) * (y.den : Int)) := by
  rw [Rat.mul_def', ← Rat.divInt_ofNat, Int.natCast_mul]
theorem rdiv (x y : Rat) : x / y = Rat.divInt (x.num * (y.den : Int)) ((x.den : Int) * y.num) := by
  have e : x / y = (Rat.divInt x.num x.den) * (Rat.divInt y.den y.num) := by
    rw [Rat.div_def, Rat.inv_def, Rat.num_divInt_den]
  rw [e, Rat.divInt_mul_divInt]
theorem rnum_pos {y : Rat} (h : 0 < y) : 0 < y.num := by
  have := (Rat.lt_iff 0 y).mp h
  simpa using this
theorem rden_pos (x : Rat) : 0 < (x.den : Int) := by
  have := x.den_pos
  omega
theorem dnum {n u : Int} (h : 0 < u) : (Rat.divInt n u).num = n / (Int.gcd n u : Int) := by
  rw [Rat.num_divInt, Int.sign_eq_one_of_pos h, Int.one_mul, Int.gcd_comm]
theorem dden {n u : Int} (h : 0 < u) : ((Rat.divInt n u).den : Int) = u / (Int.gcd n u : Int) := by
  rw [Rat.den_divInt, if_neg (by omega), Int.gcd_comm]
  have : (u.natAbs : Int) = u := by omega
  rw [Int.natCast_ediv, this]
theorem rle (x y : Rat) : decide (x.num * (y.den : Int) ≤ y.num * (x.den : Int)) = decide (x ≤ y) := by
  rw [decide_eq_decide]
  exact (Rat.le_iff x y).symm
theorem rlt (x y : Rat) : decide (x.num * (y.den : Int) < y.num * (x.den : Int)) = decide (x < y) := by
  rw [decide_eq_decide]
  exact (Rat.lt_iff x y).symm
/-- sizes -/
structure Bq (b : Nat) (x : Rat) : Prop where
  n : x.num.natAbs < 2 ^ b
  d : x.den < 2 ^ b
theorem pw {a b : Nat} (h : a ≤ b) : 2 ^ a ≤ 2 ^ b := Nat.pow_le_pow_right (by decide) h
theorem Bq.mono {a b : Nat} {x : Rat} (h : Bq a x) (l : a ≤ b) : Bq b x := ⟨Nat.lt_of_lt_of_le h.n (pw l), Nat.lt_of_lt_of_le h.d (pw l)⟩
theorem bq_div {n u : Int} {b : Nat} (h : 0 < u) (hn : n.natAbs < 2 ^ b) (hu : u.natAbs < 2 ^ b) : Bq b (Rat.divInt n u) := by
  refine ⟨?_, ?_⟩
  · rw [dnum h]
    refine Nat.lt_of_le_of_lt ?_ hn
    rw [Int.natAbs_ediv_of_dvd (Int.gcd_dvd_left ..)]
    exact Nat.div_le_self _ _
  · have e := dden (n := n) h
    have l : u / (Int.gcd n u : Int) ≤ u := Int.ediv_le_self _ (by omega)
    omega
theorem mul_lt_pw {m n a b : Nat} (h1 : m < 2 ^ a) (h2 : n < 2 ^ b) : m * n < 2 ^ (a + b) := by
  rw [Nat.pow_add]
  exact Nat.mul_lt_mul'' h1 h2
theorem add_lt_pw {i j : Int} {a : Nat} (h1 : i.natAbs < 2 ^ a) (h2 : j.natAbs < 2 ^ a) : (i + j).natAbs < 2 ^ (a + 1) := by
  rw [Nat.pow_succ]
  omega
theorem sub_lt_pw {i j : Int} {a : Nat} (h1 : i.natAbs < 2 ^ a) (h2 : j.natAbs < 2 ^ a) : (i - j).natAbs < 2 ^ (a + 1) := by
  rw [Nat.pow_succ]
  omega
theorem mulI {i j : Int} {a b : Nat} (h1 : i.natAbs < 2 ^ a) (h2 : j.natAbs < 2 ^ b) : (i * j).natAbs < 2 ^ (a + b) := by
  rw [Int.natAbs_mul]
  exact mul_lt_pw h1 h2
theorem natI {n b : Nat} (h : n < 2 ^ b) : (n : Int).natAbs < 2 ^ b := by
  rw [Int.natAbs_natCast]
  exact h
theorem Bq.add {a b c : Nat} {x y : Rat} (hx : Bq a x) (hy : Bq b y) (hc : a + b + 1 ≤ c) : Bq c (x + y) := by
  refine Bq.mono ?_ hc
  rw [radd]
  refine bq_div (Int.mul_pos (rden_pos x) (rden_pos y)) ?_ ?_
  · refine add_lt_pw (mulI hx.n (natI hy.d)) ?_
    rw [Nat.add_comm]
    exact mulI hy.n (natI hx.d)
  · exact Nat.lt_of_lt_of_le (mulI (natI hx.d) (natI hy.d)) (pw (by omega))
theorem Bq.sub {a b c : Nat} {x y : Rat} (hx : Bq a x) (hy : Bq b y) (hc : a + b + 1 ≤ c) : Bq c (x - y) := by
  refine Bq.mono ?_ hc
  rw [rsub]
  refine bq_div (Int.mul_pos (rden_pos x) (rden_pos y)) ?_ ?_
  · refine sub_lt_pw (mulI hx.n (natI hy.d)) ?_
    rw [Nat.add_comm]
    exact mulI hy.n (natI hx.d)
  · exact Nat.lt_of_lt_of_le (mulI (natI hx.d) (natI hy.d)) (pw (by omega))
theorem Bq.mul {a b c : Nat} {x y : Rat} (hx : Bq a x) (hy : Bq b y) (hc : a + b ≤ c) : Bq c (x * y) := by
  refine Bq.mono ?_ hc
  rw [rmul]
  exact bq_div (Int.mul_pos (rden_pos x) (rden_pos y)) (mulI hx.n hy.n) (mulI (natI hx.d) (natI hy.d))
theorem Bq.div {a b c : Nat} {x y : Rat} (hx : Bq a x) (hy : Bq b y) (p : 0 < y) (hc : a + b ≤ c) : Bq c (x / y) := by
  refine Bq.mono ?_ hc
  rw [rdiv]
  exact bq_div (Int.mul_pos (rden_pos x) (rnum_pos p)) (mulI hx.n (natI hy.d)) (mulI (natI hx.d) hy.n)
/-- a number over D, the number up to Z -/
def Sc (D Z : Nat) (x : Rat) : Prop := ∃ z : Int, x = Rat.divInt z (D : Int) ∧ z.natAbs ≤ Z
theorem Sc.mono {D Z Z' : Nat} {x : Rat} (h : Sc D Z x) (l : Z ≤ Z') : Sc D Z' x := by
  obtain ⟨z, e, b⟩ := h
  exact ⟨z, e, by omega⟩
theorem Sc.up {D Z : Nat} {x : Rat} (k : Nat) (k0 : 0 < k) (h : Sc D Z x) : Sc (k * D) (k * Z) x := by
  obtain ⟨z, e, b⟩ := h
  refine ⟨k * z, ?_, ?_⟩
  · rw [e, Int.natCast_mul, Rat.divInt_mul_left (by omega)]
  · rw [Int.natAbs_mul, Int.natAbs_natCast]
    exact Nat.mul_le_mul_left k b
theorem Sc.add {D Z Z' : Nat} {x y : Rat} (d0 : 0 < D) (h : Sc D Z x) (g : Sc D Z' y) : Sc D (Z + Z') (x + y) := by
  obtain ⟨z, e, b⟩ := h
  obtain ⟨z', e', b'⟩ := g
  refine ⟨z + z', ?_, by omega⟩
  rw [e, e', Rat.divInt_add_divInt _ _ (by omega) (by omega), ← Int.add_mul, Rat.divInt_mul_right (by omega)]
theorem Sc.sub {D Z Z' : Nat} {x y : Rat} (d0 : 0 < D) (h : Sc D Z x) (g : Sc D Z' y) : Sc D (Z + Z') (x - y) := by
  obtain ⟨z, e, b⟩ := h
  obtain ⟨z', e', b'⟩ := g
  refine ⟨z - z', ?_, by omega⟩
  rw [e, e', Rat.divInt_sub_divInt _ _ (by omega) (by omega), ← Int.sub_mul, Rat.divInt_mul_right (by omega)]
theorem Sc.mul {D D' Z Z' : Nat} {x y : Rat} (h : Sc D Z x) (g : Sc D' Z' y) : Sc (D * D') (Z * Z') (x * y) := by
  obtain ⟨z, e, b⟩ := h
  obtain ⟨z', e', b'⟩ := g
  refine ⟨z * z', ?_, ?_⟩
  · rw [e, e', Rat.divInt_mul_divInt, Int.natCast_mul]
  · rw [Int.natAbs_mul]
    exact Nat.mul_le_mul b b'
theorem Sc.bq {D Z b : Nat} {x : Rat} (h : Sc D Z x) (d0 : 0 < D) (hD : D < 2 ^ b) (hZ : Z < 2 ^ b) : Bq b x := by
  obtain ⟨z, e, l⟩ := h
  rw [e]
  exact bq_div (by omega) (by omega) (natI hD)
theorem Sc.of {n : Int} {D : Nat} : Sc D n.natAbs (Rat.divInt n (D : Int)) := ⟨n, rfl, Nat.le_refl _⟩
/-! what is outside -/
def half : Rat := Rat.divInt 1 2
theorem half_two : half + half = 1 := by
  unfold half
  rw [Rat.divInt_add_divInt _ _ (by decide) (by decide)]
  rfl
def sureR (m s l h : Rat) : Bool := decide (s ≤ (m - l) * (h - m))
def stepR (m s l h : Rat) : Rat := if h < m then half * (m - h) else if m < l then s / (l - m) + 1 else if m = h then (m - l) + 1 else half * ((m - l) + s / (h - m))
theorem half_pos : 0 < half := by
  have := half_two
  grind
theorem sure_law {m s l h : Rat} (s0 : 0 ≤ s) (lh : l ≤ h) : sureR m s l h = (decide (l ≤ m) && decide (m ≤ h) && decide (s ≤ (m - l) * (h - m))) := by
  by_cases h1 : l ≤ m
  · by_cases h2 : m ≤ h
    · simp [h1, h2, sureR]
    · have e : (m - l) * (h - m) < 0 := by
        have a : 0 < m - l := by grind
        have b : 0 < m - h := by grind
        have := Rat.mul_pos a b
        grind
      have : ¬ s ≤ (m - l) * (h - m) := by grind
      simp [h1, h2, sureR, this]
  · have e : (m - l) * (h - m) < 0 := by
      have a : 0 < l - m := by grind
      have b : 0 < h - m := by grind
      have := Rat.mul_pos a b
      grind
    have : ¬ s ≤ (m - l) * (h - m) := by grind
    simp [h1, sureR, this]
theorem div_nonneg' {s a : Rat} (s0 : 0 ≤ s) (a0 : 0 < a) : 0 ≤ s / a := by
  rw [Rat.div_def]
  exact Rat.mul_nonneg s0 (Rat.le_of_lt (Rat.inv_pos.mpr a0))
theorem div_pos' {s a : Rat} (s0 : 0 < s) (a0 : 0 < a) : 0 < s / a := by
  rw [Rat.div_def]
  exact Rat.mul_pos s0 (Rat.inv_pos.mpr a0)
theorem step_pos {m s l h : Rat} (s0 : 0 ≤ s) (ns : ¬ s ≤ (m - l) * (h - m)) : 0 < stepR m s l h := by
  unfold stepR
  split
  · exact Rat.mul_pos half_pos (by grind)
  · split
    · have a : 0 < l - m := by grind
      have := div_nonneg' s0 a
      grind
    · split
      · grind
      · have a : 0 < h - m := by grind
        have b := div_nonneg' s0 a
        by_cases c : m = l
        · subst c
          have : 0 < s := by grind
          have := div_pos' this a
          exact Rat.mul_pos half_pos (by grind)
        · exact Rat.mul_pos half_pos (by grind)
theorem step_low {m s l h : Rat} (s0 : 0 ≤ s) (lh : l ≤ h) (ns : ¬ s ≤ (m - l) * (h - m)) : ¬ (l ≤ m - stepR m s l h ∧ m - stepR m s l h ≤ h) := by
  have ht := half_two
  have hp := half_pos
  unfold stepR
  split
  · rename_i c
    have e : half * (m - h) + half * (m - h) = m - h := by
      rw [← Rat.add_mul, ht, Rat.one_mul]
    have := Rat.mul_pos hp (show 0 < m - h by grind)
    grind
  · split
    · rename_i c
      have a : 0 < l - m := by grind
      have := div_nonneg' s0 a
      grind
    · split
      · grind
      · rename_i c1 c2 c3
        have a : 0 < h - m := by grind
        have k : m - l < s / (h - m) := by
          rw [Rat.lt_div_iff a]
          grind
        have e : half * ((m - l) + s / (h - m)) + half * ((m - l) + s / (h - m)) = (m - l) + s / (h - m) := by
          rw [← Rat.add_mul, ht, Rat.one_mul]
        grind
theorem step_up {m s l h : Rat} (s0 : 0 ≤ s) (lh : l ≤ h) (ns : ¬ s ≤ (m - l) * (h - m)) : ¬ (l ≤ m + s / stepR m s l h ∧ m + s / stepR m s l h ≤ h) := by
  have ht := half_two
  have hp := half_pos
  have st := step_pos s0 ns
  have q := div_nonneg' s0 st
  by_cases c1 : h < m
  · grind
  · by_cases c2 : m < l
    · have e : stepR m s l h = s / (l - m) + 1 := by
        unfold stepR
        rw [if_neg c1, if_pos c2]
      rw [e] at st q ⊢
      have a : 0 < l - m := by grind
      have k : s / (s / (l - m) + 1) < l - m := by
        rw [Rat.div_lt_iff' st]
        have := Rat.div_mul_cancel (a := s) (b := l - m) (by grind)
        grind
      grind
    · by_cases c3 : m = h
      · have : 0 < s := by
          subst c3
          grind
        have := div_pos' this st
        grind
      · have e : stepR m s l h = half * ((m - l) + s / (h - m)) := by
          unfold stepR
          rw [if_neg c1, if_neg c2, if_neg c3]
        rw [e] at st q ⊢
        have a : 0 < h - m := by grind
        have k : m - l < s / (h - m) := by
          rw [Rat.lt_div_iff a]
          grind
        have e2 : half * ((m - l) + s / (h - m)) + half * ((m - l) + s / (h - m)) = (m - l) + s / (h - m) := by
          rw [← Rat.add_mul, ht, Rat.one_mul]
        have k2 : h - m < s / (half * ((m - l) + s / (h - m))) := by
          rw [Rat.lt_div_iff st]
          have e3 := Rat.div_mul_cancel (a := s) (b := h - m) (by grind)
          generalize hz : s / (h - m) = z at *
          generalize hy : half * (m - l + z) = y at *
          have : y < z := by grind
          have := Rat.mul_lt_mul_of_pos_left this a
          grind
        grind
theorem out_facts {m s t : Rat} (s0 : 0 ≤ s) (t0 : 0 < t) : 0 < t * t + s ∧ 0 ≤ s / (t * t + s) ∧ 0 ≤ 1 - s / (t * t + s) ∧ m - t ≤ m + s / t ∧
    s / (t * t + s) * (m - t) + (1 - s / (t * t + s)) * (m + s / t) = m ∧ (m + s / t - (m - t)) * (m + s / t - (m - t)) * (s / (t * t + s) * (1 - s / (t * t + s))) = s := by
  have p : 0 < t * t + s := by
    have := Rat.mul_pos t0 t0
    grind
  have q := div_nonneg' s0 p
  have q2 := div_nonneg' s0 t0
  have e1 := Rat.div_mul_cancel (a := s) (b := t * t + s) (by grind)
  have e2 := Rat.div_mul_cancel (a := s) (b := t) (by grind)
  refine ⟨p, q, ?_, by grind, ?_, ?_⟩
  · have : s / (t * t + s) ≤ 1 := by
      rw [Rat.div_def]
      have := Rat.mul_le_mul_of_nonneg_right (show s ≤ t * t + s by have := Rat.mul_pos t0 t0; grind) (Rat.le_of_lt (Rat.inv_pos.mpr p))
      rw [Rat.mul_inv_cancel _ (by grind)] at this
      exact this
    grind
  · generalize s / (t * t + s) = x at *
    generalize s / t = y at *
    have : x * (t + y) = y := by
      have : t * (x * (t + y)) = t * y := by grind
      have h : t⁻¹ * (t * (x * (t + y))) = t⁻¹ * (t * y) := by rw [this]
      rw [← Rat.mul_assoc t⁻¹ t, ← Rat.mul_assoc t⁻¹ t, Rat.inv_mul_cancel _ (by grind), Rat.one_mul, Rat.one_mul] at h
      exact h
    grind
  · generalize s / (t * t + s) = x at *
    generalize s / t = y at *
    have k : x * (t + y) = y := by
      have : t * (x * (t + y)) = t * y := by grind
      have h : t⁻¹ * (t * (x * (t + y))) = t⁻¹ * (t * y) := by rw [this]
      rw [← Rat.mul_assoc t⁻¹ t, ← Rat.mul_assoc t⁻¹ t, Rat.inv_mul_cancel _ (by grind), Rat.one_mul, Rat.one_mul] at h
      exact h
    grind
end V3
set_option maxHeartbeats 4100000
set_option exponentiation.threshold 10000
/-! Words that stand in many laws: the well of draws, what lasts while it changes, fractions as data. -/
namespace V3
open PySem.Spec PySem L2 PyProof.Rows RZ GxR
theorem take_more {α : Type} : ∀ {l : List α} {i : Nat} {x : α}, l[i]? = some x → (l.take (i + 1) = l.take i ++ [x])
  | [], i, x, h => by simp at h
  | a :: l, 0, x, h => by
    (have e : a = x := Option.some.inj h)
    subst e
    rfl
  | a :: l, i + 1, x, h => by
    (have ih := take_more (l := l) (i := i) (x := x) h)
    (show a :: l.take (i + 1) = a :: l.take i ++ [x])
    rw [ih]
    rfl
theorem ixNat {n : Nat} {k : Int} {i : Nat} (e : k = (i : Int)) (h : i < n) : ixN n k = some i := by
  subst e
  unfold ixN
  (rw [if_pos (by omega), if_pos (by omega)])
  simp
theorem same_updN {H H' : Hp} {p : Addr} {o : HO} (s : Same H H') (h : H p = none) : Same H (upd H' p o) := fun b x e => by
  rw [upd_ne (ne_of_none e h)]
  exact s b x e
theorem dtAll_set {K : PySem.W.Frag} {H : Hp} {v : V} {d : PyData} : ∀ {vs : List V} {ds : List PyData} (i : Nat), DpTAll K H vs ds → DpT K H v d → DpTAll K H (vs.set i v) (ds.set i d)
  | _, _, _, .nil, _ => .nil
  | _, _, 0, .cons a b, h => .cons h b
  | _, _, i + 1, .cons a b, h => .cons a (dtAll_set i b h)
theorem cutV_mem {xs : List V} {lo hi : Option Int} {x : V} (h : x ∈ cutV xs lo hi) : x ∈ xs := List.mem_of_mem_drop (List.mem_of_mem_take h)
theorem tyT {K : PySem.W.Frag} {H : Hp} {a : Addr} {xs : List V} (h : SqT K H a xs) : TyX K H (.ref a) (.type "tuple") := by
  rcases h with (h | ⟨o, h⟩) | ⟨o, its, n, h1, h2, _⟩
  · exact .base (.tup h)
  · exact .fTuple h
  · exact .kTuple h1 h2
theorem tyL {K : PySem.W.Frag} {H : Hp} {a : Addr} {xs : List V} (h : SqL K H a xs) : TyX K H (.ref a) (.type "list") := by
  rcases h with (h | ⟨o, h⟩) | ⟨o, its, n, h1, h2, _⟩
  · exact .base (.lst h)
  · exact .base (.frz h)
  · exact .kList h1 h2
theorem at20 {α : Type} {x y : α} : atI [x, y] 0 = some x := atI_nat (j := 0) rfl
theorem at21 {α : Type} {x y : α} : atI [x, y] 1 = some y := atI_nat (j := 1) rfl
theorem at32 {α : Type} {x y z : α} : atI [x, y, z] 2 = some z := atI_nat (j := 2) rfl
theorem at30 {α : Type} {x y z : α} : atI [x, y, z] 0 = some x := atI_nat (j := 0) rfl
theorem at31 {α : Type} {x y z : α} : atI [x, y, z] 1 = some y := atI_nat (j := 1) rfl
theorem eqv_nil (ds : List PyData) : PyData.eqv (.list ds) (.list []) = decide (ds = []) := by
  cases ds with
  | nil => rfl
  | cons a r => rfl
/-- an item of a list, a tuple, inside of a comprehension -/
theorem ixLK {X : Cx} {K : PySem.W.Frag} (h : X.K = K) : IxR X (rIxL K) := by
  subst h
  exact ix_list
theorem ixTK {X : Cx} {K : PySem.W.Frag} (h : X.K = K) : IxR X (rIxT K) := by
  subst h
  exact ix_tup
/-! ### the well -/
def Well (H : Hp) (a : Addr) (k : Nat) : Prop := ∃ x y z : Int, H a = some (.lst [.int x, .int y, .int z]) ∧ 0 ≤ x ∧ 0 ≤ y ∧ y < 2147483647 ∧ 0 ≤ z ∧ z ≤ k
theorem Well.mono {H : Hp} {a : Addr} {k l : Nat} (h : Well H a k) (hk : k ≤ l) : Well H a l := by
  obtain ⟨x, y, z, h1, h2, h3, h4, h5, h6⟩ := h
  exact ⟨x, y, z, h1, h2, h3, h4, h5, by omega⟩
theorem Well.same {H H' : Hp} {a : Addr} {k : Nat} (h : Well H a k) (e : Same H H') : Well H' a k := by
  obtain ⟨x, y, z, h1, h2⟩ := h
  exact ⟨x, y, z, e _ _ h1, h2⟩
theorem Well.lst {H : Hp} {a : Addr} {k : Nat} (h : Well H a k) : ∃ xs, H a = some (.lst xs) := by
  obtain ⟨x, y, z, h1, _⟩ := h
  exact ⟨_, h1⟩
theorem Well.ne {H : Hp} {a p : Addr} {k : Nat} (h : Well H a k) (e : H p = none) : a ≠ p := fun z => by
  obtain ⟨xs, hx⟩ := h.lst
  rw [z, e] at hx
  cases hx
theorem Well.upd {H : Hp} {a p : Addr} {o : HO} {k : Nat} (h : Well H a k) (n : a ≠ p) : Well (L2.upd H p o) a k := by
  obtain ⟨x, y, z, h1, h2⟩ := h
  exact ⟨x, y, z, by rw [upd_ne n]; exact h1, h2⟩
theorem But.upd {P : Addr} {H H' : Hp} {o : HO} (e : But P H H') : But P H (upd H' P o) := fun b x n h => by
  rw [upd_ne n]
  exact e b x n h
theorem But.updN {P p : Addr} {H H' : Hp} {o : HO} (e : But P H H') (h : H p = none) : But P H (L2.upd H' p o) := fun b x n hb => by
  rw [upd_ne (ne_of_none hb h)]
  exact e b x n hb
theorem But.ktL {P : Addr} {H H' : Hp} {xs : List V} (h : But P H H') (hP : H P = some (.lst xs)) : KeepT H H' :=
  ⟨fun b xs e => h b _ (fun z => by rw [z, hP] at e; cases e) e, fun b o u e => h b _ (fun z => by rw [z, hP] at e; cases e) e⟩
theorem But.ktW {a : Addr} {k : Nat} {H H' : Hp} (h : But a H H') (hP : Well H a k) : KeepT H H' := by
  obtain ⟨xs, e⟩ := hP.lst
  exact h.ktL e
/-! ### fractions as data -/
def frd (x : Rat) : PyData := .tuple [.int x.num, .int (x.den : Int)]
def frO (x : Rat) : HO := .tup [.int x.num, .int (x.den : Int)]
section
variable {K : PySem.W.Frag} {H H' : Hp}
theorem fqT {v : V} {x : Rat} (h : DpT K H v (frd x)) : ∃ p, v = .ref p ∧ SqT K H p [.int x.num, .int (x.den : Int)] := dpFr (q := (x.num, (x.den : Int))) h.dp
theorem fqO {p : Addr} {x : Rat} (h : H p = some (frO x)) : DpT K H (.ref p) (frd x) := .tup (SqT.of h) (.cons (.int _) (.cons (.int _) .nil))
theorem fqI {p : Addr} {x : Rat} {a b : Int} (h : H p = some (.tup [.int a, .int b])) (e1 : x.num = a) (e2 : (x.den : Int) = b) : DpT K H (.ref p) (frd x) := by
  subst e1 e2
  exact fqO h
theorem fqSame {v : V} {x : Rat} (h : DpT K H v (frd x)) (s : Same H H') : DpT K H' v (frd x) := DpT.keep (Same.kt s) h
theorem eqv_frd (x y : Rat) : PyData.eqv (frd x) (frd y) = decide (x = y) := by
  have h : (x = y) ↔ (x.num = y.num ∧ (x.den : Int) = (y.den : Int)) := by
    constructor
    · intro h
      subst h
      exact ⟨rfl, rfl⟩
    · rintro ⟨h1, h2⟩
      exact Rat.ext h1 (by omega)
  have h2 : PyData.eqv (frd x) (frd y) = decide (x.num = y.num ∧ (x.den : Int) = (y.den : Int)) := by
    unfold frd
    simp [PyData.eqv, PyData.eqvAll]
    rfl
  rw [h2, decide_eq_decide]
  exact h.symm
theorem shaped_frd (x : Rat) : SeqAt.shaped (frd x) = true := rfl
theorem shaped_frds (qs : List Rat) : SeqAt.shaped (.list (qs.map frd)) = true := by
  have h1 : ∀ qs : List Rat, PyData.canLayAll0 (qs.map frd) = true := fun qs => by
    induction qs with
    | nil => rfl
    | cons a r ih => simp only [List.map_cons, PyData.canLayAll0, PyData.canLay0, frd, ih, Bool.and_self]
  have h2 : ∀ qs : List Rat, PyData.depthAll (qs.map frd) ≤ 1 := fun qs => by
    induction qs with
    | nil => exact Nat.zero_le _
    | cons a r ih =>
      have e : PyData.depth (frd a) = 1 := rfl
      rw [List.map_cons, PyData.depthAll, e]
      omega
  have := h2 qs
  unfold SeqAt.shaped
  rw [Bool.and_eq_true, decide_eq_true_eq, PyData.depth]
  exact ⟨by rw [PyData.canLay0]; exact h1 qs, by omega⟩
theorem fqLen {vs : List V} {qs : List Rat} (h : DpTAll K H vs (qs.map frd)) : vs.length = qs.length := by rw [dtAll_len h, List.length_map]
theorem fqGet {vs : List V} {qs : List Rat} {i : Nat} {x : Rat} (h : DpTAll K H vs (qs.map frd)) (e : qs[i]? = some x) : ∃ v, vs[i]? = some v ∧ DpT K H v (frd x) := dtAll_get h (by rw [List.getElem?_map, e]; rfl)
theorem fqGetV {vs : List V} {qs : List Rat} {i : Nat} {v : V} (h : DpTAll K H vs (qs.map frd)) (e : vs[i]? = some v) : ∃ x, qs[i]? = some x ∧ DpT K H v (frd x) := by
  obtain ⟨d, hd, hdp⟩ := dtAll_getV h e
  rw [List.getElem?_map] at hd
  obtain ⟨x, hx, rfl⟩ := Option.map_eq_some_iff.mp hd
  exact ⟨x, hx, hdp⟩
end
/-! ### promises of reckoning -/
def spFrac : Sp := fun vs H Q _ => ∃ n u : Int, vs = [.int n, .int u] ∧ 0 < u ∧ u.natAbs < 2 ^ 9000 ∧ ∀ H' p, Same H H' → H' p = some (frO (Rat.divInt n u)) → Q (.ref p) H'
def spR2 (K : PySem.W.Frag) (f : Rat → Rat → Rat) (pre : Rat → Prop) : Sp := fun vs H Q _ => ∃ (v w : V) (x y : Rat), vs = [v, w] ∧ DpT K H v (frd x) ∧ DpT K H w (frd y) ∧ Bq 4000 x ∧ Bq 4000 y ∧ pre y ∧
  ∀ H' p, Same H H' → H' p = some (frO (f x y)) → Q (.ref p) H'
def spR2b (K : PySem.W.Frag) (f : Rat → Rat → Bool) : Sp := fun vs H Q _ => ∃ (v w : V) (x y : Rat), vs = [v, w] ∧ DpT K H v (frd x) ∧ DpT K H w (frd y) ∧ Bq 4000 x ∧ Bq 4000 y ∧ Q (.bl (f x y)) H
theorem mulW4 {i j : Int} (h : i.natAbs < 2 ^ 4000) (h' : j.natAbs < 2 ^ 4000) : CMulW i j := wide_mul h h' (by decide) (by decide) (by decide)
theorem sz4 {i j : Int} (h : i.natAbs < 2 ^ 4000) (h' : j.natAbs < 2 ^ 4000) : (i * j).natAbs < 2 ^ 9000 := Nat.lt_of_lt_of_le (mulI h h') (pw (by decide))
theorem gcdP {n u : Int} (h : 0 < u) : 0 < (Int.gcd n u : Int) := by
  have : 0 < Int.gcd n u := Int.gcd_pos_of_ne_zero_right n (by omega)
  omega
theorem gcdL {n u : Int} (h : 0 < u) : (Int.gcd n u : Int) ≤ u := Int.le_of_dvd h (Int.gcd_dvd_right ..)
/-- what makes a fraction is that number -/
theorem made {n u : Int} {H : Hp} {p : Addr} (h : 0 < u) (e : H p = some (.tup [.int (n / (Int.gcd n u : Int)), .int (u / (Int.gcd n u : Int))])) : H p = some (frO (Rat.divInt n u)) := by
  rw [e]
  unfold frO
  rw [dnum h, dden h]
end V3
namespace V3
open PySem.Spec PySem L2 PyProof.Rows RZ GxR
theorem pi_listK {X : Cx} {K : PySem.W.Frag} {tg l : Expr} {tl : TE} (h : X.K = K) (hl : PE X l tl) : PI X tg l (iList K tl) := by
  subst h
  exact pi_list hl
theorem pi_tupK {X : Cx} {K : PySem.W.Frag} {tg l : Expr} {tl : TE} (h : X.K = K) (hl : PE X l tl) : PI X tg l (iTup K tl) := by
  subst h
  exact pi_tup hl
end V3
/-! Any values: their kinds, how they last, a sequence beside the empty one, repr of a truth. -/
namespace V3
open PySem.Spec PySem L2 PyProof.Rows RZ GxR
/-- a value: a whole number, a tuple, or anything else -/
inductive D where
  | int (i : Int)
  | oth
  | tup (ds : List D)
mutual
/-- v is such a value; nothing of it stands at a -/
inductive An (K : PySem.W.Frag) (a : Addr) (H : Hp) : V → D → Prop
  | int (i : Int) : An K a H (.int i) (.int i)
  | non : An K a H .non .oth
  | bl (b : Bool) : An K a H (.bl b) .oth
  | str (x : Str) : An K a H (.str x) .oth
  | lst {p : Addr} {xs : List V} : SqL K H p xs → p ≠ a → An K a H (.ref p) .oth
  | dic {p : Addr} {kvs : List (Key × V)} : (H p = some (.dK kvs) ∨ ∃ o, H p = some (.frz o (.dK kvs))) → p ≠ a → An K a H (.ref p) .oth
  | tup {p : Addr} {xs : List V} {ds : List D} : SqT K H p xs → True → AnAll K a H xs ds → An K a H (.ref p) (.tup ds)
inductive AnAll (K : PySem.W.Frag) (a : Addr) (H : Hp) : List V → List D → Prop
  | nil : AnAll K a H [] []
  | cons {v : V} {vs : List V} {d : D} {ds : List D} : An K a H v d → AnAll K a H vs ds → AnAll K a H (v :: vs) (d :: ds)
end
/-- all but what stands at a, and but tables of code, stands -/
def KeepA (a : Addr) (H H' : Hp) : Prop := ∀ b o, (b ≠ a ∨ ∀ xs, o ≠ .lst xs) → (∀ q, o ≠ .tbl q) → H b = some o → H' b = some o
section
variable {K : PySem.W.Frag} {a : Addr} {H H' H2 : Hp}
theorem KeepA.trans (h : KeepA a H H') (g : KeepA a H' H2) : KeepA a H H2 := fun b o n t e => g b o n t (h b o n t e)
theorem But.keepA {xs : List V} (h : But a H H') (l : H a = some (.lst xs)) : KeepA a H H' := fun b o n _ e => h b o (fun z => by
  subst z
  rw [l] at e
  cases e
  exact n.elim (fun u => u rfl) (fun u => u xs rfl)) e
theorem Same.keepA (h : Same H H') : KeepA a H H' := fun b o _ _ e => h b o e
theorem Tabbed.keepA {P : Addr} (t : TabG H P) (h : But P H H') : KeepA a H H' := fun b o n tb e => h b o (fun z => by
  obtain ⟨ps, hp, _⟩ := t
  rw [z, hp] at e
  exact tb ps (Option.some.inj e).symm) e
theorem KeepA.sqT {p : Addr} {xs : List V} (k : KeepA a H H') (_ : True) (h : SqT K H p xs) : SqT K H' p xs := by
  (rcases h with (h | ⟨o, h⟩) | h)
  · exact .inl (.inl (k _ _ (.inr fun _ z => nomatch z) (fun _ z => nomatch z) h))
  · exact .inl (.inr ⟨o, k _ _ (.inr fun _ z => nomatch z) (fun _ z => nomatch z) h⟩)
  · exact .inr h
theorem KeepA.sqL {p : Addr} {xs : List V} (k : KeepA a H H') (n : p ≠ a) (h : SqL K H p xs) : SqL K H' p xs := by
  (rcases h with (h | ⟨o, h⟩) | h)
  · exact .inl (.inl (k _ _ (.inl n) (fun _ z => nomatch z) h))
  · exact .inl (.inr ⟨o, k _ _ (.inl n) (fun _ z => nomatch z) h⟩)
  · exact .inr h
theorem KeepA.dic {p : Addr} {kvs : List (Key × V)} (k : KeepA a H H') (n : p ≠ a) (h : H p = some (.dK kvs) ∨ ∃ o, H p = some (.frz o (.dK kvs))) : H' p = some (.dK kvs) ∨ ∃ o, H' p = some (.frz o (.dK kvs)) := by
  rcases h with e | ⟨o, e⟩
  · exact .inl (k _ _ (.inl n) (fun _ z => nomatch z) e)
  · exact .inr ⟨o, k _ _ (.inl n) (fun _ z => nomatch z) e⟩
theorem fastDic {P : Program} {w : World} {h : Heap} {p : Addr} {kvs : List (Key × V)} (ok : HOk P w H h) (x : H p = some (.dK kvs) ∨ ∃ o, H p = some (.frz o (.dK kvs))) : V3.fast h H p = some (.dK kvs) ∨ ∃ o, V3.fast h H p = some (.frz o (.dK kvs)) := by
  rcases x with e | ⟨o, e⟩
  · exact .inr (fast_dK ok e)
  · exact .inr ⟨o, by unfold V3.fast; rw [e]⟩
end
mutual
theorem An.keep {K : PySem.W.Frag} {a : Addr} {H H' : Hp} (k : KeepA a H H') : ∀ {v : V} {d : D}, An K a H v d → An K a H' v d
  | _, _, .int i => .int i
  | _, _, .non => .non
  | _, _, .bl b => .bl b
  | _, _, .str x => .str x
  | _, _, .lst h n => .lst (k.sqL n h) n
  | _, _, .dic h n => .dic (k.dic n h) n
  | _, _, .tup h n x => .tup (k.sqT n h) n (AnAll.keep k x)
theorem AnAll.keep {K : PySem.W.Frag} {a : Addr} {H H' : Hp} (k : KeepA a H H') : ∀ {vs : List V} {ds : List D}, AnAll K a H vs ds → AnAll K a H' vs ds
  | _, _, .nil => .nil
  | _, _, .cons x y => .cons (An.keep k x) (AnAll.keep k y)
end
mutual
theorem An.fast {P : Program} {w : World} {K : PySem.W.Frag} {a : Addr} {h : Heap} {H : Hp} (ok : HOk P w H h) : ∀ {v : V} {d : D}, An K a H v d → An K a (V3.fast h H) v d
  | _, _, .int i => .int i
  | _, _, .non => .non
  | _, _, .bl b => .bl b
  | _, _, .str x => .str x
  | _, _, .lst s n => .lst (fastL ok s) n
  | _, _, .dic e n => .dic (fastDic ok e) n
  | _, _, .tup s n x => .tup (fastT ok s) n (AnAll.fast ok x)
theorem AnAll.fast {P : Program} {w : World} {K : PySem.W.Frag} {a : Addr} {h : Heap} {H : Hp} (ok : HOk P w H h) : ∀ {vs : List V} {ds : List D}, AnAll K a H vs ds → AnAll K a (V3.fast h H) vs ds
  | _, _, .nil => .nil
  | _, _, .cons x y => .cons (An.fast ok x) (AnAll.fast ok y)
end
/-- the name of the kind, as far as it is asked -/
def D.kind : D → String → Prop
  | .int _, T => T = "int"
  | .tup _, T => T = "tuple"
  | .oth, T => T ≠ "int" ∧ T ≠ "tuple"
section
variable {K : PySem.W.Frag} {a : Addr} {H : Hp}
theorem anLen {vs : List V} {ds : List D} (h : AnAll K a H vs ds) : vs.length = ds.length := by
  induction ds generalizing vs with
  | nil =>
    cases h
    rfl
  | cons d ds ih =>
    cases h with
    | cons x y => rw [List.length_cons, List.length_cons, ih y]
theorem anGetV {vs : List V} {ds : List D} {i : Nat} {v : V} (h : AnAll K a H vs ds) (e : vs[i]? = some v) : ∃ d, ds[i]? = some d ∧ An K a H v d := by
  induction ds generalizing vs i with
  | nil =>
    cases h
    simp at e
  | cons x ds ih =>
    cases h with
    | cons b c =>
      cases i with
      | zero =>
        have q := Option.some.inj e
        subst q
        exact ⟨_, rfl, b⟩
      | succ i =>
        have q := ih (i := i) c
        exact q e
theorem anGet {vs : List V} {ds : List D} {i : Nat} {d : D} (h : AnAll K a H vs ds) (e : ds[i]? = some d) : ∃ v, vs[i]? = some v ∧ An K a H v d := by
  induction ds generalizing vs i with
  | nil => simp at e
  | cons x ds ih =>
    cases h with
    | cons b c =>
      cases i with
      | zero =>
        have q : x = d := Option.some.inj e
        subst q
        exact ⟨_, rfl, b⟩
      | succ i =>
        have q := ih (i := i) c
        exact q e
theorem anApp {vs ws : List V} {ds es : List D} (h : AnAll K a H vs ds) (g : AnAll K a H ws es) : AnAll K a H (vs ++ ws) (ds ++ es) := by
  induction ds generalizing vs with
  | nil =>
    cases h
    exact g
  | cons x ds ih =>
    cases h with
    | cons b c => exact .cons b (ih c)
theorem anTake : ∀ {vs : List V} {ds : List D} (i : Nat), AnAll K a H vs ds → AnAll K a H (vs.take i) (ds.take i)
  | _, _, 0, _ => .nil
  | _, _, _ + 1, .nil => .nil
  | _, _, i + 1, .cons x y => .cons x (anTake i y)
theorem anDrop : ∀ {vs : List V} {ds : List D} (i : Nat), AnAll K a H vs ds → AnAll K a H (vs.drop i) (ds.drop i)
  | _, _, 0, h => h
  | _, _, _ + 1, .nil => .nil
  | _, _, i + 1, .cons x y => anDrop i y
theorem anTup {v : V} {ds : List D} (h : An K a H v (.tup ds)) : ∃ p xs, v = .ref p ∧ SqT K H p xs ∧ True ∧ AnAll K a H xs ds := by
  cases h with
  | tup x n y => exact ⟨_, _, rfl, x, n, y⟩
theorem anInt {v : V} {i : Int} (h : An K a H v (.int i)) : v = .int i := by
  cases h
  rfl
/-- its kind, for isinstance -/
theorem An.tyx {v : V} {d : D} (h : An K a H v d) : ∃ T, TyX K H v (.type T) ∧ d.kind T := by
  cases h with
  | int i => exact ⟨"int", .base (.int i), rfl⟩
  | non => exact ⟨"NoneType", .base .non, by decide, by decide⟩
  | bl b => exact ⟨"bool", .base (.bl b), by decide, by decide⟩
  | str x => exact ⟨"str", .base (.str x), by decide, by decide⟩
  | lst s n => exact ⟨"list", tyL s, by decide, by decide⟩
  | dic e n =>
    rcases e with e | ⟨o, e⟩
    · exact ⟨"dict", .base (.dK e), by decide, by decide⟩
    · exact ⟨"dict", .fDict e, by decide, by decide⟩
  | tup s n x => exact ⟨"tuple", tyT s, rfl⟩
end
/-! ### type(x), also of a dict that is held fast -/
section
variable {X : Cx}
variable {pins : List (Addr × Obj)} {σ : L2.St} {H : Hp} {s : Shared}
def rTypA (K : PySem.W.Frag) : List V → Hp → VK → Prop := fun vs H Q => ∃ a x d, vs = [x] ∧ An K a H x d ∧ ∀ T, d.kind T → Q (.ty T) H
theorem An.is {a : Addr} {x : V} {u : Value} {d : D} (I : Inv X pins σ H s) (rx : RelV x u) (t : An X.K a H x d) : ∃ T, s.TypeIs u T ∧ d.kind T ∧ (Value.type T == Value.type "builtin_function_or_method") = false := by
  cases t with
  | int i => exact ⟨"int", (TyB.int i).is I rx, rfl, by decide +kernel⟩
  | non => exact ⟨"NoneType", TyB.non.is I rx, ⟨by decide, by decide⟩, by decide +kernel⟩
  | bl b => exact ⟨"bool", (TyB.bl b).is I rx, ⟨by decide, by decide⟩, by decide +kernel⟩
  | str y => exact ⟨"str", (TyB.str y).is I rx, ⟨by decide, by decide⟩, by decide +kernel⟩
  | lst h n => exact ⟨"list", (TyB.lst h).is I rx, ⟨by decide, by decide⟩, by decide +kernel⟩
  | @dic p kvs h n =>
    rcases h with h | ⟨o, h⟩
    · exact ⟨"dict", (TyB.dK h).is I rx, ⟨by decide, by decide⟩, by decide +kernel⟩
    · refine ⟨"dict", ?_, ⟨by decide, by decide⟩, by decide +kernel⟩
      cases (show u = Value.ref p from rx)
      obtain ⟨_, _, _, vs, _, pr⟩ := (show ObjOk X.prog X.w H s.heap p (.frz o (.dK kvs)) from I.hok p _ h)
      exact pr.typeIs
  | tup h n y => exact ⟨"tuple", (TyB.tup h).is I rx, rfl, by decide +kernel⟩
theorem call_typeA : CallR X (.type "type") (rTypA X.K) := by
  (intro pins s σ H xs us Q I r h)
  obtain ⟨a, x, d, rfl, t, q⟩ := h
  (obtain ⟨u, rfl, rx⟩ := vals1 r)
  obtain ⟨T, h1, h2, h3⟩ := t.is I rx
  exact call_type_of h1 h3 ⟨.ty T, H, I, rfl, q T h2⟩
/-! ### repr of a truth -/
theorem call_repr_bl : CallR X (.builtin "repr") (fun xs H Q => ∃ b, xs = [.bl b] ∧ Q (.str (if b then "True" else "False")) H) := by
  (intro pins s σ H xs us Q I r h)
  obtain ⟨b, rfl, q⟩ := h
  (obtain ⟨u, rfl, rx⟩ := vals1 r)
  cases rx
  exact PySem.P.repr_of_bool ⟨.str _, H, I.tok _, ⟨_, rfl⟩, q⟩
/-! ### a list, a tuple, beside the empty one -/
def rNeNil (K : PySem.W.Frag) : R2 := fun x y H Q => ∃ p q xs, x = .ref p ∧ y = .ref q ∧ ((SqL K H p xs ∧ SqL K H q []) ∨ (SqT K H p xs ∧ SqT K H q [])) ∧ Q (.bl (!decide (xs = []))) H
theorem op_neNil (hu : X.A.units + 64 < cLine) : OpR X (compareOp .NotEq) (rNeNil X.K) := by
  (intro pins s σ H x y v u Q I rx ry h)
  obtain ⟨p, q, xs, rfl, rfl, hh, qq⟩ := h
  (cases (show v = Value.ref p from rx))
  cases (show u = Value.ref q from ry)
  have room : X.A.units < cLine := by omega
  rcases hh with ⟨h1, h2⟩ | ⟨h1, h2⟩
  · obtain ⟨its, rv, pl, zl⟩ := I.list h1
    obtain ⟨its2, rv2, pl2, zl2⟩ := I.list h2
    have l1 := rv.length
    cases rv2
    by_cases e : xs = []
    · subst e
      cases rv
      refine SeqAt.RcNeAt.lists pl.isList pl2.isList rfl room (e := fun _ => true) (fun j h1 h2 => absurd h1 (by simp)) X.prog X.w _ _ ?_
      exact ⟨.bl _, H, I, rfl, qq⟩
    · refine SeqAt.RcNeAt.lists_lengths pl.isList pl2.isList ?_ room X.prog X.w _ _ ?_
      · have : its.length ≠ 0 := by
          rw [← l1]
          exact fun z => e (List.length_eq_zero_iff.mp z)
        simp
        intro z
        rw [z] at this
        exact this rfl
      · have e2 : (!decide (xs = [])) = true := by simp [e]
        rw [e2] at qq
        exact ⟨.bl _, H, I, rfl, qq⟩
  · obtain ⟨its, rv, ⟨o1, a1, a2, n1, a3⟩, zl⟩ := I.tuple h1
    obtain ⟨its2, rv2, ⟨o2, b1, b2, n2, b3⟩, zl2⟩ := I.tuple h2
    have l1 := rv.length
    cases rv2
    refine SeqAt.RcNeAt.tuples (items := its.toArray) (items2 := #[]) ⟨o1, a1, a2, n1, a3⟩ ⟨o2, b1, b2, n2, b3⟩ room (e := fun _ => true) (fun j h1 h2 => absurd h2 (by simp)) X.prog X.w _ _ ?_
    have e2 : (!((List.range (min its.toArray.size (#[] : Array Value).size)).all (fun _ => true) && its.toArray.size == (#[] : Array Value).size)) = !decide (xs = []) := by
      cases xs with
      | nil =>
        cases rv
        rfl
      | cons x r =>
        cases rv with
        | cons u us => rfl
    rw [e2]
    exact ⟨.bl _, H, I, rfl, qq⟩
end
mutual
/-- data of tuples, numbers and others, as a value -/
def conv : PyData → D
  | .int i => .int i
  | .tuple ds => .tup (convs ds)
  | _ => .oth
def convs : List PyData → List D
  | [] => []
  | d :: r => conv d :: convs r
end
theorem convs_map : ∀ (ds : List PyData), convs ds = ds.map conv
  | [] => rfl
  | d :: r => by
    rw [List.map_cons, ← convs_map r]
    rfl
mutual
theorem DpT.an {K : PySem.W.Frag} {a : Addr} {H : Hp} : ∀ {v : V} {d : PyData}, DpT K H v d → An K a H v (conv d)
  | _, _, .non => .non
  | _, _, .bl b => .bl b
  | _, _, .int i => .int i
  | _, _, .str x => .str x
  | _, _, .tup s x => .tup s trivial (DpTAll.an x)
theorem DpTAll.an {K : PySem.W.Frag} {a : Addr} {H : Hp} : ∀ {vs : List V} {ds : List PyData}, DpTAll K H vs ds → AnAll K a H vs (convs ds)
  | _, _, .nil => .nil
  | _, _, .cons x y => .cons (DpT.an x) (DpTAll.an y)
end
end V3
/-! Defs that are called where no repr is under way: their promise, a call of one, and the law's end. -/
namespace V3
open PySem.Spec PySem L2 PyProof.Rows RZ GxR
/-- a promise of a def wherever no repr is under way -/
structure FnG (P : Program) (w : World) (K : PySem.W.Frag) (mg : Str → Option Value) (base : Heap) (k : Nat) (f : Addr) (fd : FuncData) (ps : List Str) (sp : Sp) : Prop where
  many : ∀ vs H Q E, sp vs H Q E → vs.length = ps.length
  goes : ∀ (B : Around) (over : List Env) (t : Shared) (H : Hp) (gs : Args) (ws : List Value) (vs : List V) (Q : VK) (E : XK), B.guards = some [] → Room k B → Env0 P w K mg base B over t H → BindsTo t fd gs (ps.zip ws) → Vals vs ws → sp vs H Q E →
    codeAny (model P w) B (.call (.ref f) gs) (CR CX0 over P w H t Q E) t
structure Dg (P : Program) (w : World) (K : PySem.W.Frag) (mg : Str → Option Value) (base : Heap) (x : Str) (k : Nat) (ps : List Str) (sp : Sp) : Prop where
  ex : ∃ (f : Addr) (fd : FuncData), mg x = some (.ref f) ∧ PySem.W.keepIn K (.ref f) = true ∧ Binds K fd ps [] ∧ FnG P w K mg base k f fd ps sp ∧ ∃ (oc : Value) (od : Option Addr) (osl : Array (Option Value)), K.lookup f = some ⟨oc, od, .func fd, osl⟩
section
variable {mg : Str → Option Value} {base : Heap} {K : PySem.W.Frag} {P : Program} {w : World}
theorem Df.g {x : Str} {ps : List Str} {k : Nat} {sp : Sp} (D : Df P w K mg base x k ps sp) : Dg P w K mg base x k ps sp := by
  obtain ⟨f, fd, g, kp, b, G, l⟩ := D.ex
  exact ⟨f, fd, g, kp, b, ⟨G.len, fun B over t H gs ws vs Q E _ hr => G.run B over t H gs ws vs Q E hr⟩, l⟩
theorem Dg.mk' {x : Str} {st : Stmt} {N ps : List Str} {k : Nat} {sp : Sp} (F : At K mg x st) (S : FnScope N ps (defScope st)) (many : ∀ vs H Q E, sp vs H Q E → vs.length = ps.length)
    (hb : ∀ (kV doc pm : Value) (an : Option Addr) (cdv ct : Value) (us : List Value), us.length = ps.length → bindArgs (PySem.W.fnOf x x (defArgs st) (defBody st) (defScope st) .none kV doc pm an cdv ct) ⟨us, []⟩ = pure (ps.zip us))
    (does : ∀ (f : Addr) (cdv : Value) (B : Around) (outer : List Env) (s : Shared) (H : Hp) (vs : List V) (Q : VK) (E : XK), Room k (B.deeper (envOfC x (defScope st) s.heap.objs.size f cdv)) → B.guards = some [] → sp vs H Q E →
      ∃ t, PSs (cxOf CX0 P w K mg base N x (defScope st) f cdv B outer s H E).nox (defBody st) t ∧ t { nx := fun _ H' => Q .non H', rt := Q } (start N vs) H) : Dg P w K mg base x (k + 1) ps sp := by
  obtain ⟨f, fd, g, F⟩ := F.ex
  have F' := F
  obtain ⟨oc, od, kV, doc, pm, an, cdv, ct, osl, e, lk, code⟩ := F.ex
  subst e
  refine ⟨f, _, g, F.kp, F'.binds hb, ⟨many, fun B over t H gs ws vs Q E quiet room e0 bound same ask => ?_⟩, oc, od, osl, lk⟩
  obtain ⟨tr, typed, reads⟩ := does f cdv B over t H vs Q E (room.deeper _) quiet ask
  have there : ∀ b o, base.get? b = some o → t.heap.get? b = some o := fun b o it => (e0.bs b o it).1
  have kin := e0.mod.kin.keeps there
  refine codeAny_call_function room.depth (kin _ _ lk) rfl S.co S.gen rfl (PySem.W.codeRec_of kin code) (bound _ _ _ _ (wpAny_newFunctionEnv_cells S.kind (fun y hy => ?_) fun env he t1 new => ?_))
  · obtain ⟨n, v⟩ := y
    exact (S.par n (List.of_mem_zip hy).1).imp id fun c => ⟨c, PySem.W.cellsFrom_some _ _ _ (.inl c)⟩
  subst he
  have start := inv_start (CX := CX0) (E := E) S room.hd e0 (many _ _ _ _ ask) same new
  refine ⟨(e0.mod.nolimit.keeps there).keeps new.toInCall.keep, codeAny_func (wpAny_mono (typed.nox.run [] t1 _ H _ start reads) (fun fl t2 done => ?_) fun _ _ z => z)⟩
  cases fl with
  | next =>
    obtain ⟨σ2, H2, J, q⟩ := done
    exact ⟨.non, H2, J.os, J.bare, J.base, J.hok, rfl, q⟩
  | ret u =>
    obtain ⟨v, σ2, H2, J, rv, q⟩ := done
    exact ⟨v, H2, J.os, J.bare, J.base, J.hok, rv, q⟩
  | brk =>
    obtain ⟨_, _, _, never⟩ := done
    exact never.elim
  | cont =>
    obtain ⟨_, _, _, never⟩ := done
    exact never.elim
end
section
variable {X : Cx}
/-- a call of such a def, no repr under way here -/
theorem pe_fng {x : Str} {p pos : Pos} {e : Expr} {es : List Expr} {ta : TA} {k k0 : Nat} {ps : List Str} {sp : Sp} (D : Dg X.prog X.w X.K X.mg X.base x k ps sp) (hk : k ≤ k0) (hr : Room k0 X.A) (quiet : X.A.guards = some []) (ha : PA X (e :: es) ta)
    (hg : Gl X x := by rfl) (hdb : (x == ("__debug__" : Str)) = false := by decide) (he : starEach (e :: es) X.env = (false, eval e X.env) :: starEach es X.env := by rfl) (hpl : (backTo pos (starEach es X.env)).any (·.1) = false := by rfl) :
    PE X (.Call (.Name x p) (e :: es) [] pos) (tFn sp ta) := by
  obtain ⟨f, fd, g, kept, bd, G, _⟩ := D.ex
  refine ⟨fun pins s σ H Q I asks => wpAny_Call_Name_kw (ld_glob I hg g (PySem.W.callWith_K (h₀ := X.base) I.ok.mod.kin kept (thn (ha.run pos pins s σ H _ I asks) fun us s1 ⟨vs, H1, J, same, ask⟩ => ⟨J.kIn, ?_⟩) he hpl) hdb)⟩
  have size : us.length = ps.length := same.length.symm.trans (G.many _ _ _ _ ask)
  have bs := bd s1 us J.kIn (by rw [List.append_nil]; exact size)
  rw [List.append_nil] at bs
  refine wpAny_call (codeAny_mono (G.goes X.A X.stack s1 H1 _ us vs Q E0 quiet (hr.mono hk) J.env0 bs same ask) fun r s2 done => ?_)
  match r, done with
  | .ok (.ret u), done => exact J.after done
end
end V3
/-! repr of data where none is under way; the end of a law whose defs want that. -/
namespace V3
open PySem.Spec PySem L2 PyProof.Rows RZ GxR
def rReprD (K : PySem.W.Frag) : List V → Hp → VK → Prop := fun xs H Q => ∃ v d, xs = [v] ∧ Dp K H v d ∧ isDisplay d = true ∧ d.showable = true ∧ d.hasDict = false ∧ d.depth ≤ 60 ∧ d.shown.length ≤ sizeLine ∧ Q (.str d.shown) H
theorem call_reprD {X : Cx} (quiet : X.A.guards = some []) (small : X.A.units + 64 < cLine) : CallR X (.builtin "repr") (rReprD X.K) := by
  (intro pins s σ H xs us Q I r h)
  obtain ⟨v, d, rfl, hd, disp, sh, nd, dep, len, q⟩ := h
  (obtain ⟨u, rfl, ru⟩ := vals1 r)
  obtain ⟨as, rd⟩ := Dp.reads I d v u hd ru
  obtain ⟨b, rfl⟩ := isRef_of_reads rd disp
  exact repr_of_reads' rd sh (PyData.noDict_hsm nd) quiet (by omega) (fun _ _ z => z) (fun h2 tx tk grown => ⟨.str _, H, I.kept grown, ⟨tx, rfl⟩, q⟩) len
/-- what is tracked when a law begins: its script, if it is none of the kept objects, and the tables of code -/
def scripted (K : PySem.W.Frag) (a : Addr) (T : List Addr) (o : Obj) (ns : List Int) : Hp := fun b => if b ∈ T then some (.tbl #[]) else if b = a ∧ K.lookup a = none then some (.frz o (.lst (ns.map V.int))) else none
section
variable {K : PySem.W.Frag} {a b : Addr} {T : List Addr} {o : Obj} {ns : List Int}
theorem scripted_tab (h : b ∈ T) : scripted K a T o ns b = some (.tbl #[]) := if_pos h
theorem scripted_out (h : b ∉ T) (n : b ≠ a) : scripted K a T o ns b = none := by
  unfold scripted
  rw [if_neg h, if_neg fun z => n z.1]
theorem scripted_some {u : HO} (h : scripted K a T o ns b = some u) : (b ∈ T ∧ u = .tbl #[]) ∨ (b ∉ T ∧ b = a ∧ K.lookup a = none ∧ u = .frz o (.lst (ns.map V.int))) := by
  unfold scripted at h
  by_cases hT : b ∈ T
  · rw [if_pos hT] at h
    exact .inl ⟨hT, (Option.some.inj h).symm⟩
  · rw [if_neg hT] at h
    by_cases hn : b = a ∧ K.lookup a = none
    · rw [if_pos hn] at h
      exact .inr ⟨hT, hn.1, hn.2, (Option.some.inj h).symm⟩
    · rw [if_neg hn] at h
      cases h
end
/-- what stands when a law begins -/
structure Begun (K : PySem.W.Frag) (mg : Str → Option Value) (cs : List (Addr × Addr)) (a : Addr) (vs : List Value) (ns : List Int) (s : Shared) : Prop where
  kin : K.In s.heap
  glob : s.heap.Ns mainGlobals mg
  blt : ∃ mb, s.heap.Ns builtinsNs mb ∧ ∀ x : Str, x ≠ "__name__" → mb x = bootBuiltins x
  nolim : s.heap.NoLimit
  gens : s.gens = #[]
  empty : ∀ p ∈ cs, s.heap.get? p.2 = some { cls := .none, data := .fields #[] }
  out : ∀ p ∈ cs, K.lookup p.2 = none
  head : ∀ p ∈ cs, PySem.W.CodeHd s.heap p.1 p.2
  bm : ∃ (bm : Addr) (ob : Obj), mg "__builtins__" = some (.ref bm) ∧ bm ≠ builtinsNs ∧ s.heap.get? bm = some ob ∧ ob.cls = .type "module" ∧ ob.dict = some builtinsNs ∧ ob.data = .plain
  script : s.heap.get? a = some { cls := .type "list", data := .seq vs.toArray }
  nums : IntsAre vs ns
  few : ns.length ≤ sizeLine
section
variable {K : PySem.W.Frag} {mg : Str → Option Value} {cs : List (Addr × Addr)} {a : Addr} {vs : List Value} {ns : List Int} {s : Shared}
abbrev Hb (K : PySem.W.Frag) (cs : List (Addr × Addr)) (a : Addr) (vs : List Value) (ns : List Int) : Hp := scripted K a (cs.map (·.2)) { cls := .type "list", data := .seq vs.toArray } ns
theorem Begun.tabs (B : Begun K mg cs a vs ns s) {b : Addr} (h : b ∈ cs.map (·.2)) : s.heap.get? b = some { cls := .none, data := .fields #[] } := by
  (obtain ⟨p, hp, rfl⟩ := List.mem_map.mp h)
  exact B.empty p hp
/-- what is neither a list nor a table is not tracked -/
theorem Begun.free (B : Begun K mg cs a vs ns s) {b : Addr} {o : Obj} (e : s.heap.get? b = some o) (n1 : ∀ us n, o.data ≠ .seq us n) (n2 : o.data ≠ .fields #[]) : Hb K cs a vs ns b = none := by
  refine scripted_out (fun z => ?_) fun z => ?_
  · rw [B.tabs z] at e
    exact n2 (by rw [← Option.some.inj e])
  · rw [z, B.script] at e
    cases e
    exact n1 _ _ rfl
theorem Begun.kept (B : Begun K mg cs a vs ns s) {b : Addr} {o : Obj} (e : s.heap.get? b = some o) (n : Hb K cs a vs ns b = none) : (hidT s.heap (Hb K cs a vs ns)).get? b = some o := hidT_get e n
theorem Begun.nsB (B : Begun K mg cs a vs ns s) {b : Addr} {m : Str → Option Value} (h : s.heap.Ns b m) : (hidT s.heap (Hb K cs a vs ns)).Ns b m := by
  obtain ⟨o, es, ep, e, d, r⟩ := h
  exact ⟨o, es, ep, B.kept e (B.free e (fun us n z => by rw [d] at z; cases z) fun z => by rw [d] at z; cases z), d, r⟩
theorem Begun.hok (B : Begun K mg cs a vs ns s) {P : Program} {w : World} : HOk P w (Hb K cs a vs ns) s.heap := by
  intro b u e
  rcases scripted_some e with ⟨m, rfl⟩ | ⟨_, rfl, _, rfl⟩
  · exact B.tabs m
  · exact ⟨B.script, by rw [List.length_map]; exact B.few, vs, _, vals_ints B.nums, B.script⟩
theorem Begun.kinB (B : Begun K mg cs a vs ns s) : K.In (hidT s.heap (Hb K cs a vs ns)) := by
  intro b o e
  refine B.kept (B.kin b o e) ?_
  cases q : Hb K cs a vs ns b with
  | none => rfl
  | some u =>
    rcases scripted_some q with ⟨m, _⟩ | ⟨_, rfl, n, _⟩
    · obtain ⟨p, hp, rfl⟩ := List.mem_map.mp m
      rw [B.out p hp] at e
      cases e
    · rw [n] at e
      cases e
theorem Begun.seq (B : Begun K mg cs a vs ns s) : SqL K (Hb K cs a vs ns) a (ns.map V.int) := by
  have notT : a ∉ cs.map (·.2) := fun z => by
    have e := B.tabs z
    rw [B.script] at e
    cases e
  cases hk : K.lookup a with
  | none => exact .inl (.inr ⟨{ cls := .type "list", data := .seq vs.toArray }, by show scripted _ _ _ _ _ a = _; unfold scripted; rw [if_neg notT, if_pos ⟨rfl, hk⟩]⟩)
  | some o =>
    have e := B.kin a o hk
    rw [B.script] at e
    cases e
    exact .inr ⟨_, vs.toArray, _, hk, rfl, rfl, rfl, by rw [List.size_toArray, B.nums.length]; exact B.few, by simpa using vals_ints B.nums⟩
theorem Begun.tabB (B : Begun K mg cs a vs ns s) {p : Addr × Addr} (hp : p ∈ cs) : LamX.TabB (hidT s.heap (Hb K cs a vs ns)) mg p.1 p.2 := by
  have tp := B.empty p hp
  refine ⟨?_, ?_, fun z => ?_⟩
  · obtain ⟨o, us, f1, f2, f3, f4, f5, f6, f7, at_, r1, r2, r3, r⟩ := B.head p hp
    refine ⟨o, us, f1, f2, f3, f4, f5, f6, f7, B.kept at_ (B.free at_ (fun ws n z => ?_) fun z => ?_), r1, r2, r3, r⟩
    · rw [r2] at z
      cases z
    · rw [r2] at z
      cases z
      simp at r3
  · obtain ⟨bm, ob, b1, b2, b3, b4, b5, b6⟩ := B.bm
    refine ⟨bm, ob, b1, b2, fun z => ?_, fun z => ?_, B.kept b3 (B.free b3 (fun ws n z => by rw [b6] at z; cases z) fun z => by rw [b6] at z; cases z), b4, b5, b6⟩
    · obtain ⟨o, es, ep, e, d, _⟩ := B.glob
      rw [z, e] at b3
      cases b3
      rw [d] at b6
      cases b6
    · rw [z, tp] at b3
      cases b3
      cases b6
  · obtain ⟨o, es, ep, e, d, _⟩ := B.glob
    rw [z, tp] at e
    cases e
    cases d
theorem Begun.env (B : Begun K mg cs a vs ns s) {P : Program} {w : World} : Env0 P w K mg (hidT s.heap (Hb K cs a vs ns)) callerA [] s (Hb K cs a vs ns) := by
  obtain ⟨mb, m1, m2⟩ := B.blt
  obtain ⟨mc, l1, l2⟩ := B.nolim
  exact ⟨rfl, ⟨B.kinB, B.nsB B.glob, ⟨mb, B.nsB m1, m2⟩, ⟨mc, B.nsB l1, l2⟩⟩, fun b o e => of_hidT e, Nat.le_of_eq (hidT_size _ _), trivial, (fun b hb => absurd (show b ∈ ([] : List Addr) from hb) List.not_mem_nil), B.hok, .of_eq B.gens⟩
/-- what was stands after: all but the tables, which grow -/
theorem Begun.old (B : Begun K mg cs a vs ns s) {P : Program} {w : World} {H' : Hp} {h' : Heap} (un : Un [] [] (Hb K cs a vs ns) H' s.heap h') (ok : HOk P w H' h') : OldK s.heap h' := by
  have way : ∀ b o, s.heap.get? b = some o → asItWas s.heap h' b o ∧ ∃ o', h'.get? b = some o' := fun b o e => by
    cases q : Hb K cs a vs ns b with
    | none =>
      have z := un.keep b o e q (fun x => nomatch x) (fun x => nomatch x)
      exact ⟨.inl z, o, z⟩
    | some u =>
      rcases scripted_some q with ⟨m, rfl⟩ | ⟨_, rfl, _, rfl⟩
      · obtain ⟨p, hp, rfl⟩ := List.mem_map.mp m
        obtain ⟨more, grown⟩ := un.tbls _ _ q
        have z := ok _ _ grown
        have e1 := B.empty p hp
        rw [e1] at e
        cases e
        exact ⟨.inr (.inl ⟨((B.head p hp).tab e1).isCodeTable, rfl, #[], more, rfl, z⟩), _, z⟩
      · have z := (ok _ _ (un.frzs _ _ _ q)).1
        rw [B.script] at e
        cases e
        exact ⟨.inl z, _, z⟩
  exact ⟨fun b o e => (way b o e).1, fun b o e => (way b o e).2⟩
/-- the law's end, its defs' promises given where no repr is under way -/
theorem Begun.runs (B : Begun K mg cs a vs ns s) {P : Program} {w : World} {k : Nat} {fa : Addr} {fd : FuncData} {x : Str} {sp : Sp} (room : Room k callerA)
    (F : FnG P w K mg (hidT s.heap (Hb K cs a vs ns)) k fa fd [x] sp) (bound : BindsTo s fd ⟨[.ref a], []⟩ [(x, .ref a)])
    (ask : sp [.ref a] (Hb K cs a vs ns) (fun v _ => v = .bl true) fun _ _ _ => False) :
    codeAny (model P w) callerA (.call (.ref fa) ⟨[.ref a], []⟩) (fun r s' => r = .ok (.ret (.bool true)) ∧ OldK s.heap s'.heap ∧ s'.os = s.os ∧ AllBare s'.gens) s := by
  refine codeAny_mono (F.goes callerA [] s _ _ [.ref a] [.ref a] _ _ rfl room B.env bound (.cons rfl .nil) ask) fun r s2 done => ?_
  match r, done with
  | .ok (.ret u), done =>
    obtain ⟨v, H2, os, bare, un, ok, rv, rfl⟩ := done
    exact ⟨by rw [show u = .bool true from rv], B.old un ok, os, bare⟩
end
/-- as the library's own, for promises where no repr is under way -/
def LawG (l : PySem.W.OpenLaw) (w : World) (K : PySem.W.Frag) (k n : Nat) (x : Str) (mg : Str → Option Value) (fa : Addr) (h : Heap) : Prop :=
  ∃ (fd : FuncData) (cs : List (Addr × Addr)) (sp : Sp), (∀ r ∈ cs, h.get? r.2 = some { cls := .none, data := .fields #[] }) ∧ (∀ r ∈ cs, K.lookup r.2 = none) ∧ (∀ r ∈ cs, PySem.W.CodeHd h r.1 r.2) ∧ (∀ (s : Shared) (u : Value), BindsTo s fd ⟨[u], []⟩ [(x, u)]) ∧
    (∀ (H : Hp) (a : Addr) (ns : List Int), ns.length ≤ n → (∀ p ∈ cs, H p.2 = some (.tbl #[])) → SqL K H a (ns.map V.int) → sp [.ref a] H (fun v _ => v = .bl true) fun _ _ _ => False) ∧
    ∀ base : Heap, K.In base → base.Ns mainGlobals mg → (∀ p ∈ cs, LamX.TabB base mg p.1 p.2) → FnG l.prog w K mg base k fa fd [x] sp
theorem walkG {l : PySem.W.OpenLaw} {n k : Nat} {q : Program} {loose : List Str} {XP : (Str → Option Value) → Heap → Prop} {YP : World → Heap → Prop} {d : DefRec} {x : Str} (most : l.most = some n) (few : n ≤ sizeLine) (plain : d.params.defaults = []) (room : Room k callerA)
    (F : ∀ (w : World) (mg : Str → Option Value) (fa : Addr) (h : Heap), YP w h → h.Ns mainGlobals mg → mg d.name = some (.ref fa) → ∃ K : PySem.W.Frag, K.In h ∧ LawG l w K k n x mg fa h) : PySem.W.WalkO q loose XP YP l.row.toRowW d [] (fun f vs => PySem.call f vs) := by
  refine Att.attach_callB most plain fun w s0 s mg mb fa o pm cd doc a vs ns G Y _ _ _ named script nums short _ none_ => ?_
  obtain ⟨K, kin, fd, cs, sp, empty, out, head, bound, asks, does⟩ := F w mg fa _ Y G.T.g named
  have B : Begun K mg cs a vs ns s := ⟨kin, G.T.g, ⟨mb, G.T.b, G.T.builtins⟩, G.T.nolimit, none_, empty, out, head, G.T.bmain, script, nums, Nat.le_trans short few⟩
  exact B.runs room (does _ B.kinB (B.nsB B.glob) fun p hp => B.tabB hp) (bound _ _) (asks _ a ns short (fun p hp => scripted_tab (List.mem_map.mpr ⟨p, hp, rfl⟩)) B.seq)
end V3
set_option maxHeartbeats 8100000
/-! any(x[0] for x in t). -/
namespace V3
open PySem.Spec PySem L2 PyProof.Rows GxR
theorem any_range (zs : List Int) : ((List.range zs.length).any fun i => (zs[i]?.getD 0) != 0) = zs.any fun z => z != 0 := by
  (rw [Bool.eq_iff_iff, List.any_eq_true, List.any_eq_true])
  constructor
  · rintro ⟨i, hi, h⟩
    have l := List.mem_range.mp hi
    rw [List.getElem?_eq_getElem l] at h
    exact ⟨zs[i], List.getElem_mem l, h⟩
  · rintro ⟨z, hz, h⟩
    obtain ⟨i, hi⟩ := List.getElem?_of_mem hz
    refine ⟨i, List.mem_range.mpr (List.getElem?_eq_some_iff.mp hi).1, ?_⟩
    rw [hi]
    exact h
section
variable {w : World} {prog : Program} {A : Around}
/-- any(..) over such a walk of whole numbers -/
theorem any_loopI {I : Addr} {wr fs : List Addr} {n : Nat} {P : Nat → Value → Prop} {St : Nat → Shared → Prop} {R : Result → Shared → Prop} (Wk : WalksV prog w A.in1 I wr fs n P St) (tr : Nat → Bool) (isI : ∀ i v, P i v → ∃ z tz, v = .int z tz ∧ (z != 0) = tr i) :
    ∀ (k i : Nat) (t : Shared), n - i = k → i ≤ n → St i t → (∀ t', MovedV wr fs t t' → R (.ok (.ret (.bool (((List.range n).drop i).any tr)))) t') → codeAny (model prog w) A (.builtin "any.loop" ⟨[.ref I], []⟩) R t := by
  intro k
  induction k with
  | zero =>
    intro i t ek il st want
    obtain rfl : i = n := by omega
    (refine codeAny_builtin F.entry_any_loop ?_)
    (rw [Around.under_plainId F.plain_any_loop _])
    show wpAny _ A.in1 (pyNext (.ref I) >>= _) _ _ t
    refine wpAny_bind (Wk.done t _ _ st fun t' mv => wpAny_bind (wpAny_rule (wpAny_pure ?_)))
    have z := want t' mv
    rw [List.drop_of_length_le (Nat.le_of_eq List.length_range)] at z
    exact z
  | succ k again =>
    intro i t ek il st want
    have lt : i < n := by omega
    have cut : (List.range n).drop i = i :: (List.range n).drop (i + 1) := range_drop lt
    (refine codeAny_builtin F.entry_any_loop ?_)
    (rw [Around.under_plainId F.plain_any_loop _])
    show wpAny _ A.in1 (pyNext (.ref I) >>= _) _ _ t
    refine wpAny_bind (Wk.item i t _ _ lt st fun v t' pv st' mv => ?_)
    obtain ⟨z0, tz, rfl, ez⟩ := isI i v pv
    (refine wpAny_bind (wpAny_holding (truthy_int ?_)))
    rw [ez]
    (refine wpAny_bind (wpAny_letGo ?_))
    rw [cut] at want
    cases eb : tr i with
    | false =>
      simp only [Bool.false_eq_true, if_false, ite_false]
      refine wpAny_pure ⟨plainId_quiet F.plain_any_loop _, again (i + 1) _ (by omega) lt st' fun t2 mv2 => ?_⟩
      have z := want t2 (mv.trans mv2)
      rw [List.any_cons, eb, Bool.false_or] at z
      exact z
    | true =>
      simp only [if_true]
      (refine wpAny_bind (wpAny_rule (wpAny_pure ?_)))
      have z := want t' mv
      rw [List.any_cons, eb, Bool.true_or] at z
      exact z
theorem call_anyI {E : Value → Shared → Prop} {s : Shared} {x : Value} {Q : Value → Shared → Prop}
    (h : wpAny (model prog w) A.in1 (pyIter x) (fun it t => ∃ I wr fs n P St tr, it = .ref I ∧ WalksV prog w A.in1 I wr fs n P St ∧ St 0 t ∧ (∀ i v, P i v → ∃ z tz, v = .int z tz ∧ (z != 0) = tr i) ∧ ∀ t', MovedV wr fs t t' → Q (.bool ((List.range n).any tr)) t') E s) :
    (wpAny (model prog w) A (call (.builtin "any") [x]) Q E s) := by
  (refine call_function_tree F.kind_any F.plain_any F.entry_any (F.args_any1 _) ?_)
  unfold Builtin.«any»
  (refine wpAny_bind (m := oneArg "any" _) (wpAny_pure ?_))
  refine wpAny_bind (wpAny_mono h (fun it t ht => ?_) fun _ _ z => z)
  obtain ⟨I, wr, fs, n, P, St, tr, rfl, Wk, st, isI, want⟩ := ht
  exact wpAny_pure ⟨plainId_quiet F.plain_any_loop _, any_loopI Wk tr isI n 0 t rfl (Nat.zero_le _) st fun t' mv => by simpa using want t' mv⟩
end
section
variable {X : Cx}
/-- x[0] -/
abbrev firstX (x : Str) (p0 p1 p2 : Pos) (jc : Nat) : Expr := .Subscript (.Name x p0) (.Constant (.int 0) jc p1) p2
/-- a tuple of tuples whose first items are these whole numbers -/
def Firsts (K : PySem.W.Frag) (H : Hp) (xs : List V) (zs : List Int) : Prop := xs.length = zs.length ∧ ∀ (i : Nat) (x : V) (z : Int), xs[i]? = some x → zs[i]? = some z → ∃ (b : Addr) (ys : List V), x = .ref b ∧ SqT K H b ys ∧ ys[0]? = some (.int z)
def tAnyF (X : Cx) (P : Addr) (te : TE) : TE := fun σ H Q => te σ H fun v H1 => ∃ (a : Addr) (xs : List V) (zs : List Int), v = .ref a ∧ SqT X.K H1 a xs ∧ TabG H1 P ∧ Firsts X.K H1 xs zs ∧ ∀ H2, Tabbed P H1 H2 → Q (.bl (zs.any fun z => z != 0)) H2
theorem pe_anyF {c P : Addr} {iter : Expr} {x : Str} {px p p0 p1 p2 gpos pos : Pos} {jc : Nat} {scope : Scope} {te : TE} {k : Nat}
    (hr : Room (k + 1) X.A) (hg : Gl X "any") (hma : X.mg "any" = none) (TB : TabB X.base X.mg c P) (hcode : X.env.code = .ref c) (S : GenS X.env scope x) (hi : PE X iter te)
    (dx : (x == ("__debug__" : Str)) = false) (nofold : ∀ v, genFold iter X.env v = pure v)
    (he : starEach [.GeneratorExp (firstX x p0 p1 p2 jc) [⟨.Name x px, iter, [], 0⟩] scope gpos] X.env = (false, eval (.GeneratorExp (firstX x p0 p1 p2 jc) [⟨.Name x px, iter, [], 0⟩] scope gpos) X.env) :: starEach [] X.env := by rfl) :
    PE X (.Call (.Name "any" p) [.GeneratorExp (firstX x p0 p1 p2 jc) [⟨.Name x px, iter, [], 0⟩] scope gpos] [] pos) (tAnyF X P te) := by
  (refine ⟨fun pins s σ H Q I h => ?_⟩)
  refine wpAny_Call_Name_kw (ld_blt (u := .builtin "any") I hg hma (by decide +kernel) ?_)
  refine PyProof.Rows.callWith_builtin1 (id := "any") ?_ he (by rfl)
  rw [he]
  show wpAny _ _ (spliced ((false, eval (.GeneratorExp (firstX x p0 p1 p2 jc) [⟨.Name x px, iter, [], 0⟩] scope gpos) X.env) :: backTo pos (starEach [] X.env))) _ _ s
  refine Calls.spliced_cons (genexpF hr.hd S.co (closure_ok S.free) S.cell S.dot S.loc S.kind (by have := hr.dp; omega) ?_ nofold)
  refine thn (hi.run pins s σ H _ I h) fun xv s1 ⟨v, H1, I1, rv, a, xs, zs, ev, hsq, tab, firsts, want⟩ => ?_
  subst ev
  cases rv
  obtain ⟨ptab, hP, htr⟩ := tab
  obtain ⟨its, rvs, pl, zl⟩ := I1.tuple hsq
  have lenI := rvs.length
  have tupA : s1.heap.IsTuple a its.toArray := by
    obtain ⟨ob, q1, q2, q3, q4⟩ := pl
    exact ⟨ob, q1, q2, q3, q4⟩
  refine wpAny_pyIter_tuple tupA ?_
  obtain ⟨oI, hoI⟩ : ∃ oI : Obj, oI = { cls := .type "tuple_iterator", data := .fields #[.ref a, .int 0 0] } := ⟨_, rfl⟩
  rw [← hoI]
  have freshO : oI.isFreed = false := by rw [hoI]; rfl
  have atP : s1.heap.get? P = some { cls := .none, data := .fields ptab } := I1.hok P _ hP
  have ltP : P < s1.heap.objs.size := Heap.lt_size atP
  have atP2 : (s1.heap.push oI).get? P = some { cls := .none, data := .fields ptab } := Heap.get?_push_of_some _ atP
  have hdC : PySem.W.CodeHd (s1.heap.push oI) c P := TB.code.keeps fun b u e => Heap.get?_push_of_some _ (I1.bk b u e)
  have nol : (s1.heap.push oI).NoLimit := I1.nolimit.push oI
  have szO : (s1.heap.push oI).objs.size = s1.heap.objs.size + 1 := Heap.size_push ..
  have csB : ∃ o, X.base.get? cStatics = some o := by
    obtain ⟨_, q, _⟩ := I1.ok.mod.nolimit
    obtain ⟨o, es, ep, ho, _⟩ := q
    exact ⟨o, ho⟩
  have notFr : ∀ b o, X.base.get? b = some o → b ∉ frs X.stack := fun b o it z => by
    have := (frs_apart I1.stack z).1
    rw [it] at this
    cases this
  have frLow : ∀ b ∈ frs X.stack, b < s1.heap.objs.size := fun b z => by
    obtain ⟨_, o, ho, _⟩ := frs_apart I1.stack z
    exact Heap.lt_size ho
  have frNotP : P ∉ frs X.stack := fun z => by
    have := I1.stkFree P z
    rw [hP] at this
    cases this
  have aFr : a ∉ frs X.stack := fun z => by
    rcases hsq with ((e | ⟨o, e⟩) | ⟨o, it2, n2, e, _⟩)
    · have := I1.stkFree a z
      rw [e] at this
      cases this
    · have := I1.stkFree a z
      rw [e] at this
      cases this
    · exact notFr a o (I1.ok.mod.kin a o e) z
  have aLow : a < s1.heap.objs.size := by
    obtain ⟨ob, q1, _⟩ := tupA
    exact Heap.lt_size q1
  -- behind the code object
  have cont : ∀ (code : Value) (hp3 : Heap) (tk : Nat) (ptab3 : Array Value), Heap.ExtBut P (s1.heap.push oI) hp3 → (s1.heap.push oI).objs.size ≤ hp3.objs.size → hp3.get? P = some { cls := .none, data := .fields ptab3 } → (∃ more, ptab3 = ptab ++ more) → TriplesOk ptab3.toList →
      wpAny (model X.prog X.w) X.A (builtinsFor X.env.globals X.env.builtins) (fun bi t4 => MadeF X.prog X.w X.A X.env (firstX x p0 p1 p2 jc) iter x px [] scope (cloFrom X.env.cells scope.names []) gpos
        (fun g t5 => wpAny (model X.prog X.w) X.A (spliced (backTo pos (starEach [] X.env))) (fun vs t6 => wpAny (model X.prog X.w) X.A (call (.builtin "any") (g :: vs)) (EP X pins σ Q) X.xe t6) X.xe t5) (.ref s1.heap.objs.size) code bi t4) X.xe { s1 with heap := hp3, toks := tk } := by
    intro code hp3 tk ptab3 hx3 sz3 atP3 grown ok3
    (obtain ⟨bm, ob, e1, e2, e3, e4, e5, e6, e7, e8⟩ := TB.bm)
    have keep3 : ∀ b u, b ≠ P → s1.heap.get? b = some u → hp3.get? b = some u := fun b u nb it => hx3 b u nb (Heap.get?_push_of_some _ it)
    have big3 : s1.heap.objs.size + 1 ≤ hp3.objs.size := by
      rw [← szO]
      exact sz3
    have baseNP : ∀ b o, X.base.get? b = some o → b ≠ P := fun b o it z => by
      have := (I1.bs b o it).2
      rw [z, hP] at this
      cases this
    obtain ⟨oCs, csAt⟩ := csB
    have csLow : cStatics < s1.heap.objs.size := Heap.lt_size (I1.bk _ _ csAt)
    have aNP : a ≠ P := fun z => by
      obtain ⟨ob2, q1, _, _, q4⟩ := tupA
      rw [z, atP] at q1
      cases q1
      cases q4
    refine wpAny_builtinsFor (m := X.mg) (by rw [I1.ok.glob]; exact ((I1.mod.glob.keeps I1.bk).push oI).extBut hx3 TB.gP) e1 e2 (keep3 _ _ e4 (I1.bk _ _ e5)) e6 e7 e8 ?_
    refine ⟨I1.bare, s1.heap.objs.size, [s1.heap.objs.size, a], [s1.heap.objs.size], hp3.objs.size :: frs X.stack, its.toArray.size, (fun i v => its.toArray[i]? = some v), (fun i h => h.IsTupleIter s1.heap.objs.size a i ∧ h.IsTuple a its.toArray), (fun _ => true), (fun i y => ∃ z tz, zs[i]? = some z ∧ y = .int z tz), rfl,
      fun B hB => Walks.tuple hB _ a (Nat.ne_of_lt aLow) _, ⟨⟨oI, hx3 _ _ (Nat.ne_of_gt ltP) (Heap.get?_push_size _ freshO), by rw [hoI], by rw [hoI]; rfl⟩, ?_⟩, ?_, nol.extBut hx3 (baseNP _ _ csAt), ?_, ?_, ?_, ?_, ?_, ?_⟩
    · obtain ⟨ob2, q1, q2⟩ := tupA
      exact ⟨ob2, keep3 _ _ aNP q1, q2⟩
    · intro b hb
      show b < hp3.objs.size
      rcases List.mem_cons.mp hb with (z | z)
      · rw [z]
        exact big3
      · (rw [List.mem_singleton.mp z])
        exact Nat.lt_of_lt_of_le aLow (Nat.le_trans (Nat.le_succ _) big3)
    · intro z
      have := List.mem_singleton.mp z
      rw [this] at csLow
      exact Nat.lt_irrefl _ csLow
    · intro b hb
      show b ≤ hp3.objs.size
      rcases List.mem_cons.mp hb with (z | z)
      · rw [z]
        exact Nat.le_refl _
      · exact Nat.le_of_lt (Nat.lt_of_lt_of_le (frLow b z) (Nat.le_trans (Nat.le_succ _) big3))
    · intro b hb hf
      rcases List.mem_cons.mp hb with (z | z)
      · subst z
        rcases List.mem_cons.mp hf with (y | y)
        · exact Nat.ne_of_lt big3 y
        · exact Nat.lt_irrefl _ (frLow _ y)
      · have z2 := List.mem_singleton.mp z
        subst z2
        rcases List.mem_cons.mp hf with (y | y)
        · exact Nat.ne_of_lt (Nat.lt_of_lt_of_le aLow (Nat.le_trans (Nat.le_succ _) big3)) y
        · exact aFr y
    · intro z
      rcases List.mem_cons.mp z with (y | y)
      · exact Nat.ne_of_lt (Nat.lt_of_lt_of_le csLow (Nat.le_trans (Nat.le_succ _) big3)) y
      · exact notFr _ _ csAt y
    · intro ref href
      refine ⟨fun B Ex i v t mp hB fB dB uB bT dv ns hv kept => tests_none ⟨rfl, ⟨rfl, bT, KM.exact (fun _ _ it => it)⟩⟩, fun B Ex i v t mp hB fB dB uB bT dv _ ns hv kept => ?_⟩
      rw [over_frames I1.ok.frames] at fB
      have both : ∀ b o, b ≠ P → s1.heap.get? b = some o → (b ∉ frs X.stack → t.heap.get? b = some o) ∧ ∃ sl, t.heap.get? b = some { o with slots := sl } := fun b o nb it => by
        have lt := Heap.lt_size it
        have ltc : b < hp3.objs.size := Nat.lt_of_lt_of_le lt (Nat.le_trans (Nat.le_succ _) big3)
        obtain ⟨p1, p2⟩ := kept b (List.mem_range.mpr ltc) (fun z => by rw [List.mem_singleton.mp z] at lt; exact Nat.lt_irrefl _ lt) o (href _ _ (keep3 b o nb it))
        exact ⟨fun nf => p1 fun z => (List.mem_cons.mp z).elim (fun y => Nat.ne_of_lt ltc y) nf, p2⟩
      have baseT : ∀ b o, X.base.get? b = some o → t.heap.get? b = some o := fun b o it => (both b o (baseNP b o it) (I1.bk b o it)).1 (notFr b o it)
      obtain ⟨oC, esC, epC, atC, datC, moreC⟩ := id ns
      have ltC : hp3.objs.size < t.heap.objs.size := Heap.lt_size atC
      have bszS : X.base.objs.size ≤ s1.heap.objs.size := Nat.le_trans I1.ok.bsz I1.sz
      have li : i < its.length := by
        have := (Array.getElem?_eq_some_iff.mp dv).1
        simpa using this
      have hxi : xs[i]? = some xs[i] := List.getElem?_eq_getElem (by omega)
      obtain ⟨u, hu, ru⟩ := rvs.get hxi
      have ev : u = v := by
        have q : its.toArray[i]? = some u := by simpa using hu
        rw [q] at dv
        exact Option.some.inj dv
      subst ev
      have lz : i < zs.length := by
        rw [← firsts.1]
        omega
      have hzi : zs[i]? = some zs[i] := List.getElem?_eq_getElem lz
      obtain ⟨bb, ys, exi, sqb, hy0⟩ := firsts.2 i _ _ hxi hzi
      rw [exi] at ru
      cases (show u = Value.ref bb from ru)
      obtain ⟨its2, rv2, pl2, zl2⟩ := I1.tuple sqb
      obtain ⟨u0, hu0, ru0⟩ := rv2.get hy0
      obtain ⟨tz, rfl⟩ : ∃ tz, u0 = .int zs[i] tz := ru0
      have tupB : t.heap.IsTuple bb its2.toArray := by
        obtain ⟨ob2, q1, q2, q3, q4⟩ := pl2
        have nb : bb ≠ P := fun z => by
          rw [z, atP] at q1
          cases q1
          cases q4
        have nf : bb ∉ frs X.stack := fun z => by
          obtain ⟨_, o3, ho3, n3⟩ := frs_apart I1.stack z
          rcases sqb with ((e | ⟨o, e⟩) | ⟨o, it2, n2, e, _⟩)
          · have := I1.stkFree bb z
            rw [e] at this
            cases this
          · have := I1.stkFree bb z
            rw [e] at this
            cases this
          · exact notFr bb o (I1.ok.mod.kin bb o e) z
        exact ⟨ob2, (both bb ob2 nb q1).1 nf, q2, q3, q4⟩
      have small : its2.toArray.size < 2 ^ 63 := by
        rw [List.size_toArray, ← rv2.length]
        exact Nat.lt_of_le_of_lt zl2 (by decide)
      refine Subscript_ (wpAny_Name (wpAny_loadName_local (by exact S.kind) (by exact S.loc) ns hv ?_) dx)
      refine wpAny_Constant_int (subscriptTail_builtinR (x := .int zs[i] tz) tupB.typeIs slot_tuple_getitem.lookup (getItem_tuple (j := 0) tupB (by omega) (by omega) ?_ (by simpa using hu0) ⟨rfl, ⟨⟨_, _, hzi, rfl⟩, rfl, bT, KM.exact fun _ _ it => it⟩⟩) rfl)
      exact PySem.StrLaws.seqIndex_nonneg (by decide) (by rw [List.size_toArray]; have := (List.getElem?_eq_some_iff.mp hu0).1; omega)
    · intro g hp5 tk5 gs gsb ltg szg k5 Wk at5
      refine Calls.spliced_nil (call_anyI ?_)
      have pall : passing (fun _ => true) its.toArray.size 0 = List.range its.toArray.size := GxR.passing_true _
      refine Wk.in4.self _ _ _ at5 ⟨g, _, _, _, _, _, (fun i => (zs[i]?.getD 0) != 0), rfl, Wk.in4, at5, fun j y hy => ?_, fun t' mv => ?_⟩
      · obtain ⟨i, hi2, hf⟩ := hy
        rw [pall, List.getElem?_range (by
          have := (List.getElem?_eq_some_iff.mp hi2).1
          rw [List.length_range] at this
          exact this)] at hi2
        obtain ⟨z0, tz, h1, h2⟩ := hf
        rw [← Option.some.inj hi2] at h1
        refine ⟨z0, tz, h2, ?_⟩
        show (z0 != 0) = ((zs[j]?.getD 0) != 0)
        rw [h1]
        rfl
      · obtain ⟨more, rfl⟩ := grown
        have offW : ∀ b, b < s1.heap.objs.size → b ∉ hp3.objs.size :: [s1.heap.objs.size] := fun b lt z => by
          rcases List.mem_cons.mp z with (y | y)
          · exact Nat.ne_of_lt (Nat.lt_of_lt_of_le lt (Nat.le_trans (Nat.le_succ _) big3)) y
          · exact Nat.ne_of_lt lt (List.mem_singleton.mp y)
        have kB : ∀ b o, b < s1.heap.objs.size → hp3.get? b = some o → (b ∉ frs X.stack → t'.heap.get? b = some o) ∧ ∃ sl, t'.heap.get? b = some { o with slots := sl } := fun b o lt it => by
          obtain ⟨p1, p2⟩ := mv.heap b o (offW b lt) (k5 b o it)
          exact ⟨fun nf => p1 fun z => (List.mem_cons.mp z).elim (fun y => Nat.ne_of_lt (Nat.lt_of_lt_of_le lt (Nat.le_trans (Nat.le_succ _) big3)) y) nf, p2⟩
        have J := inv_gen (t' := t') (more := more) I1 hP mv.os mv.bare (fun b o nb it => kB b o (Heap.lt_size it) (keep3 b o nb it)) ((kB P _ ltP atP3).1 frNotP)
        have len : (passing (fun _ => true) its.toArray.size 0).length = xs.length := by
          rw [pall, List.length_range, List.size_toArray]
          omega
        rw [len]
        have ev : ((List.range xs.length).any fun i => (zs[i]?.getD 0) != 0) = zs.any fun z => z != 0 := by
          rw [firsts.1]
          exact any_range zs
        rw [ev]
        exact ⟨.bl _, _, J, rfl, want _ ⟨⟨ptab ++ more, upd_same, ok3⟩, fun b nb => upd_ne nb⟩⟩
  refine ⟨nol, ?_⟩
  cases among : codeAmong gpos ptab.toList with
  | none =>
    refine wpAny_genexprCodeX hcode (hdC.code atP2 htr) (hdC.tab atP2) among fun c2 hp2 tk hx2 ge2 lt2 isC _ tabA _ => ?_
    obtain ⟨o1, vs, f1, tf, fl, tg, inF, tx, tt, op, _, _, _, _, _, _, _, _, _, trs, _⟩ := isC
    exact cont _ hp2 tk _ hx2 (Nat.le_trans ge2 (Nat.le_of_lt lt2)) tabA.2 ⟨_, rfl⟩ trs
  | some cv =>
    refine wpAny_genexprCode_hit hcode (hdC.code atP2 htr) among ?_
    exact cont cv (s1.heap.push oI) s1.toks ptab (Heap.ExtBut.refl _ _) (Nat.le_refl _) atP2 ⟨#[], by simp⟩ htr
end
end V3
set_option maxHeartbeats 4100000
/-! A generator expression with any target, told by what each turn binds. -/
namespace V3
open PySem.Spec PySem L2 PyProof.Rows GxR
/-- each turn: what is next, the owned tuple let go, the target bound -/
structure Draws2 (prog : Program) (w : World) (tgt : Expr) (ce : Env) (I : Addr) (fp wr : List Addr) (n : Nat) (Bd : Nat → (Str → Option Value) → Prop) (St : Nat → Heap → Prop) : Prop where
  sub : ∀ b ∈ wr, b ∈ fp
  (frame : ∀ i h h', St i h → (∀ b ∈ fp, ∀ o, h.get? b = some o → h'.get? b = some o) → St i h')
  one : ∀ (B : Around), B.handled = none → ∀ i (t : Shared) mp (K : Option Value → Shared → Prop) (E : Value → Shared → Prop), i < n → St i t.heap → t.heap.Ns ce.locals mp →
    (∀ v t1, wpAny (model prog w) B (letOwnedTupleGo tgt (.ref I) v) (fun _ t2 => wpAny (model prog w) B (assign tgt ce v) (fun _ t3 => ∃ h' tk mp', t3 = { t with heap := h', toks := tk } ∧ Bd i mp' ∧ St (i + 1) h' ∧ h'.Ns ce.locals mp' ∧
      ∀ b o, b ≠ ce.locals → b ∉ wr → t.heap.get? b = some o → h'.get? b = some o) (fun _ _ => False) t2) (fun _ _ => False) t1 → K (some v) t1) → wpAny (model prog w) B (pyNext (.ref I)) K E t
  done : ∀ (B : Around), B.handled = none → ∀ (t : Shared) (K : Option Value → Shared → Prop) (E : Value → Shared → Prop), St n t.heap →
    (∀ h' tk, (∀ b o, b ∉ wr → t.heap.get? b = some o → h'.get? b = some o) → K none { t with heap := h', toks := tk }) → wpAny (model prog w) B (pyNext (.ref I)) K E t
  self : ∀ (B : Around), B.handled = none → ∀ (t : Shared) (K : Value → Shared → Prop) (E : Value → Shared → Prop), St 0 t.heap → K (.ref I) t → wpAny (model prog w) B (pyIter (.ref I)) K E t
structure QuietD (prog : Program) (w : World) (ce : Env) (ifs : List Expr) (elt : Expr) (old wr fs : List Addr) (Bd : Nat → (Str → Option Value) → Prop) (pz : Nat → Bool) (F : Nat → Value → Prop) (ref : Heap) (fr : Option (List Env)) (D U : Nat) : Prop where
  tests : ∀ (B : Around) Ex i (t : Shared) mp, B.handled = none → B.frames = fr → B.depth ≤ D → B.units ≤ U → AllBare t.gens → Bd i mp → t.heap.Ns ce.locals mp → KeptO old wr fs ref t.heap →
    wpAny (model prog w) B (testsOf ifs ce) (fun ok t' => ok = pz i ∧ KeptG fs t t') Ex t
  elt : ∀ (B : Around) Ex i (t : Shared) mp, B.handled = none → B.frames = fr → B.depth ≤ D → B.units ≤ U → AllBare t.gens → Bd i mp → pz i = true → t.heap.Ns ce.locals mp → KeptO old wr fs ref t.heap →
    wpAny (model prog w) B (eval elt ce) (fun y t' => F i y ∧ KeptG fs t t') Ex t
section
variable {w : World} {prog : Program} {A : Around}
abbrev loopD (elt : Expr) (tgt : Expr) (iter : Expr) (ifs : List Expr) (scope : Scope) (pos : Pos) (I : Addr) (ce : Env) : Code := .compLoop (.GeneratorExp elt [⟨tgt, iter, ifs, 0⟩] scope pos) 0 (.ref I) .none ce
abbrev startD (elt : Expr) (tgt : Expr) (iter : Expr) (ifs : List Expr) (scope : Scope) (pos : Pos) (I : Addr) (ce : Env) : Code := .compStart (.GeneratorExp elt [⟨tgt, iter, ifs, 0⟩] scope pos) 0 (.ref I) .none ce
theorem seg_loopD {elt iter : Expr} {tgt : Expr} {ifs : List Expr} {scope : Scope} {pos : Pos} {I : Addr} {fp old wr fs : List Addr} {n : Nat} {Bd : Nat → (Str → Option Value) → Prop} {St : Nat → Heap → Prop} {ce : Env} {fr : Option (List Env)}
    (quiet0 : A.handled = none) (frA : (A.over (loopD elt tgt iter ifs scope pos I ce) []).frames = fr) (Wk : Draws2 prog w tgt ce I fp wr n Bd St) (pz : Nat → Bool) (F : Nat → Value → Prop) (ref : Heap)
    (noco : ce.scope.isCoroutine = false) (apart : ce.locals ∉ fp) (apartO : ce.locals ∉ old) (sepF : ∀ b ∈ fp, b ∉ fs) (hQ : QuietD prog w ce ifs elt old wr fs Bd pz F ref fr (A.depth + 1) (A.units + 3)) :
    ∀ (k i : Nat) (t0 t : Shared) (mp : Str → Option Value), n - i = k → i ≤ n → St i t.heap → t.heap.Ns ce.locals mp → SinceG ce.locals wr fs t0 t →
      KeptO old wr fs ref t.heap →
      Seg (model prog w) A (endB ce.locals wr fs) (protoB ce.locals fp old wr fs pz n F) (passing pz n i).length t0 (loopD elt tgt iter ifs scope pos I ce) ((model prog w).den (loopD elt tgt iter ifs scope pos I ce)) [] t := by
  have q0 : (A.over (loopD elt tgt iter ifs scope pos I ce) []).handled = none := quiet0
  have qd : (A.over (loopD elt tgt iter ifs scope pos I ce) []).depth ≤ A.depth + 1 := Nat.le_of_eq rfl
  have qu : (A.over (loopD elt tgt iter ifs scope pos I ce) []).units ≤ A.units + 3 := Nat.le_of_eq rfl
  have offW : ce.locals ∉ wr := fun z => apart (Wk.sub _ z)
  intro k
  induction k with
  | zero =>
    intro i t0 t mp ek il st ns since kept
    obtain rfl : i = n := by omega
    show Seg _ A _ _ _ t0 _ ((compTurn (.GeneratorExp elt [⟨tgt, iter, ifs, 0⟩] scope pos) 0 (.ref I) .none ce).onRaise (leaving ce)) [] t
    (rw [compTurn_gen, Sem.onRaise_eq_wrap])
    (refine seg_bind_wrap (wpAny_standAt ?_))
    refine seg_bind_wrap (Wk.done _ q0 t _ _ st fun hp tk stay => ?_)
    exact seg_end (.ok .next) ⟨rfl, by rw [passing_end]; rfl, since.step fun b o _ nw it => stay b o nw it⟩
  | succ k again =>
    intro i t0 t mp ek il st ns since kept
    have more : i < n := by omega
    show Seg _ A _ _ _ t0 _ ((compTurn (.GeneratorExp elt [⟨tgt, iter, ifs, 0⟩] scope pos) 0 (.ref I) .none ce).onRaise (leaving ce)) [] t
    (rw [compTurn_gen, Sem.onRaise_eq_wrap])
    (refine seg_bind_wrap (wpAny_standAt ?_))
    refine seg_bind_wrap (Wk.one _ q0 i t mp _ _ more st ns fun v t1 h1 => ?_)
    refine seg_bind_wrap (wpAny_mono h1 (fun _ t2 h2 => ?_) fun _ _ z => z.elim)
    refine seg_bind_wrap (wpAny_mono h2 (fun _ t3 h3 => ?_) fun _ _ z => z.elim)
    obtain ⟨hb, tk, mp', rfl, bound, stb, nsb, stayB⟩ := h3
    have keptB : KeptO old wr fs ref hb := kept.exact fun b hm nw o it => stayB b o (fun z => apartO (z ▸ hm)) nw it
    have bareT : AllBare t.gens := since.bare
    refine seg_bind_wrap (GenW.wpAny_gsz (n := t.gens.size) (Nat.le_refl _) (wpAny_mono (hQ.tests _ _ i _ _ q0 frA qd qu bareT bound nsb keptB) (fun ok tc kc szc => ?_) fun _ _ z => z))
    obtain ⟨rfl, kc⟩ := kc
    have stc : St (i + 1) tc.heap := Wk.frame _ _ _ stb fun b hm o it => (kc.heap b o it).1 (sepF b hm)
    have nsc := kc.heap.ns nsb
    have sinceC : SinceG ce.locals wr fs t0 tc := (since.step stayB).more szc kc
    cases ep : pz i with
    | false =>
      rw [passing_false more ep]
      (simp only [Bool.false_eq_true, if_false])
      exact seg_again rfl (again (i + 1) t0 _ _ (by omega) more stc nsc sinceC (keptB.km kc.heap))
    | true =>
      rw [passing_true more ep, List.length_cons]
      simp only [if_true]
      have out : ∀ v, yieldOut ce v = yieldValue v := fun v => by simp only [yieldOut, noco, Bool.false_eq_true, if_false]
      simp only [out]
      (rw [Sem.bind_eq_wrap', Sem.bind_eq_wrap', Sem.wrap_wrap, Sem.wrap_wrap])
      refine seg_wrap (GenW.wpAny_gsz (n := tc.gens.size) (Nat.le_refl _) (wpAny_mono (hQ.elt _ _ i _ _ q0 frA qd qu sinceC.bare bound ep nsc (keptB.km kc.heap)) (fun y td hd szd => ?_) fun _ _ z => z))
      obtain ⟨fy, kd⟩ := hd
      refine seg_at (seg_yield rfl rfl rfl ⟨⟨i, passing_here more ep, fy⟩, sinceC.more szd kd, fun u hal bu => ?_⟩)
      refine seg_again rfl (again (i + 1) u u _ (by omega) more (Wk.frame _ _ _ stc fun b hm o it => hal b (List.mem_cons_of_mem _ (List.mem_append_left _ hm)) o ((kd.heap b o it).1 (sepF b hm)))
        ((kd.heap.ns nsc).at' fun o it => hal _ (List.mem_cons_self ..) o it) (SinceG.refl bu) (((keptB.km kc.heap).km kd.heap).exact fun b hm _ o it => hal b (List.mem_cons_of_mem _ (List.mem_append_right _ hm)) o it))
theorem seg_startD {elt iter : Expr} {tgt : Expr} {ifs : List Expr} {scope : Scope} {pos : Pos} {I : Addr} {fp old wr fs : List Addr} {n : Nat} {Bd : Nat → (Str → Option Value) → Prop} {St : Nat → Heap → Prop} {ce : Env} {fr : Option (List Env)}
    (quiet0 : A.handled = none) (frA : (A.over (loopD elt tgt iter ifs scope pos I ce) []).frames = fr) (Wk : Draws2 prog w tgt ce I fp wr n Bd St) (pz : Nat → Bool) (F : Nat → Value → Prop) (ref : Heap)
    (noco : ce.scope.isCoroutine = false) (apart : ce.locals ∉ fp) (apartO : ce.locals ∉ old) (sepF : ∀ b ∈ fp, b ∉ fs) (hQ : QuietD prog w ce ifs elt old wr fs Bd pz F ref fr (A.depth + 1) (A.units + 3))
    (t0 t : Shared) (mp : Str → Option Value) (st : St 0 t.heap) (ns : t.heap.Ns ce.locals mp) (since : SinceG ce.locals wr fs t0 t) (kept : KeptO old wr fs ref t.heap) :
    Seg (model prog w) A (endB ce.locals wr fs) (protoB ce.locals fp old wr fs pz n F) (passing pz n 0).length t0 (startD elt tgt iter ifs scope pos I ce) ((model prog w).den (startD elt tgt iter ifs scope pos I ce)) [] t := by
  have q0 : (A.over (startD elt tgt iter ifs scope pos I ce) []).handled = none := quiet0
  have lp := seg_loopD (iter := iter) (scope := scope) (pos := pos) quiet0 frA Wk pz F ref noco apart apartO sepF hQ n 0 t0 t mp (Nat.sub_zero _) (Nat.zero_le _) st ns since kept
  show Seg _ A _ _ _ t0 _ ((compStart (.GeneratorExp elt [⟨tgt, iter, ifs, 0⟩] scope pos) 0 (.ref I) .none ce).onRaise (leaving ce)) [] t
  unfold compStart
  rw [Sem.onRaise_eq_wrap]
  show Seg _ A _ _ _ t0 _ ((ask >>= _).wrap _ _ _ _) [] t
  (refine seg_bind_wrap (wpAny_askSetting ?_))
  split
  · exact seg_again rfl lp
  · first
      | exact seg_bind_wrap (wpAny_rule (seg_bind_wrap (wpAny_standAt (seg_bind_wrap (Wk.self _ q0 t _ _ st (seg_again rfl lp))))))
      | (refine seg_bind_wrap (wpAny_rule ?_)
         show Seg _ A _ _ _ t0 _ ((standAt iter.pos >>= _).wrap _ _ _ _) [] t
         exact seg_bind_wrap (wpAny_standAt (seg_bind_wrap (Wk.self _ q0 t _ _ st (seg_again rfl lp)))))
theorem AtB.freshD {elt iter : Expr} {tgt : Expr} {ifs : List Expr} {scope : Scope} {pos : Pos} {I a : Addr} {g : Nat} {fp old wr fs : List Addr} {n : Nat} {Bd : Nat → (Str → Option Value) → Prop} {St : Nat → Heap → Prop} {ce : Env} {fr : Option (List Env)}
    (quiet0 : A.handled = none) (frA : (A.in1.over (loopD elt tgt iter ifs scope pos I ce) []).frames = fr) (Wk : Draws2 prog w tgt ce I fp wr n Bd St) (pz : Nat → Bool) (F : Nat → Value → Prop)
    (noco : ce.scope.isCoroutine = false) (apart : ce.locals ∉ fp) (apartO : ce.locals ∉ old) (sepF : ∀ b ∈ fp, b ∉ fs) {t : Shared} {mp : Str → Option Value} (hQ : QuietD prog w ce ifs elt old wr fs Bd pz F t.heap fr (A.depth + 1) (A.units + 4))
    (gen : t.heap.IsGen a g) (new : t.gens[g]? = some (.fresh (startD elt tgt iter ifs scope pos I ce))) (st : St 0 t.heap) (ns : t.heap.Ns ce.locals mp) (lim : t.heap.NoLimit) (bare : AllBare t.gens) : AtB prog w A a g ce.locals fp old wr fs pz n F 0 t :=
  ⟨gen, lim, bare, _, new, fun u hal bu => ⟨rfl, seg_startD (A := A.in1) quiet0 frA Wk pz F t.heap noco apart apartO sepF hQ u u mp (Wk.frame _ _ _ st fun b hm o it => hal b (List.mem_cons_of_mem _ (List.mem_append_left _ hm)) o it)
    (ns.at' fun o it => hal _ (List.mem_cons_self ..) o it) (SinceG.refl bu) fun b hm _ o it => ⟨fun _ => hal b (List.mem_cons_of_mem _ (List.mem_append_right _ hm)) o it, o.slots, hal b (List.mem_cons_of_mem _ (List.mem_append_right _ hm)) o it⟩⟩⟩
end
section
variable {w : World} {prog : Program} {A : Around} {E : Value → Shared → Prop} {s : Shared}
/-- what the maker of such a generator has to know, behind the code object and the builtins -/
def MadeD (prog : Program) (w : World) (A : Around) (env : Env) (elt iter tgt : Expr) (ifs : List Expr) (scope : Scope) (cl : List (Str × Addr)) (pos : Pos) (Q : Value → Shared → Prop) (it code : Value) (bi : Addr) (t : Shared) : Prop :=
  AllBare t.gens ∧ ∃ (I : Addr) (fp wr fs : List Addr) (n : Nat) (Bd : Nat → (Str → Option Value) → Prop) (St : Nat → Heap → Prop) (pz : Nat → Bool) (F : Nat → Value → Prop), it = .ref I ∧ Draws2 prog w tgt (genEnv scope cl t.heap.objs.size code bi env) I fp wr n Bd St ∧ St 0 t.heap ∧
    (∀ b ∈ fp, b < t.heap.objs.size) ∧ t.heap.NoLimit ∧ cStatics ∉ wr ∧ (∀ b ∈ fs, b ≤ t.heap.objs.size) ∧ (∀ b ∈ fp, b ∉ fs) ∧ cStatics ∉ fs ∧
    (∀ ref : Heap, (∀ b o, t.heap.get? b = some o → ref.get? b = some o) →
      QuietD prog w (genEnv scope cl t.heap.objs.size code bi env) ifs elt (List.range t.heap.objs.size) wr fs Bd pz F ref (A.in4.in1.over (loopD elt tgt iter ifs scope pos I (genEnv scope cl t.heap.objs.size code bi env)) []).frames (A.depth + 1) (A.units + 8)) ∧
    ∀ a hp tk gs, gs.bare = true → t.heap.objs.size < a → hp.objs.size = a + 1 → (∀ b o, t.heap.get? b = some o → hp.get? b = some o) →
      WalksV prog w A.in4 a (t.heap.objs.size :: wr) fs (passing pz n 0).length (fun j y => ∃ i, (passing pz n 0)[j]? = some i ∧ F i y) (AtB prog w A.in4 a t.gens.size t.heap.objs.size fp (List.range t.heap.objs.size) wr fs pz n F) →
      AtB prog w A.in4 a t.gens.size t.heap.objs.size fp (List.range t.heap.objs.size) wr fs pz n F 0 { t with gens := t.gens.push gs, toks := tk, heap := hp } → Q (.ref a) { t with gens := t.gens.push gs, toks := tk, heap := hp }
theorem genexpD {env : Env} {elt iter : Expr} {tgt : Expr} {ifs : List Expr} {scope : Scope} {cl : List (Str × Addr)} {pos : Pos} {Q : Value → Shared → Prop}
    (quiet0 : A.handled = none) (noco : scope.isCoroutine = false) (clo : closureFor scope env = pure cl) (nocell : ∀ y ∈ scope.names, y.2 ≠ .cell) (dot0 : scope.names.lookup (".0" : Str) = some NameKind.local)
    (kd : scope.kind = .function) (room : A.depth < recursionLimit)
    (h : wpAny (model prog w) A (eval iter env) (fun xv t1 => wpAny (model prog w) A (pyIter xv) (fun it t2 => t2.heap.NoLimit ∧
      wpAny (model prog w) A (genexprCode env pos (env.qual ++ "<genexpr>") scope) (fun code t3 => wpAny (model prog w) A (builtinsFor env.globals env.builtins) (fun bi t4 => MadeD prog w A env elt iter tgt ifs scope cl pos Q it code bi t4) E t3) E t2) E t1) E s)
    (nofold : ∀ v, genFold iter env v = pure v) : wpAny (model prog w) A (eval (.GeneratorExp elt [⟨tgt, iter, ifs, 0⟩] scope pos) env) Q E s := by
  refine wpAny_GeneratorExp_make noco clo nocell dot0 kd room (wpAny_mono h (fun xv t1 a1 => wpAny_mono a1 (fun it t2 a2 => ⟨a2.1, wpAny_mono a2.2 (fun code t3 a3 => wpAny_mono a3 (fun bi t4 a4 => ?_)
    fun _ _ z => z) fun _ _ z => z⟩) fun _ _ z => z) fun _ _ z => z) nofold
  obtain ⟨bare, I, fp, wr, fs, n, Bd, St, pz, F, rfl, Wk, st, low, lim, csW, lowF, sepF, csF, hQ, want⟩ := a4
  have cl4 : cStatics < t4.heap.objs.size := by
    obtain ⟨_, q, _⟩ := lim
    exact q.lt
  intro hp nsp same
  have sz : hp.objs.size = t4.heap.objs.size + 1 := by rw [same.1, Heap.size_push]
  have keep : ∀ b o, t4.heap.get? b = some o → hp.get? b = some o := fun b o it => same.extBut b o (Nat.ne_of_lt (Heap.lt_size it)) (Heap.get?_push_of_some _ it)
  have inR : ∀ b ∈ wr, b ∈ List.range t4.heap.objs.size := fun b hb => List.mem_range.mpr (low b (Wk.sub b hb))
  have nC : hp.objs.size ≠ t4.heap.objs.size := by
    rw [sz]
    exact Nat.succ_ne_self _
  have nR : hp.objs.size ∉ List.range t4.heap.objs.size := fun z => by
    have := List.mem_range.mp z
    omega
  have keep5 : ∀ b o, t4.heap.get? b = some o → (hp.push { cls := .type "generator", data := .fields #[.int t4.gens.size 0, .str "<genexpr>" (t4.toks + 1), .str (env.qual ++ "<genexpr>") (t4.toks + 1 + 1)] }).get? b = some o :=
    fun b o it => Heap.get?_push_of_some _ (keep b o it)
  refine want _ _ _ _ rfl (by omega) (by rw [Heap.size_push]) keep5 (walksB (A := A.in4) quiet0 _ _ _ fp _ wr fs pz n F nC (fun z => nR (inR _ z)) (fun z => by have h9 : (hp.objs.size : Nat) ≤ t4.heap.objs.size := lowF _ z; omega) room (Nat.ne_of_lt cl4) csW csF) ?_
  refine AtB.freshD (A := A.in4) (ce := genEnv scope cl t4.heap.objs.size code bi env) (mp := fun y => if y = ".0" then some (.ref I) else none) quiet0 rfl
    Wk pz F noco
    (fun z => Nat.lt_irrefl _ (low _ z)) (fun z => Nat.lt_irrefl _ (List.mem_range.mp z)) sepF (hQ _ keep5) ⟨_, _, _, Heap.get?_push_size _ rfl, rfl, rfl, rfl⟩ (Array.getElem?_push_size ..) (Wk.frame _ _ _ st fun b _ o it => keep5 b o it) (nsp.push _) (lim.keeps keep5) (bare.push rfl)
end
end V3
/-! Turns over pairs: the target is two names. -/
namespace V3
open PySem.Spec PySem L2 PyProof.Rows GxR
section
variable {w : World} {prog : Program}
theorem Draws2.pair {a b : Str} {pa pb tp : Pos} {kk : Nat} {ce : Env} {I : Addr} {fp wr : List Addr} {n : Nat} {Pt : Nat → Array Value → Prop} {St : Nat → Heap → Prop} {Mid : Nat → Addr → Heap → Prop}
    (Wk : ∀ B : Around, B.handled = none → WalksT prog w B I fp wr n Pt St Mid) (two : ∀ i vals, Pt i vals → ∃ x y, vals = #[x, y]) (ka : ce.kindOf a = some .local) (kb : ce.kindOf b = some .local) (ab : (a = b) = False)
    (plain : (ce.scope.kind == .class || (ce.scope.kind == .module && ce.locals != ce.globals)) = false) (apart : ce.locals ∉ fp) :
    Draws2 prog w (.Tuple [.Name a pa, .Name b pb] kk tp) ce I fp wr n (fun i mp => ∃ x y, Pt i #[x, y] ∧ mp a = some x ∧ mp b = some y) St where
  sub := (Wk callerA rfl).sub
  frame := (Wk callerA rfl).frame
  one := fun B q i t mp K E il st ns told => by
    have offW : ce.locals ∉ wr := fun z => apart ((Wk B q).sub _ z)
    refine (Wk B q).item i t K E il st fun T vals h1 tk pt low tup mid keep1 => told _ _ ((Wk B q).go _ _ _ i T _ _ _ mid fun h2 st2 keep2 => ?_)
    obtain ⟨x, y, rfl⟩ := two i vals pt
    have tup2 : h2.IsTuple T #[x, y] := by
      obtain ⟨o, e, r⟩ := tup
      exact ⟨o, keep2 T o ((Wk B q).apart i T _ mid) e, r⟩
    have ns2 : h2.Ns ce.locals mp := ns.at' fun o it => keep2 _ o offW (keep1 _ o offW it)
    refine wpAny_assign_Tuple (s := { t with heap := h2, toks := tk }) q tup2 rfl rfl fun h3 ext => ?_
    have keep3 : ∀ c o, h2.get? c = some o → h3.get? c = some o := fun c o it => ext c o (Nat.ne_of_lt (Heap.lt_size it)) it
    refine assignInOrder_cons (wpAny_assign_Name (wpAny_storeName_local ka (ns2.at' fun o it => keep3 _ o it) (fun h4 ns4 same4 => ?_) plain))
    refine assignInOrder_cons (wpAny_assign_Name (wpAny_storeName_local kb ns4 (fun h5 ns5 same5 => ?_) plain))
    refine assignInOrder_nil ⟨h5, _, _, rfl, ⟨x, y, pt, ?_, by simp⟩, (Wk B q).frame _ h2 h5 st2 fun c hc o it => same5.extBut c o (fun z => apart (z ▸ hc)) (same4.extBut c o (fun z => apart (z ▸ hc)) (keep3 c o it)), ns5, fun c o nc nw it =>
      same5.extBut c o nc (same4.extBut c o nc (keep3 c o (keep2 c o nw (keep1 c o nw it))))⟩
    rw [if_neg (fun z => by rw [← ab]; exact z), if_pos rfl]
  done := fun B q t K E st k => (Wk B q).done t K E st k
  self := fun B q t K E st k => (Wk B q).self 0 t K E st k
end
end V3
/-! sum over a generator expression. -/
namespace V3
open PySem.Spec PySem L2 PyProof.Rows GxR
section
variable {w : World} {prog : Program} {A : Around}
theorem MovedV.wide {wr wr2 fs : List Addr} {t t' : Shared} (m : MovedV wr fs t t') (h : ∀ b ∈ wr, b ∈ wr2) : MovedV wr2 fs t t' := ⟨m.os, m.bare, fun b o n it => m.heap b o (fun z => n (h b z)) it⟩
/-- the running sum is written -/
theorem MovedV.wrote {wr fs : List Addr} {t t' : Shared} {S : Addr} {h' : Heap} {tk : Nat} (m : MovedV wr fs t t') (k : ∀ b o, b ≠ S → t'.heap.get? b = some o → h'.get? b = some o) : MovedV (S :: wr) fs t { t' with heap := h', toks := tk } :=
  ⟨m.os, m.bare, fun b o n it => by
    obtain ⟨p1, sl, p2⟩ := m.heap b o (fun z => n (List.mem_cons_of_mem _ z)) it
    have nS : b ≠ S := fun z => n (z ▸ List.mem_cons_self ..)
    exact ⟨fun nf => k b o nS (p1 nf), sl, k b _ nS p2⟩⟩
theorem sum_loopV {I : Addr} {wr fs : List Addr} {n : Nat} {P : Nat → Value → Prop} {St : Nat → Shared → Prop} {R : Result → Shared → Prop} (Wk : WalksV prog w A.in1 I wr fs n P St) (S : Addr) (Sw : S ∉ wr) (Sf : S ∉ fs)
    (fr : ∀ i (t : Shared) h' tk, St i t → (∀ b o, b ≠ S → t.heap.get? b = some o → h'.get? b = some o) → St i { t with heap := h', toks := tk }) (val : Nat → Int) (isI : ∀ i v, P i v → ∃ tz, v = .int (val i) tz) :
    ∀ (k i : Nat) (t : Shared) (ta : Tok) (c : Nat) (stage : Int), (stage = 0 ∨ stage = 2) → n - i = k → i ≤ n → St i t → t.heap.get? S = some { cls := .type "list", dict := none, data := .seq #[.int (preSum val i) ta] c, slots := #[] } →
      (∀ t' tz, MovedV (S :: wr) fs t t' → R (.ok (.ret (.int (preSum val n) tz))) t') → codeAny (model prog w) A (.builtin "sum.loop" ⟨[.ref I, .ref S, rawInt stage, rawInt 0], []⟩) R t := by
  intro k
  induction k with
  | zero =>
    intro i t ta c stage _ ek il st atS want
    obtain rfl : i = n := by omega
    (refine codeAny_builtin F.entry_sum_loop ?_)
    (rw [Around.under_plainId F.plain_sum_loop _])
    show wpAny _ A.in1 (seqItems? (.ref S) >>= _) _ _ t
    refine wpAny_bind (wpAny_seqItems atS rfl ?_)
    show wpAny _ A.in1 (tryCatch (pyNext (.ref I)) _ >>= _) _ _ t
    exact wpAny_bind (wpAny_tryCatch (Wk.done t _ _ st fun t' mv => wpAny_pure (want t' ta (mv.wide fun b hb => List.mem_cons_of_mem _ hb))))
  | succ k again =>
    intro i t ta c stage two ek il st atS want
    have lt : i < n := by omega
    (refine codeAny_builtin F.entry_sum_loop ?_)
    (rw [Around.under_plainId F.plain_sum_loop _])
    show wpAny _ A.in1 (seqItems? (.ref S) >>= _) _ _ t
    refine wpAny_bind (wpAny_seqItems atS rfl ?_)
    show wpAny _ A.in1 (tryCatch (pyNext (.ref I)) _ >>= _) _ _ t
    refine wpAny_bind (wpAny_tryCatch (Wk.item i t _ _ lt st fun v u pv su mv => ?_))
    obtain ⟨tz, rfl⟩ := isI i v pv
    have atU := (mv.heap S _ Sw atS).1 Sf
    -- the sum is written, once or twice; then on
    have on : ∀ (h' : Heap) (tk c2 : Nat) (t2 : Tok) (stage2 : Int), (stage2 = 0 ∨ stage2 = 2) → (∀ b o, b ≠ S → u.heap.get? b = some o → h'.get? b = some o) → h'.get? S = some { cls := .type "list", dict := none, data := .seq #[.int (preSum val (i + 1)) t2] c2, slots := #[] } →
        codeAny (model prog w) A (.builtin "sum.loop" ⟨[.ref I, .ref S, rawInt stage2, rawInt 0], []⟩) R { u with heap := h', toks := tk } := fun h' tk c2 t2 stage2 two2 keep at2 =>
      again (i + 1) _ t2 c2 stage2 two2 (by omega) lt (fr _ u h' tk su keep) at2 fun t' tz' mv2 => want t' tz' ((mv.wrote keep).trans mv2)
    have other : ∀ (f : Obj → Obj) (h0 : Heap) b o, b ≠ S → h0.get? b = some o → (h0.update S f).get? b = some o := fun f h0 b o n it => (Heap.get?_update_other _ _ (Ne.symm n)).trans it
    rcases two with rfl | rfl
    · (show wpAny _ A.in1 (if (_ : Bool) = true then (mkInt (preSum val i + val i) >>= _) else _) _ _ _)
      split
      · (refine wpAny_bind (wpAny_mkInt ?_))
        show wpAny _ A.in1 (updateSeq S (fun _ => #[.int (preSum val i + val i) u.toks]) >>= _) _ _ _
        exact wpAny_bind (wpAny_updateSeq atU rfl (wpAny_pure ⟨plainId_quiet F.plain_sum_loop _, on _ _ _ _ 0 (.inl rfl) (fun b o n it => other _ _ b o n it) (Heap.get?_update_self _ atU rfl)⟩))
      · (refine wpAny_bind (wpAny_rule ?_))
        (refine wpAny_bind (wpAny_attempt (wpAny_holding (wpAny_add_int ?_))))
        show wpAny _ A.in1 (updateSeq S (fun _ => #[.int (preSum val i + val i) u.toks]) >>= _) _ _ _
        refine wpAny_bind (wpAny_updateSeq atU rfl ?_)
        have atV := Heap.get?_update_self (Obj.mapSeq fun _ => #[Value.int (preSum val i + val i) u.toks]) atU rfl
        exact wpAny_bind (wpAny_letGo (wpAny_bind (wpAny_updateSeq atV rfl (wpAny_pure ⟨plainId_quiet F.plain_sum_loop _, on _ _ _ _ 2 (.inr rfl) (fun b o n it => other _ _ b o n (other _ _ b o n it)) (Heap.get?_update_self _ atV rfl)⟩))))
    · show wpAny _ A.in1 ((holding [Value.int (val i) tz] (binaryOp .Add (.int (preSum val i) ta) (.int (val i) tz))).attempt >>= _) _ _ _
      (refine wpAny_bind (wpAny_attempt (wpAny_holding (wpAny_add_int ?_))))
      show wpAny _ A.in1 (updateSeq S (fun _ => #[.int (preSum val i + val i) u.toks]) >>= _) _ _ _
      refine wpAny_bind (wpAny_updateSeq atU rfl ?_)
      have atV := Heap.get?_update_self (Obj.mapSeq fun _ => #[Value.int (preSum val i + val i) u.toks]) atU rfl
      exact wpAny_bind (wpAny_letGo (wpAny_bind (wpAny_updateSeq atV rfl (wpAny_pure ⟨plainId_quiet F.plain_sum_loop _, on _ _ _ _ 2 (.inr rfl) (fun b o n it => other _ _ b o n (other _ _ b o n it)) (Heap.get?_update_self _ atV rfl)⟩))))
theorem call_sumV {E : Value → Shared → Prop} {s : Shared} {x : Value} {Q : Value → Shared → Prop}
    (h : wpAny (model prog w) A.in1 (pyIter x) (fun it t => ∃ I wr fs n P St val, it = .ref I ∧ WalksV prog w A.in1 I wr fs n P St ∧ St 0 t ∧ (∀ i v, P i v → ∃ tz, v = .int (val i) tz) ∧ t.heap.objs.size ∉ wr ∧ t.heap.objs.size ∉ fs ∧
      (∀ i (t2 : Shared) h' tk, St i t2 → (∀ b o, b ≠ t.heap.objs.size → t2.heap.get? b = some o → h'.get? b = some o) → St i { t2 with heap := h', toks := tk }) ∧
      ∀ (t' : Shared) tz, t'.os = t.os → AllBare t'.gens → (∀ b o, b ∉ wr → t.heap.get? b = some o → (b ∉ fs → t'.heap.get? b = some o) ∧ ∃ sl, t'.heap.get? b = some { o with slots := sl }) → Q (.int (preSum val n) tz) t') E s) : (wpAny (model prog w) A (call (.builtin "sum") [x]) Q E s) := by
  (refine call_function_tree F.kind_sum F.plain_sum F.entry_sum (F.args_sum1 _) ?_)
  unfold Builtin.«sum»
  (simp only [List.length_cons, List.length_nil])
  rw [if_neg (by decide)]
  have no1 := PySem.sub_int_str
  have no2 := sub_int_bytes
  have no3 := sub_int_bytearray
  -- no start is given: it is 0, which is no text and no bytes
  refine wpAny_bind (wpAny_of_eq (rfl : Builtin.Builtins.bindParams "sum" ["start"] 0 { } = pure [none]) (wpAny_bind (wpAny_mono h (fun it t ht => ?_) fun _ _ z => z)))
  obtain ⟨I, wr, fs, n, P, St, val, rfl, Wk, st, isI, Sw, Sf, fr, want⟩ := ht
  refine wpAny_bind (wpAny_mkInt (wpAny_bind (wpAny_pure ?_)))
  (simp only [List.forIn_cons, List.forIn_nil])
  refine wpAny_bind (wpAny_bind (wpAny_bind (wpAny_isInstance (b := false) (typeIs_int _ _ _) no1 ?_)))
  (simp only [Bool.false_eq_true, if_false])
  refine wpAny_pure (wpAny_bind (wpAny_bind (wpAny_isInstance (b := false) (typeIs_int _ _ _) no2 ?_)))
  (simp only [Bool.false_eq_true, if_false])
  refine wpAny_pure (wpAny_bind (wpAny_bind (wpAny_isInstance (b := false) (typeIs_int _ _ _) no3 ?_)))
  (simp only [Bool.false_eq_true, if_false])
  refine wpAny_pure (wpAny_pure (wpAny_bind (wpAny_newObj_type ?_)))
  have kept : ∀ b o, t.heap.get? b = some o → (t.heap.push { cls := .type "list", data := .seq #[Value.int 0 t.toks] }).get? b = some o := fun b o it => Heap.get?_push_of_some _ it
  refine wpAny_pure ⟨plainId_quiet F.plain_sum_loop _, sum_loopV Wk t.heap.objs.size Sw Sf fr val isI n 0 _ t.toks 0 0 (.inl rfl) rfl (Nat.zero_le _) (fr 0 t _ _ st fun b o _ it => kept b o it) (Heap.get?_push_size _ rfl) fun t' tz mv => ?_⟩
  refine want t' tz mv.os mv.bare fun b o n it => mv.heap b o (fun z => ?_) (kept b o it)
  rcases List.mem_cons.mp z with e | e
  · exact Nat.lt_irrefl _ (e ▸ Heap.lt_size it)
  · exact n e
end
end V3
set_option maxHeartbeats 8100000
/-! sum(a * b for a, b in zip(one, other)), one and other lists of whole numbers. -/
namespace V3
open PySem.Spec PySem L2 PyProof.Rows GxR RZ
/-- the generator stands as it stood where one new object is written -/
theorem AtB.frame {prog : Program} {w : World} {A : Around} {a S : Addr} {g : Nat} {C : Addr} {fp old wr fs : List Addr} {pz : Nat → Bool} {n : Nat} {F : Nat → Value → Prop} {j : Nat} {t : Shared} {h' : Heap} {tk : Nat}
    (st : AtB prog w A a g C fp old wr fs pz n F j t) (k : ∀ b o, b ≠ S → t.heap.get? b = some o → h'.get? b = some o) (na : a ≠ S) (nc : cStatics ≠ S) (off : ∀ b ∈ C :: (fp ++ old), b ≠ S) : AtB prog w A a g C fp old wr fs pz n F j { t with heap := h', toks := tk } := by
  obtain ⟨⟨o, nm, qn, ho, more⟩, ⟨mc, nsc, nol⟩, bare, gs, at_, goes⟩ := st
  exact ⟨⟨o, nm, qn, k a o na ho, more⟩, ⟨mc, nsc.at' fun o it => k _ o nc it, nol⟩, bare, gs, at_, fun u hal bu => goes u (fun b hb o it => hal b hb o (k b o (off b hb) it)) bu⟩
def dotZ (xs ys : List Int) : Int := preSum (fun i => xs.getD i 0 * ys.getD i 0) (min xs.length ys.length)
section
variable {X : Cx}
abbrev genZ (a b : Str) (pa pb tp pz pz2 p1 p2 p3 gpos : Pos) (kk : Nat) (e1 e2 : Expr) (scope : Scope) : Expr := .GeneratorExp (.BinOp (.Name a p1) .Mult (.Name b p2) p3) [⟨.Tuple [.Name a pa, .Name b pb] kk tp, .Call (.Name "zip" pz) [e1, e2] [] pz2, [], 0⟩] scope gpos
def tSumZ (X : Cx) (P : Addr) (ta : TA) : TE := fun σ H Q => ta σ H fun vs H1 => ∃ (p q : Addr) (xs ys : List Int) (m : Nat), vs = [.ref p, .ref q] ∧ SqL X.K H1 p (xs.map V.int) ∧ SqL X.K H1 q (ys.map V.int) ∧ TabG H1 P ∧ (∀ x ∈ xs, x.natAbs < 2 ^ m) ∧ (∀ y ∈ ys, y.natAbs < 2 ^ m) ∧ 0 < m ∧ m ≤ 400000 ∧
  ∀ H2, Tabbed P H1 H2 → Q (.int (dotZ xs ys)) H2
theorem pe_sumZ {c P : Addr} {e1 e2 : Expr} {a b : Str} {pa pb tp p pz pz2 p1 p2 p3 gpos pos : Pos} {kk : Nat} {scope : Scope} {ta : TA} {k : Nat}
    (hr : Room (k + 1) X.A) (hg : Gl X "sum") (hma : X.mg "sum" = none) (hgz : Gl X "zip") (hmz : X.mg "zip" = none) (TB : TabB X.base X.mg c P) (hcode : X.env.code = .ref c) (S : GenS X.env scope a) (kb : scope.names.lookup b = some .local) (ab : (a = b) = False) (ha : PA X [e1, e2] ta)
    (da : (a == ("__debug__" : Str)) = false) (db : (b == ("__debug__" : Str)) = false) (nofold : ∀ v, genFold (.Call (.Name "zip" pz) [e1, e2] [] pz2) X.env v = pure v)
    (hs : starEach [e1, e2] X.env = (false, eval e1 X.env) :: starEach [e2] X.env := by rfl) (hpl : (backTo pz2 (starEach [e2] X.env)).any (·.1) = false := by rfl)
    (he : starEach [genZ a b pa pb tp pz pz2 p1 p2 p3 gpos kk e1 e2 scope] X.env = (false, eval (genZ a b pa pb tp pz pz2 p1 p2 p3 gpos kk e1 e2 scope) X.env) :: starEach [] X.env := by rfl) :
    PE X (.Call (.Name "sum" p) [genZ a b pa pb tp pz pz2 p1 p2 p3 gpos kk e1 e2 scope] [] pos) (tSumZ X P ta) := by
  (refine ⟨fun pins s σ H Q I h => ?_⟩)
  refine wpAny_Call_Name_kw (ld_blt (u := .builtin "sum") I hg hma (by decide +kernel) ?_)
  refine PyProof.Rows.callWith_builtin1 (id := "sum") ?_ he (by rfl)
  rw [he]
  show wpAny _ _ (spliced ((false, eval (genZ a b pa pb tp pz pz2 p1 p2 p3 gpos kk e1 e2 scope) X.env) :: backTo pos (starEach [] X.env))) _ _ s
  refine Calls.spliced_cons (genexpD hr.hd S.co (closure_ok S.free) S.cell S.dot S.kind (by have := hr.dp; omega) ?_ nofold)
  refine Call_ (ld_blt I hgz hmz PyProof.Rows.boot_zip (PyProof.Rows.callWith_type1 (thn (ha.run pz2 pins s σ H _ I h) fun us s0 ⟨vs, H1, I0, rvs0, lp, lq, xs, ys, m, evs, hsx, hsy, tab, bx, by_, m0, ml, want⟩ => ?_) hs hpl))
  subst evs
  obtain ⟨up, uq, rfl, rp, rq⟩ : ∃ up uq, us = [up, uq] ∧ RelV (.ref lp) up ∧ RelV (.ref lq) uq := by
    cases rvs0 with
    | cons r rr =>
      cases rr with
      | cons r2 rr =>
        cases rr
        exact ⟨_, _, rfl, r, r2⟩
  cases (show up = Value.ref lp from rp)
  cases (show uq = Value.ref lq from rq)
  obtain ⟨itx, rvx, plx, zlx⟩ := I0.list hsx
  obtain ⟨ity, rvy, ply, zly⟩ := I0.list hsy
  refine call_zip_2 plx.isList ply.isList fun hz isz isTI isTO it1 it2 szz keptz => wpAny_pyIter_zip isz ?_
  have I1 : Inv X pins σ H1 { s0 with heap := hz } := I0.kept (t' := s0.toks) keptz
  have D := PySem.W.ktu_apart s0.heap.objs.size lp lq plx.lt ply.lt
  have lpN : lp < s0.heap.objs.size := plx.lt
  have lqN : lq < s0.heap.objs.size := ply.lt
  obtain ⟨ptab, hP, htr⟩ := tab
  have atP : s0.heap.get? P = some { cls := .none, data := .fields ptab } := I0.hok P _ hP
  have ltP : P < s0.heap.objs.size := Heap.lt_size atP
  have atP2 : hz.get? P = some { cls := .none, data := .fields ptab } := keptz _ _ atP
  have hdC : PySem.W.CodeHd hz c P := TB.code.keeps fun b u e => I1.bk b u e
  have nol : hz.NoLimit := I1.nolimit
  have csB : ∃ o, X.base.get? cStatics = some o := by
    obtain ⟨_, q, _⟩ := I0.ok.mod.nolimit
    obtain ⟨o, es, ep, ho, _⟩ := q
    exact ⟨o, ho⟩
  have notFr : ∀ b o, X.base.get? b = some o → b ∉ frs X.stack := fun b o it z => by
    have := (frs_apart I0.stack z).1
    rw [it] at this
    cases this
  have frLow : ∀ b ∈ frs X.stack, b < s0.heap.objs.size := fun b z => by
    obtain ⟨_, o, ho, _⟩ := frs_apart I0.stack z
    exact Heap.lt_size ho
  have frNotP : P ∉ frs X.stack := fun z => by
    have := I0.stkFree P z
    rw [hP] at this
    cases this
  have lFr : ∀ (l : Addr) (ws : List V), SqL X.K H1 l ws → l ∉ frs X.stack := fun l ws hq z => by
    rcases hq with ((e | ⟨o, e⟩) | ⟨o, it2, n2, e, _⟩)
    · have := I0.stkFree l z
      rw [e] at this
      cases this
    · have := I0.stkFree l z
      rw [e] at this
      cases this
    · exact notFr l o (I0.ok.mod.kin l o e) z
  have lNP : ∀ (l : Addr) (its : Array Value), s0.heap.IsList l its → l ≠ P := fun l its hl z => by
    obtain ⟨o, q1, _, q3⟩ := hl
    rw [z, atP] at q1
    cases q1
    obtain ⟨_, q3⟩ := q3
    cases q3
  have lx := lNP lp _ plx.isList
  have ly := lNP lq _ ply.isList
  -- behind the code object
  have cont : ∀ (code : Value) (hp3 : Heap) (tk : Nat) (ptab3 : Array Value), Heap.ExtBut P hz hp3 → hz.objs.size ≤ hp3.objs.size → hp3.get? P = some { cls := .none, data := .fields ptab3 } → (∃ more, ptab3 = ptab ++ more) → TriplesOk ptab3.toList →
      wpAny (model X.prog X.w) X.A (builtinsFor X.env.globals X.env.builtins) (fun bi t4 => MadeD X.prog X.w X.A X.env (.BinOp (.Name a p1) .Mult (.Name b p2) p3) (.Call (.Name "zip" pz) [e1, e2] [] pz2) (.Tuple [.Name a pa, .Name b pb] kk tp) [] scope (cloFrom X.env.cells scope.names []) gpos
        (fun g t5 => wpAny (model X.prog X.w) X.A (spliced (backTo pos (starEach [] X.env))) (fun vs t6 => wpAny (model X.prog X.w) X.A (call (.builtin "sum") (g :: vs)) (EP X pins σ Q) X.xe t6) X.xe t5) (.ref (s0.heap.objs.size + 4)) code bi t4) X.xe { s0 with heap := hp3, toks := tk } := by
    intro code hp3 tk ptab3 hx3 sz3 atP3 grown ok3
    (obtain ⟨bm, ob, e1, e2, e3, e4, e5, e6, e7, e8⟩ := TB.bm)
    have keep3 : ∀ b u, b ≠ P → hz.get? b = some u → hp3.get? b = some u := fun b u nb it => hx3 b u nb it
    have keep0 : ∀ b u, b ≠ P → s0.heap.get? b = some u → hp3.get? b = some u := fun b u nb it => hx3 b u nb (keptz b u it)
    have big3 : s0.heap.objs.size + 5 ≤ hp3.objs.size := by
      rw [← szz]
      exact sz3
    have baseNP : ∀ b o, X.base.get? b = some o → b ≠ P := fun b o it z => by
      have := (I0.bs b o it).2
      rw [z, hP] at this
      cases this
    obtain ⟨oCs, csAt⟩ := csB
    have csLow : cStatics < s0.heap.objs.size := Heap.lt_size (I0.bk _ _ csAt)
    have up : ∀ j, s0.heap.objs.size + j ≠ P := fun j z => by
      rw [← z] at ltP
      exact absurd ltP (Nat.not_lt_of_le (Nat.le_add_right _ _))
    have lowN : s0.heap.objs.size ≤ hp3.objs.size := Nat.le_trans (Nat.le_add_right _ 5) big3
    have upLow : ∀ j : Nat, j < 5 → s0.heap.objs.size + j < hp3.objs.size := fun j hj => Nat.lt_of_lt_of_le (Nat.add_lt_add_left hj _) big3
    have fpLow : ∀ b ∈ [s0.heap.objs.size + 4, s0.heap.objs.size + 2, s0.heap.objs.size + 3, s0.heap.objs.size, s0.heap.objs.size + 1, lp, lq], b < hp3.objs.size := fun b hb => by
      (simp only [List.mem_cons, List.not_mem_nil, or_false] at hb)
      rcases hb with z | z | z | z | z | z | z <;> subst z
      · exact upLow 4 (by decide)
      · exact upLow 2 (by decide)
      · exact upLow 3 (by decide)
      · exact upLow 0 (by decide)
      · exact upLow 1 (by decide)
      · exact Nat.lt_of_lt_of_le lpN lowN
      · exact Nat.lt_of_lt_of_le lqN lowN
    have wrHigh : ∀ b ∈ [s0.heap.objs.size + 4, s0.heap.objs.size + 3, s0.heap.objs.size, s0.heap.objs.size + 1], s0.heap.objs.size ≤ b ∧ b < hp3.objs.size := fun b hb => by
      (simp only [List.mem_cons, List.not_mem_nil, or_false] at hb)
      rcases hb with z | z | z | z <;> subst z
      · exact ⟨Nat.le_add_right _ _, upLow 4 (by decide)⟩
      · exact ⟨Nat.le_add_right _ _, upLow 3 (by decide)⟩
      · exact ⟨Nat.le_refl _, upLow 0 (by decide)⟩
      · exact ⟨Nat.le_add_right _ _, upLow 1 (by decide)⟩
    refine wpAny_builtinsFor (m := X.mg) (by rw [I0.ok.glob]; exact (I1.mod.glob.keeps I1.bk).extBut hx3 TB.gP) e1 e2 (keep3 _ _ e4 (I1.bk _ _ e5)) e6 e7 e8 ?_
    refine ⟨I0.bare, s0.heap.objs.size + 4, [s0.heap.objs.size + 4, s0.heap.objs.size + 2, s0.heap.objs.size + 3, s0.heap.objs.size, s0.heap.objs.size + 1, lp, lq], [s0.heap.objs.size + 4, s0.heap.objs.size + 3, s0.heap.objs.size, s0.heap.objs.size + 1], hp3.objs.size :: frs X.stack, min itx.toArray.size ity.toArray.size, _, _, (fun _ => true), (fun i y => ∃ tz, y = .int (xs.getD i 0 * ys.getD i 0) tz), rfl,
      Draws2.pair (fun B q => WalksT.zip2 q _ _ _ _ _ _ _ D itx.toArray ity.toArray) (fun i vals pt => by obtain ⟨x, y, _, _, e⟩ := pt; exact ⟨x, y, e⟩) S.loc kb ab (by simp [genEnv, S.kind]) (fun z => Nat.lt_irrefl _ (fpLow _ z)),
      ⟨keep3 _ _ (up 4) isz, keep3 _ _ (up 2) isTI, ⟨_, _, keep3 _ _ (up 3) isTO⟩, it1.at fun o e => keep3 _ o (up 0) e, it2.at fun o e => keep3 _ o (up 1) e, plx.isList.at fun o e => keep0 _ o lx e, ply.isList.at fun o e => keep0 _ o ly e⟩, fpLow, nol.extBut hx3 (baseNP _ _ csAt), ?_, ?_, ?_, ?_, ?_, ?_⟩
    · intro z
      exact absurd (wrHigh _ z).1 (Nat.not_le_of_lt csLow)
    · intro b hb
      show b ≤ hp3.objs.size
      rcases List.mem_cons.mp hb with (z | z)
      · rw [z]
        exact Nat.le_refl _
      · exact Nat.le_of_lt (Nat.lt_of_lt_of_le (frLow b z) lowN)
    · intro b hb hf
      rcases List.mem_cons.mp hf with (y | y)
      · have := fpLow b hb
        rw [y] at this
        exact Nat.lt_irrefl _ this
      · have low := frLow b y
        (simp only [List.mem_cons, List.not_mem_nil, or_false] at hb)
        rcases hb with z | z | z | z | z | z | z
        · rw [z] at low
          exact absurd low (Nat.not_lt_of_le (Nat.le_add_right _ _))
        · rw [z] at low
          exact absurd low (Nat.not_lt_of_le (Nat.le_add_right _ _))
        · rw [z] at low
          exact absurd low (Nat.not_lt_of_le (Nat.le_add_right _ _))
        · rw [z] at low
          exact absurd low (Nat.not_lt_of_le (Nat.le_refl _))
        · rw [z] at low
          exact absurd low (Nat.not_lt_of_le (Nat.le_add_right _ _))
        · subst z
          exact lFr _ _ hsx y
        · subst z
          exact lFr _ _ hsy y
    · intro z
      rcases List.mem_cons.mp z with (y | y)
      · have e : cStatics = hp3.objs.size := y
        rw [e] at csLow
        exact absurd csLow (Nat.not_lt_of_le lowN)
      · exact notFr _ _ csAt y
    · intro ref href
      refine ⟨fun B Ex i t mp hB fB dB uB bT bd ns kept => tests_none ⟨rfl, ⟨rfl, bT, KM.exact (fun _ _ it => it)⟩⟩, fun B Ex i t mp hB fB dB uB bT bd _ ns kept => ?_⟩
      obtain ⟨x, y, ⟨x', y', hx, hy, exy⟩, ma, mb⟩ := bd
      obtain ⟨rfl, rfl⟩ : x = x' ∧ y = y' := by simpa using exy
      have lxi : i < xs.length := by
        have h1 := (Array.getElem?_eq_some_iff.mp hx).1
        have h2 := rvx.length
        rw [List.length_map] at h2
        rw [List.size_toArray] at h1
        omega
      have lyi : i < ys.length := by
        have h1 := (Array.getElem?_eq_some_iff.mp hy).1
        have h2 := rvy.length
        rw [List.length_map] at h2
        rw [List.size_toArray] at h1
        omega
      obtain ⟨tx, hx2⟩ := vals_int_get rvx (List.getElem?_eq_getElem lxi)
      obtain ⟨ty, hy2⟩ := vals_int_get rvy (List.getElem?_eq_getElem lyi)
      rw [hx2] at hx
      rw [hy2] at hy
      cases hx
      cases hy
      have okm := (wide_mul (bx _ (List.getElem_mem lxi)) (by_ _ (List.getElem_mem lyi)) m0 m0 (by omega)).ok
      refine wpAny_BinOp (wpAny_Name (wpAny_loadName_local (by exact S.kind) (by exact S.loc) ns ma ?_) da)
      refine wpAny_Name (wpAny_loadName_local (by exact S.kind) (by exact kb) ns mb ?_) db
      refine mul_int ⟨⟨t.toks, ?_⟩, rfl, bT, KM.exact (fun _ _ it => it)⟩ okm
      rw [List.getD_eq_getElem?_getD, List.getElem?_eq_getElem lxi, List.getD_eq_getElem?_getD, List.getElem?_eq_getElem lyi]
      rfl
    · intro g hp5 tk5 gs gsb ltg szg k5 Wk at5
      refine Calls.spliced_nil (call_sumV ?_)
      have hg5 : hp3.objs.size < hp5.objs.size := by
        rw [szg]
        exact Nat.lt_succ_of_lt ltg
      have pall : passing (fun _ => true) (min itx.toArray.size ity.toArray.size) 0 = List.range (min itx.toArray.size ity.toArray.size) := GxR.passing_true _
      refine Wk.in4.self _ _ _ at5 ⟨g, _, _, _, _, _, (fun i => xs.getD i 0 * ys.getD i 0), rfl, Wk.in4, at5, fun j y hy => ?_, fun z => ?_, fun z => ?_, fun i t2 h' tk2 st2 kk2 => AtB.frame st2 kk2 ?_ ?_ ?_, fun t' tz os' bare' heap' => ?_⟩
      · obtain ⟨i, hi2, hf⟩ := hy
        rw [pall, List.getElem?_range (by
          have := (List.getElem?_eq_some_iff.mp hi2).1
          rw [List.length_range] at this
          exact this)] at hi2
        rw [Option.some.inj hi2]
        exact hf
      · rcases List.mem_cons.mp z with (y | y)
        · have e : hp5.objs.size = hp3.objs.size := y
          rw [e] at hg5
          exact Nat.lt_irrefl _ hg5
        · exact Nat.lt_asymm hg5 (wrHigh _ y).2
      · rcases List.mem_cons.mp z with (y | y)
        · have e : hp5.objs.size = hp3.objs.size := y
          rw [e] at hg5
          exact Nat.lt_irrefl _ hg5
        · exact absurd (frLow _ y) (Nat.not_lt_of_le (Nat.le_trans lowN (Nat.le_of_lt hg5)))
      · show g ≠ hp5.objs.size
        rw [szg]
        exact Nat.ne_of_lt (Nat.lt_succ_self _)
      · exact Nat.ne_of_lt (Nat.lt_of_lt_of_le csLow (Nat.le_trans lowN (Nat.le_of_lt hg5)))
      · intro b hb
        show b ≠ hp5.objs.size
        rcases List.mem_cons.mp hb with (y | y)
        · have e : b = hp3.objs.size := y
          rw [e]
          exact Nat.ne_of_lt hg5
        · rcases List.mem_append.mp y with (v | v)
          · exact Nat.ne_of_lt (Nat.lt_trans (fpLow b v) hg5)
          · exact Nat.ne_of_lt (Nat.lt_trans (List.mem_range.mp v) hg5)
      · obtain ⟨more, rfl⟩ := grown
        have offW : ∀ b, b < s0.heap.objs.size → b ∉ hp3.objs.size :: [s0.heap.objs.size + 4, s0.heap.objs.size + 3, s0.heap.objs.size, s0.heap.objs.size + 1] := fun b lt z => by
          rcases List.mem_cons.mp z with (y | y)
          · rw [y] at lt
            exact absurd lt (Nat.not_lt_of_le lowN)
          · exact absurd lt (Nat.not_lt_of_le (wrHigh _ y).1)
        have kB : ∀ b o, b < s0.heap.objs.size → hp3.get? b = some o → (b ∉ frs X.stack → t'.heap.get? b = some o) ∧ ∃ sl, t'.heap.get? b = some { o with slots := sl } := fun b o lt it => by
          obtain ⟨p1, p2⟩ := heap' b o (offW b lt) (k5 b o it)
          exact ⟨fun nf => p1 fun z => (List.mem_cons.mp z).elim (fun y => absurd (Nat.lt_of_lt_of_le lt lowN) (by rw [y]; exact Nat.lt_irrefl _)) nf, p2⟩
        have J := inv_gen (t' := t') (more := more) I0 hP os' bare' (fun b o nb it => kB b o (Heap.lt_size it) (keep0 b o nb it)) ((kB P _ ltP atP3).1 frNotP)
        have len : (passing (fun _ => true) (min itx.toArray.size ity.toArray.size) 0).length = min xs.length ys.length := by
          have h1 := rvx.length
          have h2 := rvy.length
          rw [List.length_map] at h1 h2
          rw [pall, List.length_range, List.size_toArray, List.size_toArray, h1, h2]
        rw [len]
        exact ⟨.int _, _, J, ⟨tz, rfl⟩, want _ ⟨⟨ptab ++ more, upd_same, ok3⟩, fun b nb => upd_ne nb⟩⟩
  refine ⟨nol, ?_⟩
  cases among : codeAmong gpos ptab.toList with
  | none =>
    refine wpAny_genexprCodeX hcode (hdC.code atP2 htr) (hdC.tab atP2) among fun c2 hp2 tk hx2 ge2 lt2 isC _ tabA _ => ?_
    obtain ⟨o1, vs, f1, tf, fl, tg, inF, tx, tt, op, _, _, _, _, _, _, _, _, _, trs, _⟩ := isC
    exact cont _ hp2 tk _ hx2 (Nat.le_trans ge2 (Nat.le_of_lt lt2)) tabA.2 ⟨_, rfl⟩ trs
  | some cv =>
    refine wpAny_genexprCode_hit hcode (hdC.code atP2 htr) among ?_
    exact cont cv hz s0.toks ptab (Heap.ExtBut.refl _ _) (Nat.le_refl _) atP2 ⟨#[], by simp⟩ htr
end
end V3
set_option maxHeartbeats 8000000
namespace V3
open PySem.Spec PySem L2 PyProof.Rows RZ GxR
def topS (i : Nat) : Stmt := PySem.Challenge.pw_rootsabove_k17_whole_means_and_spreads.main.body.getD i (.Pass ⟨0, 0, 0, 0⟩)
structure Gs (K : PySem.W.Frag) (mg : Str → Option Value) : Prop where
  gcd : mg "gcd" = some (.builtin "math.gcd")
  lcm : mg "lcm" = some (.builtin "math.lcm")
  MOST : ∃ t, mg "MOST_ROWS" = some (.int 5 t)
  type_ : mg "type" = none
  int_ : mg "int" = none
  tuple_ : mg "tuple" = none
  list_ : mg "list" = none
  len : mg "len" = none
  range : mg "range" = none
  enumerate : mg "enumerate" = none
  zip : mg "zip" = none
  sum : mg "sum" = none
  abs : mg "abs" = none
  any : mg "any" = none
  all : mg "all" = none
  repr : mg "repr" = none
/-! ### what is asked of a value -/
def D.isInt : D → Bool
  | .int _ => true
  | _ => false
def D.lenIs (n : Int) : D → Bool
  | .tup ds => decide ((ds.length : Int) = n)
  | _ => false
def fracB : D → Bool
  | .tup [.int n, .int m] => decide (0 < m) && decide (Int.gcd n m = 1)
  | _ => false
def D.parts : D → List D
  | .tup ds => ds
  | _ => []
def rowB (n : Int) (d : D) : Bool := d.lenIs n && d.parts.all fracB
def D.pair : D → Int × Int
  | .tup [.int n, .int m] => (n, m)
  | _ => (0, 1)
def cellD (rows : List D) (i j : Nat) : Int × Int := ((rows.getD i .oth).parts.getD j .oth).pair
def symB (rows : List D) : Bool := (List.range rows.length).all fun i => (List.range i).all fun j => decide (cellD rows i j = cellD rows j i)
def tabB : D → Bool
  | .tup rows => decide (1 ≤ rows.length) && decide (rows.length ≤ 5) && rows.all (rowB rows.length) && symB rows
  | _ => false
theorem frac_form {d : D} (h : fracB d = true) : ∃ n m, d = .tup [.int n, .int m] ∧ 0 < m ∧ Int.gcd n m = 1 := by
  match d, h with
  | .tup [.int n, .int m], h =>
    obtain ⟨h1, h2⟩ := Bool.and_eq_true_iff.mp h
    exact ⟨n, m, rfl, of_decide_eq_true h1, of_decide_eq_true h2⟩
theorem row_form {n : Int} {d : D} (h : rowB n d = true) : ∃ ds, d = .tup ds ∧ (ds.length : Int) = n ∧ ∀ c ∈ ds, fracB c = true := by
  match d, h with
  | .tup ds, h =>
    obtain ⟨h1, h2⟩ := Bool.and_eq_true_iff.mp h
    exact ⟨ds, rfl, of_decide_eq_true h1, List.all_eq_true.mp h2⟩
section
variable {mg : Str → Option Value} {base : Heap} {K : PySem.W.Frag} {P : Program} {w : World}
abbrev s_is_whole : Stmt := topS 16
abbrev N_is_whole : List Str := ["value"]
theorem sc_is_whole : FnScope N_is_whole ["value"] (defScope s_is_whole) := ⟨rfl, rfl, rfl, by decide +kernel, rfl, by decide +kernel, by decide +kernel⟩
def spWholeA (K : PySem.W.Frag) : Sp := fun vs H Q _ => ∃ a v d, vs = [v] ∧ An K a H v d ∧ Q (.bl d.isInt) H
theorem ok_is_whole (T : Gs K mg) (F : At K mg "is_whole" s_is_whole) : Df P w K mg base "is_whole" 1 ["value"] (spWholeA K) := by
  have sc := sc_is_whole
  refine Df.mk' F sc (fun vs H Q E h => ?_) (fun _ _ _ _ _ _ us hl => match us, hl with | [_], _ => rfl) (fun f cdv A outer s H vs Q E hr h => ?_)
  · obtain ⟨a, v, d, rfl, _⟩ := h
    rfl
  · obtain ⟨a, v, d, rfl, an, q⟩ := h
    refine ⟨_, (pss_one (ps_ret (pe_cmpR op_isTyB (pe_callTy call_typeA (by rfl) T.type_ (by decide +kernel) (pa_cons (pv 0) pa_nil)) (pe_bltn (v := .ty "int") (by rfl) T.int_ (by decide +kernel) rfl) (nomark _)))), ?_⟩
    refine ⟨_, rfl, a, _, d, rfl, an, fun Ty hT => ?_⟩
    refine ⟨_, _, rfl, rfl, ?_⟩
    have e : decide (Ty = "int") = d.isInt := by
      cases d with
      | int i =>
        have e : Ty = "int" := hT
        rw [e]
        rfl
      | oth => exact decide_eq_false hT.1
      | tup ds =>
        have e : Ty = "tuple" := hT
        rw [e]
        rfl
    rw [e]
    exact q
abbrev s_is_tuple_of : Stmt := topS 17
abbrev N_is_tuple_of : List Str := ["value", "size"]
theorem sc_is_tuple_of : FnScope N_is_tuple_of ["value", "size"] (defScope s_is_tuple_of) := ⟨rfl, rfl, rfl, by decide +kernel, rfl, by decide +kernel, by decide +kernel⟩
def spTupOfA (K : PySem.W.Frag) : Sp := fun vs H Q _ => ∃ (a : Addr) (v : V) (d : D) (n : Int), vs = [v, .int n] ∧ An K a H v d ∧ Q (.bl (d.lenIs n)) H
theorem ok_is_tuple_of (T : Gs K mg) (F : At K mg "is_tuple_of" s_is_tuple_of) : Df P w K mg base "is_tuple_of" 1 ["value", "size"] (spTupOfA K) := by
  have sc := sc_is_tuple_of
  refine Df.mk' F sc (fun vs H Q E h => ?_) (fun _ _ _ _ _ _ us hl => match us, hl with | [_, _], _ => rfl) (fun f cdv A outer s H vs Q E hr h => ?_)
  · obtain ⟨a, v, d, n, rfl, _⟩ := h
    rfl
  · obtain ⟨a, v, d, n, rfl, an, q⟩ := h
    refine ⟨_, (pss_one (ps_ret (pe_and (pe_cmpR op_isTyB (pe_callTy call_typeA (by rfl) T.type_ (by decide +kernel) (pa_cons (pv 0) pa_nil)) (pe_bltn (v := .ty "tuple") (by rfl) T.tuple_ (by decide +kernel) rfl) (nomark _)) (pe_one (pe_cmpR op_eq (pe_callB call_len_seq (by rfl) T.len PySem.boot_len (pa_cons (pv 0) pa_nil)) (pv 1) (nomark _)))))), ?_⟩
    refine ⟨_, rfl, a, _, d, rfl, an, fun Ty hT => ?_⟩
    cases d with
    | int i =>
      have e : Ty = "int" := hT
      subst e
      exact ⟨_, _, rfl, rfl, _, rfl, ifF (by decide) q⟩
    | oth => exact ⟨_, _, rfl, rfl, _, rfl, ifF (decide_eq_false hT.2) q⟩
    | tup ds =>
      have e : Ty = "tuple" := hT
      subst e
      obtain ⟨p, xs, rfl, hp, ne, hA⟩ := anTup an
      refine ⟨_, _, rfl, rfl, _, rfl, ifT (by decide) ?_⟩
      refine ⟨_, rfl, _, _, rfl, .inr hp, _, rfl, rfl, ?_⟩
      have ee : decide (V.int (xs.length : Int) = V.int n) = D.lenIs n (.tup ds) := by
        rw [anLen hA]
        show _ = decide _
        simp
      rw [ee]
      exact q
abbrev s_is_fraction : Stmt := topS 18
abbrev N_is_fraction : List Str := ["value", "number", "under"]
theorem sc_is_fraction : FnScope N_is_fraction ["value"] (defScope s_is_fraction) := ⟨rfl, rfl, rfl, by decide +kernel, rfl, by decide +kernel, by decide +kernel⟩
def spFracA (K : PySem.W.Frag) : Sp := fun vs H Q _ => ∃ a v d, vs = [v] ∧ An K a H v d ∧ Q (.bl (fracB d)) H
theorem ok_is_fraction (T : Gs K mg) (D_is_whole : Df P w K mg base "is_whole" 1 ["value"] (spWholeA K)) (D_is_tuple_of : Df P w K mg base "is_tuple_of" 1 ["value", "size"] (spTupOfA K)) (F : At K mg "is_fraction" s_is_fraction) :
    Df P w K mg base "is_fraction" 2 ["value"] (spFracA K) := by
  have sc := sc_is_fraction
  refine Df.mk' F sc (fun vs H Q E h => ?_) (fun _ _ _ _ _ _ us hl => match us, hl with | [_], _ => rfl) (fun f cdv A outer s H vs Q E hr h => ?_)
  · obtain ⟨a, v, d, rfl, _⟩ := h
    rfl
  · obtain ⟨a, v, d, rfl, an, q⟩ := h
    refine ⟨_, (pss_cons (ps_if (pt_not (pt_val (pe_fn D_is_tuple_of (by decide) hr (pa_cons (pv 0) (pa_cons pe_int pa_nil))))) (pss_one (ps_ret pe_bl)) pss_nil) (pss_cons (ps_asg (pv 0) (pg_tup rfl (pgs_cons (pg_name (i := 1) sc.nd rfl (.inl rfl)) (pgs_cons (pg_name (i := 2) sc.nd rfl (.inl rfl)) pgs_nil)))) (pss_one (ps_ret (pe_and (pe_fn D_is_whole (by decide) hr (pa_cons (pv 1) pa_nil)) (pe_and (pe_fn D_is_whole (by decide) hr (pa_cons (pv 2) pa_nil)) (pe_and (pe_cmpR op_gt (pv 2) pe_int (nomark _)) (pe_one (pe_cmpR op_eq (pe_callBfun cr_gcd (by rfl) T.gcd (pa_cons (pv 1) (pa_cons (pv 2) pa_nil))) pe_int (nomark _)))))))))), ?_⟩
    refine ⟨_, rfl, a, _, d, _, rfl, an, _, rfl, if2 (fun c => ?_) (fun c => ?_)⟩
    · have e : fracB d = false := by
        match d, c with
        | .int _, _ => rfl
        | .oth, _ => rfl
        | .tup [], _ => rfl
        | .tup [x], _ => cases x <;> rfl
        | .tup (x :: y :: _ :: _), _ => cases x <;> cases y <;> rfl
        | .tup [_, _], c => simp [D.lenIs] at c
      rw [e] at q
      exact q
    · have c2 : ∃ x y, d = .tup [x, y] := by
        match d, c with
        | .int _, c => simp [D.lenIs] at c
        | .oth, c => simp [D.lenIs] at c
        | .tup [], c => simp [D.lenIs] at c
        | .tup [_], c => simp [D.lenIs] at c
        | .tup (_ :: _ :: _ :: _), c =>
          simp [D.lenIs] at c
          omega
        | .tup [x, y], _ => exact ⟨x, y, rfl⟩
      obtain ⟨x, y, rfl⟩ := c2
      obtain ⟨p, xs, rfl, hp, ne, hA⟩ := anTup an
      cases hA with
      | @cons v1 vs1 _ _ a1 hB =>
        cases hB with
        | @cons v2 vs2 _ _ a2 hC =>
          cases hC
          refine ⟨_, rfl, _, _, rfl, hp, rfl, _, _, rfl, _, _, rfl, rfl, ?_⟩
          refine ⟨_, rfl, a, _, x, rfl, a1, _, rfl, if2 (fun c1 => ?_) (fun c1 => ?_)⟩
          · refine ⟨_, rfl, a, _, y, rfl, a2, _, rfl, if2 (fun c2 => ?_) (fun c2 => ?_)⟩
            · obtain ⟨n, rfl⟩ : ∃ n, x = .int n := by
                cases x <;> first | exact ⟨_, rfl⟩ | cases c1
              obtain ⟨m, rfl⟩ : ∃ m, y = .int m := by
                cases y <;> first | exact ⟨_, rfl⟩ | cases c2
              have e1 := anInt a1
              have e2 := anInt a2
              subst e1 e2
              have qq : fracB (.tup [.int n, .int m]) = (decide (0 < m) && decide (Int.gcd n m = 1)) := rfl
              rw [qq] at q
              refine ⟨_, rfl, _, _, rfl, rfl, _, rfl, if2 (fun c3 => ?_) (fun c3 => ?_)⟩
              · have c4 : 0 < m := of_decide_eq_true c3
                rw [decide_eq_true c4, Bool.true_and] at q
                (refine ⟨_, rfl, _, rfl, _, _, rfl, rfl, ?_⟩)
                have e3 : decide (V.int ((Nat.gcd n.natAbs m.natAbs : Nat) : Int) = V.int 1) = decide (Int.gcd n m = 1) := by
                  rw [decide_eq_decide]
                  unfold Int.gcd
                  constructor
                  · intro z
                    have := V.int.inj z
                    omega
                  · intro z
                    rw [z]
                    rfl
                rw [e3]
                exact q
              · have c4 : ¬ 0 < m := of_decide_eq_false c3
                rw [decide_eq_false c4, Bool.false_and] at q
                exact q
            · have e : fracB (.tup [x, y]) = false := by
                cases x <;> cases y <;> first | rfl | cases c2
              rw [e] at q
              exact q
          · have e : fracB (.tup [x, y]) = false := by
              cases x <;> cases y <;> first | rfl | cases c1
            rw [e] at q
            exact q
abbrev s_first_unlike_fraction : Stmt := topS 20
abbrev N_first_unlike_fraction : List Str := ["values", "index", "value"]
theorem sc_first_unlike_fraction : FnScope N_first_unlike_fraction ["values"] (defScope s_first_unlike_fraction) := ⟨rfl, rfl, rfl, by decide +kernel, rfl, by decide +kernel, by decide +kernel⟩
def spFirstA (K : PySem.W.Frag) : Sp := fun vs H Q _ => ∃ a v ds, vs = [v] ∧ An K a H v (.tup ds) ∧ ∀ H', Same H H' → (ds.all fracB = true → Q .non H') ∧ (ds.all fracB = false → ∀ i : Int, Q (.int i) H')
theorem ok_first (T : Gs K mg) (D_is_fraction : Df P w K mg base "is_fraction" 2 ["value"] (spFracA K)) (F : At K mg "first_unlike_fraction" s_first_unlike_fraction) :
    Df P w K mg base "first_unlike_fraction" 3 ["values"] (spFirstA K) := by
  have sc := sc_first_unlike_fraction
  refine Df.mk' F sc (fun vs H Q E h => ?_) (fun _ _ _ _ _ _ us hl => match us, hl with | [_], _ => rfl) (fun f cdv A outer s H vs Q E hr h => ?_)
  · obtain ⟨a, q, ds, rfl, _⟩ := h
    rfl
  · obtain ⟨a, v, ds, rfl, an, q⟩ := h
    obtain ⟨p, xs, rfl, hp, ne, hA⟩ := anTup an
    refine ⟨_, (pss_cons (ps_for PassesOwn.never rfl (pi_enumT (by rfl) T.enumerate (pa_cons (pv 0) pa_nil)) (pg_tup rfl (pgs_cons (pg_name (i := 1) sc.nd rfl (.inl rfl)) (pgs_cons (pg_name (i := 2) sc.nd rfl (.inl rfl)) pgs_nil))) (pss_one (ps_if (pt_not (pt_val (pe_fn D_is_fraction (by decide) hr (pa_cons (pv 2) pa_nil)))) (pss_one (ps_ret (pv 1))) pss_nil))) (pss_one (ps_ret pe_non))), ?_⟩
    refine ⟨_, rfl, p, xs, rfl, hp, for_enumT (K := K) (a := p) (xs := xs) (fun i σ H' => (∃ y z, σ = [some (.ref p), y, z]) ∧ Same H H' ∧ (ds.take i).all fracB = true) ⟨⟨none, none, rfl⟩, Same.refl _, rfl⟩ (fun i σ H' _ h => sameT h.2.1 hp) ?_ ?_⟩
    · rintro i x T' σ H' hi ⟨⟨y, z, rfl⟩, sm, al⟩ hT
      obtain ⟨d, hd, hdp⟩ := anGetV hA hi
      have sm2 : Same H (upd H' T' (.tup [.int (i : Nat), x])) := sm.trans (same_upd hT)
      refine ⟨T', _, rfl, SqT.of upd_same, rfl, _, _, rfl, _, _, rfl, rfl, ?_⟩
      refine ⟨_, rfl, a, _, d, rfl, An.keep (Same.keepA sm2) hdp, _, rfl, if2 (fun c => ?_) (fun c => ?_)⟩
      · have e : ds.all fracB = false := by
          rw [List.all_eq_false]
          exact ⟨d, List.mem_of_getElem? hd, by simpa using c⟩
        exact ⟨_, rfl, (q _ sm2).2 e _⟩
      · refine ⟨⟨_, _, rfl⟩, sm2, ?_⟩
        rw [take_more hd, List.all_append, al]
        have : fracB d = true := by simpa using c
        simp [this]
    · rintro σ H' ⟨_, sm, al⟩
      rw [anLen hA, List.take_length] at al
      exact (q H' sm).1 al
abbrev s_is_row : Stmt := topS 19
abbrev N_is_row : List Str := ["value", "size"]
theorem sc_is_row : FnScope N_is_row ["value", "size"] (defScope s_is_row) := ⟨rfl, rfl, rfl, by decide +kernel, rfl, by decide +kernel, by decide +kernel⟩
def spRowA (K : PySem.W.Frag) : Sp := fun vs H Q _ => ∃ a v d n, vs = [v, .int n] ∧ An K a H v d ∧ ∀ H', Same H H' → Q (.bl (rowB n d)) H'
theorem ok_is_row (D_is_tuple_of : Df P w K mg base "is_tuple_of" 1 ["value", "size"] (spTupOfA K)) (D_first_unlike_fraction : Df P w K mg base "first_unlike_fraction" 3 ["values"] (spFirstA K)) (F : At K mg "is_row" s_is_row) : Df P w K mg base "is_row" 4 ["value", "size"] (spRowA K) := by
  have sc := sc_is_row
  refine Df.mk' F sc (fun vs H Q E h => ?_) (fun _ _ _ _ _ _ us hl => match us, hl with | [_, _], _ => rfl) (fun f cdv A outer s H vs Q E hr h => ?_)
  · obtain ⟨a, v, d, n, rfl, _⟩ := h
    rfl
  · obtain ⟨a, v, d, n, rfl, an, q⟩ := h
    refine ⟨_, (pss_one (ps_ret (pe_and (pe_fn D_is_tuple_of (by decide) hr (pa_cons (pv 0) (pa_cons (pv 1) pa_nil))) (pe_one (pe_cmpR op_isN (pe_fn D_first_unlike_fraction (by decide) hr (pa_cons (pv 0) pa_nil)) pe_non (nomark _)))))), ?_⟩
    refine ⟨_, rfl, _, rfl, a, _, d, _, rfl, an, _, rfl, if2 (fun c => ?_) (fun c => ?_)⟩
    · obtain ⟨ds, rfl⟩ : ∃ ds, d = .tup ds := by
        cases d <;> first | exact ⟨_, rfl⟩ | cases c
      have e : rowB n (.tup ds) = ds.all fracB := by
        unfold rowB
        rw [c]
        rfl
      rw [e] at q
      refine ⟨_, rfl, a, _, ds, rfl, an, fun H' sm => ⟨fun al => ?_, fun al i => ?_⟩⟩
      · rw [al] at q
        exact ⟨rfl, q H' sm⟩
      · rw [al] at q
        exact ⟨rfl, q H' sm⟩
    · have e : rowB n d = false := by
        unfold rowB
        rw [c]
        rfl
      rw [e] at q
      exact q H (Same.refl _)
end
end V3
namespace V3
open PySem.Spec PySem L2 PyProof.Rows RZ GxR
theorem tabbed_but {P : Addr} {H H' : Hp} (h : Tabbed P H H') : But P H H' := tab_but h
section
variable {mg : Str → Option Value} {base : Heap} {K : PySem.W.Frag} {P : Program} {w : World}
abbrev s_is_table : Stmt := topS 23
abbrev N_is_table : List Str := ["value", "size", "i", "j", "row"]
theorem sc_is_table : FnScope N_is_table ["value"] (defScope s_is_table) := ⟨rfl, rfl, rfl, by decide +kernel, rfl, by decide +kernel, by decide +kernel⟩
/-- of any value: whether it is a table; the def's own table of code objects may have grown -/
def spTabA (K : PySem.W.Frag) (Pt : Addr) : Sp := fun vs H Q _ => ∃ a v d, vs = [v] ∧ An K a H v d ∧ TabG H Pt ∧ ∀ H', But Pt H H' → TabG H' Pt → Q (.bl (tabB d)) H'
theorem all_range {α : Type} (f : α → Bool) (d0 : α) : ∀ (xs : List α), ((List.range xs.length).all fun i => f (xs.getD i d0)) = xs.all f := fun xs => by
  (rw [Bool.eq_iff_iff, List.all_eq_true, List.all_eq_true])
  constructor
  · intro h x hx
    obtain ⟨i, hi⟩ := List.getElem?_of_mem hx
    have := h i (List.mem_range.mpr (List.getElem?_eq_some_iff.mp hi).1)
    rw [List.getD_eq_getElem?_getD, hi] at this
    exact this
  · intro h i hi
    have hl := List.mem_range.mp hi
    rw [List.getD_eq_getElem?_getD, List.getElem?_eq_getElem hl]
    exact h _ (List.getElem_mem hl)
theorem frD_eqv (x y : Int × Int) : PyData.eqv (frD x) (frD y) = decide (x = y) := by
  obtain ⟨a, b⟩ := x
  obtain ⟨c, d⟩ := y
  unfold frD
  simp [PyData.eqv, PyData.eqvAll]
  rfl
/-- a fraction as data -/
theorem an_frD {a : Addr} {H : Hp} {v : V} {d : D} (h : An K a H v d) (f : fracB d = true) : DpT K H v (frD d.pair) := by
  obtain ⟨n, m, rfl, _⟩ := frac_form f
  obtain ⟨p, xs, rfl, hp, ne, hA⟩ := anTup h
  cases hA with
  | cons x y =>
    cases y with
    | cons z u =>
      cases u
      have e1 := anInt x
      have e2 := anInt z
      subst e1 e2
      exact .tup hp (.cons (.int n) (.cons (.int m) .nil))
theorem ok_is_table (T : Gs K mg) {c Pt : Addr} (TB : TabB base mg c Pt) (D_is_row : Df P w K mg base "is_row" 4 ["value", "size"] (spRowA K)) (F : AtC K mg "is_table" s_is_table c) : Df P w K mg base "is_table" 6 ["value"] (spTabA K Pt) := by
  have sc := sc_is_table
  obtain ⟨tm, gm⟩ := T.MOST
  refine Df.mkC F sc (fun vs H Q E h => ?_) (fun _ _ _ _ _ _ us hl => match us, hl with | [_], _ => rfl) (fun f A outer s H vs Q E hr h => ?_)
  · obtain ⟨a, v, d, rfl, _⟩ := h
    rfl
  · obtain ⟨a, v, d, rfl, an, tab, q⟩ := h
    refine ⟨_, (pss_cons (ps_if (PW.pt (pw_or (pt_cmpR op_notTyB (pe_callTy call_typeA (by rfl) T.type_ (by decide +kernel) (pa_cons (pv 0) pa_nil)) (pe_bltn (v := .ty "tuple") (by rfl) T.tuple_ (by decide +kernel) rfl) (nomark _)) (pw_or1 (pt_not (pt_chain op_le op_le pe_int (pe_callB call_len_seq (by rfl) T.len PySem.boot_len (pa_cons (pv 0) pa_nil)) (pe_glob (v := .int 5) (by rfl) gm ⟨_, rfl⟩))))))
   (pss_one (ps_ret pe_bl))
   pss_nil)
  (pss_cons (ps_set (i := 1) sc.nd rfl (Or.inr rfl) (pe_callB call_len_seq (by rfl) T.len PySem.boot_len (pa_cons (pv 0) pa_nil)))
  (pss_cons (ps_if (pt_not (pt_val (pe_allC (P := Pt) hr (by rfl) T.all TB rfl ⟨rfl, rfl, by decide +kernel, rfl, rfl, by
        intro y hy e
        simp only [List.mem_cons, List.not_mem_nil, or_false] at hy
        rcases hy with rfl | rfl | rfl | rfl <;> first | exact ⟨_, rfl⟩ | cases e⟩ (pv 0) D_is_row (ic := 1) ⟨rfl, rfl, rfl, fun _ => rfl, by decide, by decide⟩ rfl (by decide) (by decide) (fun _ => rfl))))
   (pss_one (ps_ret pe_bl))
   pss_nil)
  (pss_one (ps_ret (pe_all2 (P := Pt) hr (by rfl) T.all (by rfl) T.range TB rfl ⟨rfl, rfl, by decide +kernel, rfl, rfl, by
        intro y hy e
        simp only [List.mem_cons, List.not_mem_nil, or_false] at hy
        rcases hy with rfl | rfl | rfl | rfl | rfl <;> first | exact ⟨_, rfl⟩ | cases e⟩ rfl (by decide) (pa_cons (pv 1) pa_nil) (ic := 0) ⟨rfl, rfl, rfl, fun _ => rfl, by decide, by decide⟩ rfl (by decide) (by decide))))))), ?_⟩
    refine ⟨_, rfl, a, _, d, rfl, an, fun Ty hT => ?_⟩
    have no : (∀ ds, d ≠ .tup ds) → Ty ≠ "tuple" ∧ tabB d = false := fun z => by
      cases d with
      | int i =>
        have e : Ty = "int" := hT
        subst e
        exact ⟨by decide, rfl⟩
      | oth => exact ⟨hT.2, rfl⟩
      | tup ds => exact absurd rfl (z ds)
    refine ⟨_, _, rfl, rfl, _, rfl, if2 (fun c1 => ?_) (fun c1 => ?_)⟩
    · have c2 : Ty ≠ "tuple" := by simpa using c1
      have e : tabB d = false := (no fun ds z => by
        subst z
        exact c2 hT).2
      rw [e] at q
      exact q H (fun _ _ _ x => x) tab
    · have c2 : Ty = "tuple" := by simpa using c1
      obtain ⟨rows, rfl⟩ : ∃ ds, d = .tup ds := by
        apply Classical.byContradiction
        intro z
        exact (no fun ds y => z ⟨ds, y⟩).1 c2
      obtain ⟨p, xs, rfl, hp, ne, hA⟩ := anTup an
      have len := anLen hA
      have stop : tabB (.tup rows) = false → Q (.bl false) H := fun e => by
        rw [e] at q
        exact q H (fun _ _ _ x => x) tab
      refine ⟨_, rfl, p, xs, rfl, .inr hp, _, _, rfl, rfl, _, rfl, if2 (fun c3 => ?_) (fun c3 => ?_)⟩
      · have c4 : 1 ≤ xs.length := by
          have := of_decide_eq_true c3
          omega
        refine ⟨_, _, rfl, rfl, _, rfl, if2 (fun c5 => ?_) (fun c5 => ?_)⟩
        · refine stop ?_
          have : ¬ rows.length ≤ 5 := by
            have h : ¬ ((xs.length : Int) ≤ 5) := by simpa using c5
            omega
          simp [tabB, this]
        · have c6 : rows.length ≤ 5 := by
            have h : ((xs.length : Int) ≤ 5) := by simpa using c5
            omega
          refine ⟨_, rfl, p, xs, rfl, .inr hp, ?_⟩
          refine ⟨_, rfl, p, xs, .int (xs.length : Int), fun i => rowB rows.length (rows.getD i .oth), rfl, hp, tab, rfl, fun h ok i x hi => ?_, fun H2 tb => ?_⟩
          · obtain ⟨d, hd, dx⟩ := anGetV hA hi
            refine ⟨a, x, d, _, rfl, An.fast ok dx, fun H' sm => ?_⟩
            have e : rows.getD i .oth = d := by
              rw [List.getD_eq_getElem?_getD, hd]
              rfl
            show V.bl (rowB (xs.length : Int) d) = V.bl (rowB (rows.length : Int) (rows.getD i .oth))
            rw [e, len]
          have eall : ((List.range xs.length).all fun i => rowB rows.length (rows.getD i .oth)) = rows.all (rowB rows.length) := by
            rw [len]
            exact all_range _ _ rows
          rw [eall]
          refine ⟨_, rfl, if2 (fun c7 => ?_) (fun c7 => ?_)⟩
          · have c8 : rows.all (rowB rows.length) = false := by simpa using c7
            have e : tabB (.tup rows) = false := by simp [tabB, c8]
            rw [e] at q
            exact q H2 (tab_but tb) tb.1
          · have c8 : rows.all (rowB rows.length) = true := by simpa using c7
            have rf : ∀ i, i < xs.length → ∃ ds, rows[i]? = some (.tup ds) ∧ ds.length = rows.length ∧ ∀ c ∈ ds, fracB c = true := fun i hi => by
              have hl : i < rows.length := by omega
              obtain ⟨ds, e1, e2, e3⟩ := row_form (List.all_eq_true.mp c8 rows[i] (List.getElem_mem hl))
              exact ⟨ds, by rw [List.getElem?_eq_getElem hl, e1], by omega, e3⟩
            have cell : ∀ i j, i < xs.length → j < xs.length → ∃ ds c, rows[i]? = some (.tup ds) ∧ ds[j]? = some c ∧ fracB c = true ∧ cellD rows i j = c.pair := fun i j hi hj => by
              obtain ⟨ds, e1, e2, e3⟩ := rf i hi
              have hl : j < ds.length := by omega
              refine ⟨ds, ds[j], e1, List.getElem?_eq_getElem hl, e3 _ (List.getElem_mem hl), ?_⟩
              unfold cellD
              have g1 : rows.getD i .oth = .tup ds := by
                rw [List.getD_eq_getElem?_getD, e1]
                rfl
              have g2 : ds.getD j .oth = ds[j] := by
                rw [List.getD_eq_getElem?_getD, List.getElem?_eq_getElem hl]
                rfl
              rw [g1]
              show (ds.getD j .oth).pair = _
              rw [g2]
            refine ⟨_, rfl, xs.length, p, fun i j => frD (cellD rows i j), rfl, by omega, tb.1, rfl, ⟨xs, KeepA.sqT (a := a) (Tabbed.keepA tab (tab_but tb)) ne hp, fun i hi => ?_⟩, fun H3 tb3 => ?_⟩
            · have hxi : xs[i]? = some xs[i] := List.getElem?_eq_getElem hi
              obtain ⟨d, hd, dx⟩ := anGetV hA hxi
              obtain ⟨ds, e1, e2, e3⟩ := rf i hi
              rw [hd] at e1
              cases e1
              obtain ⟨b, cs, eb, hcs, neb, call⟩ := anTup dx
              have lc : cs.length = ds.length := anLen call
              refine ⟨b, cs, by rw [hxi, eb], KeepA.sqT (a := a) (Tabbed.keepA tab (tab_but tb)) neb hcs, fun j hj => ?_⟩
              have hcj : cs[j]? = some (cs[j]'(by omega)) := List.getElem?_eq_getElem (by omega)
              obtain ⟨d2, hd2, dc⟩ := anGetV call hcj
              obtain ⟨ds', c, g1, g2, g3, g4⟩ := cell i j hi hj
              rw [hd] at g1
              cases g1
              rw [hd2] at g2
              cases g2
              refine ⟨_, hcj, ?_, ?_⟩
              · show Dp _ _ _ (frD (cellD rows i j))
                rw [g4]
                exact (an_frD (An.keep (Tabbed.keepA tab (tab_but tb)) dc) g3).dp
              · show SeqAt.shaped (frD (cellD rows i j)) = true
                rfl
            · have e : ((List.range xs.length).all fun i => (List.range i).all fun j => PyData.eqv (frD (cellD rows i j)) (frD (cellD rows j i))) = tabB (.tup rows) := by
                have e1 : tabB (.tup rows) = symB rows := by
                  have : 1 ≤ rows.length := by omega
                  simp [tabB, this, c6, c8]
                rw [e1]
                unfold symB
                rw [len]
                congr 1
                funext i
                congr 1
                funext j
                exact frD_eqv _ _
              show Q (.bl ((List.range xs.length).all fun i => (List.range i).all fun j => PyData.eqv (frD (cellD rows i j)) (frD (cellD rows j i)))) H3
              rw [e]
              exact q H3 ((tab_but tb).trans (tab_but tb3)) tb3.1
      · refine ⟨_, rfl, ifT (by rfl) (stop ?_)⟩
        have : ¬ 1 ≤ rows.length := by
          have h := of_decide_eq_false c3
          omega
        simp [tabB, this]
end
end V3
set_option maxHeartbeats 4100000
namespace V3
open PySem.Spec PySem L2 PyProof.Rows RZ GxR
theorem pow_le_pow' {a b : Nat} (h : a ≤ b) : 2 ^ a ≤ 2 ^ b := Nat.pow_le_pow_right (by decide) h
structure Sf (q : Int × Int) : Prop where
  pos : 0 < q.2
  s1 : q.1.natAbs < 2 ^ 4000
  s2 : q.2.natAbs < 2 ^ 4000
/-! ### the shared denominator -/
def lcmRow (u : Nat) (row : List (Int × Int)) : Nat := row.foldl (fun u q => Nat.lcm u q.2.natAbs) u
def lcmAll (rows : List (List (Int × Int))) : Nat := rows.foldl lcmRow 1
theorem lcmRow_dvd : ∀ (row : List (Int × Int)) (u : Nat), u ∣ lcmRow u row
  | [], u => Nat.dvd_refl u
  | q :: r, u => Nat.dvd_trans (Nat.dvd_lcm_left u q.2.natAbs) (lcmRow_dvd r _)
theorem lcmRow_mem : ∀ (row : List (Int × Int)) (u : Nat) (q : Int × Int), q ∈ row → q.2.natAbs ∣ lcmRow u row
  | x :: r, u, q, h => by
    (rcases List.mem_cons.mp h with rfl | h)
    · exact Nat.dvd_trans (Nat.dvd_lcm_right u q.2.natAbs) (lcmRow_dvd r _)
    · exact lcmRow_mem r _ q h
theorem lcmRow_pos : ∀ (row : List (Int × Int)) (u : Nat), 0 < u → (∀ q ∈ row, 0 < q.2) → 0 < lcmRow u row
  | [], u, h, _ => h
  | q :: r, u, h, k => by
    have h1 : 0 < q.2 := k q List.mem_cons_self
    have h2 : 0 < q.2.natAbs := by omega
    exact lcmRow_pos r _ (Nat.lcm_pos h h2) fun x hx => k x (List.mem_cons_of_mem _ hx)
theorem lcmAll_fold_dvd : ∀ (rows : List (List (Int × Int))) (u : Nat), u ∣ rows.foldl lcmRow u
  | [], u => Nat.dvd_refl u
  | r :: rs, u => Nat.dvd_trans (lcmRow_dvd r u) (lcmAll_fold_dvd rs _)
theorem lcmAll_fold_pos : ∀ (rows : List (List (Int × Int))) (u : Nat), 0 < u → (∀ r ∈ rows, ∀ q ∈ r, 0 < q.2) → 0 < rows.foldl lcmRow u
  | [], u, h, _ => h
  | r :: rs, u, h, k => lcmAll_fold_pos rs _ (lcmRow_pos r u h (k r List.mem_cons_self)) fun x hx => k x (List.mem_cons_of_mem _ hx)
theorem lcmAll_fold_mem : ∀ (rows : List (List (Int × Int))) (u : Nat) (r : List (Int × Int)), r ∈ rows → ∀ q ∈ r, q.2.natAbs ∣ rows.foldl lcmRow u
  | x :: rs, u, r, h, q, hq => by
    (rcases List.mem_cons.mp h with rfl | h)
    · exact Nat.dvd_trans (lcmRow_mem r u q hq) (lcmAll_fold_dvd rs _)
    · exact lcmAll_fold_mem rs _ r h q hq
theorem lcmAll_pos (rows : List (List (Int × Int))) (k : ∀ r ∈ rows, ∀ q ∈ r, 0 < q.2) : 0 < lcmAll rows := lcmAll_fold_pos rows 1 (by decide) k
theorem lcmAll_mem {rows : List (List (Int × Int))} {r : List (Int × Int)} (h : r ∈ rows) {q : Int × Int} (hq : q ∈ r) : q.2.natAbs ∣ lcmAll rows := lcmAll_fold_mem rows 1 r h q hq
theorem lcmAll_take_more {rows : List (List (Int × Int))} {i : Nat} {r : List (Int × Int)} (h : rows[i]? = some r) : lcmAll (rows.take (i + 1)) = lcmRow (lcmAll (rows.take i)) r := by
  unfold lcmAll
  (rw [take_more h, List.foldl_append])
  rfl
theorem lcmRow_take_more {u : Nat} {r : List (Int × Int)} {i : Nat} {q : Int × Int} (h : r[i]? = some q) : lcmRow u (r.take (i + 1)) = Nat.lcm (lcmRow u (r.take i)) q.2.natAbs := by
  unfold lcmRow
  (rw [take_more h, List.foldl_append])
  rfl
/-- what is on the way divides the end -/
theorem lcm_way {rows : List (List (Int × Int))} {i j : Nat} {r : List (Int × Int)} (h : rows[i]? = some r) : lcmRow (lcmAll (rows.take i)) (r.take j) ∣ lcmAll rows := by
  have e1 : lcmAll rows = (rows.drop (i + 1)).foldl lcmRow (lcmAll (rows.take (i + 1))) := by
    unfold lcmAll
    rw [← List.foldl_append, List.take_append_drop]
  rw [e1, lcmAll_take_more h]
  refine Nat.dvd_trans ?_ (lcmAll_fold_dvd _ _)
  have e2 : lcmRow (lcmAll (rows.take i)) r = lcmRow (lcmRow (lcmAll (rows.take i)) (r.take j)) (r.drop j) := by
    unfold lcmRow
    rw [← List.foldl_append, List.take_append_drop]
  rw [e2]
  exact lcmRow_dvd _ _
def wholeRow (u : Int) (r : List (Int × Int)) : List Int := r.map fun q => q.1 * (u / q.2)
section
variable {mg : Str → Option Value} {base : Heap} {K : PySem.W.Frag} {P : Program} {w : World}
abbrev s_fraction : Stmt := topS 6
abbrev N_fraction : List Str := ["number", "under", "shared"]
theorem sc_fraction : FnScope N_fraction ["number", "under"] (defScope s_fraction) := ⟨rfl, rfl, rfl, by decide +kernel, rfl, by decide +kernel, by decide +kernel⟩
theorem ok_fraction (T : Gs K mg) (F : At K mg "fraction" s_fraction) : Df P w K mg base "fraction" 1 ["number", "under"] spFrac := by
  have sc := sc_fraction
  refine Df.mk' F sc (fun vs H Q E h => ?_) (fun _ _ _ _ _ _ us hl => match us, hl with | [_, _], _ => rfl) (fun f cdv A outer s H vs Q E hr h => ?_)
  · obtain ⟨n, u, rfl, _⟩ := h
    rfl
  · obtain ⟨n, u, rfl, hu, su, q⟩ := h
    refine ⟨_, (pss_cons (ps_set (i := 2) sc.nd rfl (.inl rfl) (pe_callBfun cr_gcd (by rfl) T.gcd (pa_cons (pv 0) (pa_cons (pv 1) pa_nil)))) (pss_cons (ps_if (pt_cmpR op_lt (pv 1) pe_int (nomark _)) (pss_one (ps_set (i := 2) sc.nd rfl (.inl rfl) (pe_un un_neg (pv 2)))) pss_nil) (pss_one (ps_ret (pe_tup (pa_cons (pe_op op_fdivW (pv 0) (pv 2)) (pa_cons (pe_op op_fdivW (pv 1) (pv 2)) pa_nil))))))), ?_⟩
    have g0 := gcdP (n := n) hu
    have g1 := gcdL (n := n) hu
    have w : CDivW n (Int.gcd n u : Int) := wide_div g0 (b := 9000) (wide_le (by omega) g1 su) (by decide) (by decide)
    refine ⟨_, rfl, _, rfl, n, u, rfl, ?_⟩
    refine ⟨_, rfl, _, _, rfl, rfl, _, rfl, ite2 (fun e => ?_) (fun e => ?_)⟩
    · exact absurd (of_decide_eq_true e) (by omega)
    · refine ⟨_, rfl, _, rfl, _, _, rfl, rfl, w, _, rfl, _, rfl, _, _, rfl, rfl, w, by show 2 ≤ sizeLine; decide, fun p hp => ?_⟩
      exact q _ p (same_upd hp) (made hu upd_same)
abbrev s_shared_under : Stmt := topS 7
abbrev N_shared_under : List Str := ["rows", "under", "row", "number"]
theorem sc_shared_under : FnScope N_shared_under ["rows"] (defScope s_shared_under) := ⟨rfl, rfl, rfl, by decide +kernel, rfl, by decide +kernel, by decide +kernel⟩
def rowsD (rows : List (List (Int × Int))) : PyData := .tuple (rows.map rowD)
def spShared (K : PySem.W.Frag) : Sp := fun vs H Q _ => ∃ v rows, vs = [v] ∧ Dp K H v (rowsD rows) ∧ (∀ r ∈ rows, ∀ q ∈ r, 0 < q.2) ∧ lcmAll rows < 2 ^ 9000 ∧ Q (.int (lcmAll rows)) H
theorem ok_shared (T : Gs K mg) (F : At K mg "shared_under" s_shared_under) : Df P w K mg base "shared_under" 1 ["rows"] (spShared K) := by
  have sc := sc_shared_under
  refine Df.mk' F sc (fun vs H Q E h => ?_) (fun _ _ _ _ _ _ us hl => match us, hl with | [_], _ => rfl) (fun f cdv A outer s H vs Q E hr h => ?_)
  · obtain ⟨a, q, rfl, _⟩ := h
    rfl
  · obtain ⟨v, rows, rfl, hx, pos, sz, q⟩ := h
    obtain ⟨p, xs, rfl, hp, ha⟩ := dpTup hx
    have hl : xs.length = rows.length := by rw [dpAll_len ha, List.length_map]
    have tot := lcmAll_pos rows pos
    refine ⟨_, (pss_cons (ps_set (i := 1) sc.nd rfl (Or.inl rfl) pe_int)
  (pss_cons (ps_for PassesOwn.never rfl (pi_tup (pv 0)) (pg_name (i := 2) sc.nd rfl (Or.inl rfl))
   (pss_one (ps_for PassesOwn.never rfl (pi_tup (pv 2)) (pg_name (i := 3) sc.nd rfl (Or.inl rfl))
   (pss_one (ps_set (i := 1) sc.nd rfl (Or.inl rfl) (pe_callBfun cr_lcm (by rfl) T.lcm (pa_cons (pv 1) (pa_cons (pe_ix ix_tup (pv 3) pe_int (fun _ _ => rfl)) pa_nil))))))))
  (pss_one (ps_ret (pv 1))))), ?_⟩
    refine ⟨_, rfl, p, rfl, ⟨_, hp⟩, for_tup (K := K) (a := p) (xs := xs) (fun i σ H' => (∃ y z, σ = [some (.ref p), some (.int (lcmAll (rows.take i))), y, z]) ∧ H' = H) ⟨⟨none, none, rfl⟩, rfl⟩ (fun i σ H' _ h => by rw [h.2]; exact hp) ?_ ?_⟩
    · rintro i x σ H' hi ⟨⟨y, z, rfl⟩, rfl⟩
      obtain ⟨d, hd', hdp⟩ := dpAll_getV ha hi
      rw [List.getElem?_map] at hd'
      obtain ⟨r, hr', rfl⟩ := Option.map_eq_some_iff.mp hd'
      obtain ⟨p2, ys, rfl, hp2, ha2⟩ := dpTup hdp
      have hl2 : ys.length = r.length := by rw [dpAll_len ha2, List.length_map]
      refine ⟨_, rfl, p2, rfl, ⟨_, hp2⟩, for_tup (K := K) (a := p2) (xs := ys) (fun j σ H2 => (∃ z, σ = [some (.ref p), some (.int (lcmRow (lcmAll (rows.take i)) (r.take j))), some (.ref p2), z]) ∧ H2 = H') ⟨⟨_, rfl⟩, rfl⟩ (fun i σ H' _ h => by rw [h.2]; exact hp2) ?_ ?_⟩
      · rintro j x2 σ H2 hj ⟨⟨z2, rfl⟩, rfl⟩
        obtain ⟨d2, hd2, hdp2⟩ := dpAll_getV ha2 hj
        rw [List.getElem?_map] at hd2
        obtain ⟨qq, hq, rfl⟩ := Option.map_eq_some_iff.mp hd2
        obtain ⟨p3, rfl, hp3⟩ := dpFr hdp2
        have mr : r ∈ rows := List.mem_of_getElem? hr'
        have mq : qq ∈ r := List.mem_of_getElem? hq
        have b1 : lcmRow (lcmAll (rows.take i)) (r.take j) < 2 ^ 9000 := Nat.lt_of_le_of_lt (Nat.le_of_dvd tot (lcm_way hr')) sz
        have b2 : qq.2.natAbs < 2 ^ 9000 := Nat.lt_of_le_of_lt (Nat.le_of_dvd tot (lcmAll_mem mr mq)) sz
        refine ⟨_, rfl, _, rfl, _, _, _, _, rfl, rfl, hp3, at21, ?_⟩
        refine ⟨_, _, rfl, by rw [Int.natAbs_natCast]; exact b1, b2, ⟨some (.ref p3), ?_⟩, rfl⟩
        rw [lcmRow_take_more hq, Int.natAbs_natCast]
        rfl
      · rintro σ H2 ⟨⟨z2, rfl⟩, rfl⟩
        refine ⟨⟨some (.ref p2), z2, ?_⟩, rfl⟩
        rw [lcmAll_take_more hr', hl2, List.take_length]
    · rintro σ H' ⟨⟨y, z, rfl⟩, rfl⟩
      refine ⟨_, rfl, ?_⟩
      rw [hl, List.take_length]
      exact q
abbrev s_whole_rows : Stmt := topS 8
abbrev N_whole_rows : List Str := ["rows", "under", "row", "number"]
theorem sc_whole_rows : FnScope N_whole_rows ["rows", "under"] (defScope s_whole_rows) := ⟨rfl, rfl, rfl, by decide +kernel, rfl, by decide +kernel, by decide +kernel⟩
/-- rows of whole numbers, in lists -/
def listsD (rows : List (List Int)) : PyData := .list (rows.map fun r => .list (r.map PyData.int))
/-- new lists of ints at D -/
def RowsAt (H : Hp) (D : Addr) (rows : List (List Int)) : Prop := ∃ as : List Addr, H D = some (.lst (as.map V.ref)) ∧ as.length = rows.length ∧ ∀ (i : Nat) a r, as[i]? = some a → rows[i]? = some r → H a = some (.lst (r.map V.int))
def spWholeRows (K : PySem.W.Frag) : Sp := fun vs H Q _ => ∃ v rows u, vs = [v, .int u] ∧ Dp K H v (rowsD rows) ∧ rows.length ≤ 100 ∧ (∀ r ∈ rows, r.length ≤ 100 ∧ ∀ q ∈ r, Sf q) ∧ 0 < u ∧ u.natAbs < 2 ^ 9000 ∧
  ∀ H' D, Same H H' → H D = none → RowsAt H' D (rows.map (wholeRow u)) → Q (.ref D) H'
theorem divLe {u m : Int} (h : 0 < u) (hm : 0 < m) : (u / m).natAbs ≤ u.natAbs := by
  have h1 : 0 ≤ u / m := Int.ediv_nonneg (by omega) (by omega)
  have h2 : u / m ≤ u := Int.ediv_le_self m (by omega)
  omega
theorem ok_whole_rows (T : Gs K mg) (F : At K mg "whole_rows" s_whole_rows) : Df P w K mg base "whole_rows" 1 ["rows", "under"] (spWholeRows K) := by
  have sc := sc_whole_rows
  refine Df.mk' F sc (fun vs H Q E h => ?_) (fun _ _ _ _ _ _ us hl => match us, hl with | [_, _], _ => rfl) (fun f cdv A outer s H vs Q E hr h => ?_)
  · obtain ⟨a, q, u, rfl, _⟩ := h
    rfl
  · obtain ⟨v, rows, u, rfl, hx, l100, ok, hu, su, q⟩ := h
    obtain ⟨p, xs, rfl, hp, ha⟩ := dpTup hx
    have hl : xs.length = rows.length := by rw [dpAll_len ha, List.length_map]
    refine ⟨_, (pss_one (ps_ret (pe_lc (own := [("row", 2)]) (g := gName 2) rfl sc.nd (pi_tup (pv 0)) (blkOk_by (own := [("row", 2)]) (N := N_whole_rows) (sc := defScope s_whole_rows) (by decide +kernel)) (fun _ _ _ _ _ => (pg_name (i := 2) sc.nd rfl (Or.inl rfl))) (fun _ _ _ _ _ => pts_nil) (fun _ _ _ _ _ => by
      refine pe_lc (own := [("number", 3)]) (g := gName 3) (wi := iTup K (tVar 2)) (tt := tYes) (te := tOp (rI CMulW fun i j => .int (i * j)) (tOp (rIxT K) (tVar 3) (tC (.int 0))) (tOp (rI CDivW fun i j => .int (i / j)) (tVar 1) (tOp (rIxT K) (tVar 3) (tC (.int 1))))) rfl ?_ ?_ ?_ ?_ ?_ ?_
      · exact sc.nd
      · exact pi_tup (pv 2)
      · exact blkOk_by (by exact rfl)
      · exact fun _ _ _ _ _ => pg_name (i := 3) sc.nd rfl (Or.inl rfl)
      · exact fun _ _ _ _ _ => pts_nil
      · exact fun _ _ _ _ _ => pe_op op_mulW (pe_ix ix_tup (pv 3) pe_int (fun _ _ => rfl)) (pe_op op_fdivW (pv 1) (pe_ix ix_tup (pv 3) pe_int (fun _ _ => rfl))))))), ?_⟩
    refine ⟨_, rfl, p, rfl, ⟨_, hp⟩, fun D hD => lc_tup (K := K) (a := p) (xs := xs) (fun i H' => Same H H' ∧ RowsAt H' D ((rows.take i).map (wholeRow u))) ?_ (fun i H' _ h => sameT h.1 hp) ?_ ?_⟩
    · exact ⟨same_upd hD, [], upd_same, rfl, fun i a r h => by simp at h⟩
    · rintro i x H' hi ⟨sm, as, hDl, hal, has⟩
      obtain ⟨d, hd', hdp⟩ := dpAll_getV ha hi
      rw [List.getElem?_map] at hd'
      obtain ⟨r, hr', rfl⟩ := Option.map_eq_some_iff.mp hd'
      obtain ⟨p2, ys, rfl, hp2, ha2⟩ := dpTup (Dp.same sm hdp)
      have hl2 : ys.length = r.length := by rw [dpAll_len ha2, List.length_map]
      have okr := ok r (List.mem_of_getElem? hr')
      refine ⟨rfl, yesIf ?_⟩
      refine ⟨_, rfl, p2, rfl, ⟨_, hp2⟩, fun D2 hD2 => lc_tup (K := K) (a := p2) (xs := ys) (fun j H2 => Same H' H2 ∧ H2 D2 = some (.lst ((wholeRow u (r.take j)).map V.int))) ⟨same_upd hD2, upd_same⟩ (fun j H2 _ h => sameT h.1 hp2) ?_ ?_⟩
      · rintro j x2 H2 hj ⟨sm2, hl3⟩
        obtain ⟨d2, hd2, hdp2⟩ := dpAll_getV ha2 hj
        rw [List.getElem?_map] at hd2
        obtain ⟨qq, hq, rfl⟩ := Option.map_eq_some_iff.mp hd2
        obtain ⟨p3, rfl, hp3⟩ := dpFr (Dp.same sm2 hdp2)
        have sq := okr.2 qq (List.mem_of_getElem? hq)
        have s9 : qq.2.natAbs < 2 ^ 9000 := Nat.lt_of_lt_of_le sq.s2 (pow_le_pow' (by decide))
        refine ⟨rfl, yesIf ?_⟩
        refine ⟨_, rfl, _, _, _, _, rfl, rfl, hp3, at20, _, rfl, _, rfl, _, _, _, _, rfl, rfl, hp3, at21, _, _, rfl, rfl, wide_div sq.pos s9 (by decide) (by decide), _, _, rfl, rfl, ?_, ?_⟩
        · exact wide_mul sq.s1 (Nat.lt_of_le_of_lt (divLe hu sq.pos) su) (by decide) (by decide) (by decide)
        · refine ⟨_, hl3, ?_, fun b o hb => ?_, ?_⟩
          · rw [List.length_map, wholeRow, List.length_map, List.length_take]
            exact small1000 (by omega)
          · rw [upd_ne (ne_of_none hb hD2)]
            exact sm2 b o hb
          · rw [upd_same, wholeRow, wholeRow, take_more hq, List.map_append, List.map_append]
            rfl
      · rintro H2 ⟨sm2, hl3⟩
        rw [hl2, List.take_length] at hl3
        have hDl2 : H2 D = some (.lst (as.map V.ref)) := sm2 _ _ hDl
        have hne : D2 ≠ D := fun e => by
          rw [e, hDl] at hD2
          cases hD2
        refine ⟨_, hDl2, ?_, fun b o hb => ?_, as ++ [D2], ?_, ?_, fun k a rr h1 h2 => ?_⟩
        · rw [List.length_map, hal, List.length_map, List.length_take]
          exact small1000 (by omega)
        · rw [upd_ne (ne_of_none hb hD)]
          exact sm2 b o (sm b o hb)
        · rw [upd_same, List.map_append]
          rfl
        · rw [List.length_append, hal, take_more hr', List.length_map, List.length_map, List.length_append]
          rfl
        · rw [take_more hr', List.map_append] at h2
          by_cases hk : k < as.length
          · rw [List.getElem?_append_left hk] at h1
            rw [List.getElem?_append_left (by rw [← hal]; exact hk)] at h2
            have hA := has k a rr h1 h2
            have na : a ≠ D := fun e => by
              subst e
              rw [hDl] at hA
              have hA' := Option.some.inj hA
              injection hA' with hA''
              have : (as.map V.ref)[k]? = (rr.map V.int)[k]? := by rw [hA'']
              rw [List.getElem?_map, h1, List.getElem?_map] at this
              cases e3 : rr[k]? with
              | none => rw [e3] at this; cases this
              | some z => rw [e3] at this; cases this
            rw [upd_ne na]
            exact sm2 _ _ hA
          · rw [List.getElem?_append_right (by omega)] at h1
            rw [List.getElem?_append_right (by rw [← hal]; omega)] at h2
            have k0 : k - as.length = 0 := by
              have := (List.getElem?_eq_some_iff.mp h1).1
              simp at this
              omega
            rw [k0] at h1
            rw [← hal, k0] at h2
            have e1 : D2 = a := Option.some.inj h1
            have e2 : wholeRow u r = rr := Option.some.inj h2
            subst e1
            subst e2
            rw [upd_ne hne]
            exact hl3
    · rintro H' ⟨sm, hR⟩
      rw [hl, List.take_length] at hR
      exact q H' D sm hD hR
end
end V3
namespace V3
open PySem.Spec PySem L2 PyProof.Rows RZ GxR
/-- what divides all of them -/
def gcdZ (xs : List Int) : Nat := xs.foldl (fun g x => Int.gcd (g : Int) x) 0
theorem gcdZ_more {xs : List Int} {i : Nat} {x : Int} (h : xs[i]? = some x) : gcdZ (xs.take (i + 1)) = Int.gcd (gcdZ (xs.take i) : Int) x := by
  unfold gcdZ
  (rw [take_more h, List.foldl_append])
  rfl
theorem gcdF_dvd : ∀ (xs : List Int) (g : Nat), (xs.foldl (fun g x => Int.gcd (g : Int) x) g) ∣ g
  | [], g => Nat.dvd_refl g
  | x :: r, g => Nat.dvd_trans (gcdF_dvd r _) (by
      have := Int.gcd_dvd_left (g : Int) x
      exact Int.natCast_dvd_natCast.mp this)
theorem gcdF_mem : ∀ (xs : List Int) (g : Nat) (x : Int), x ∈ xs → ((xs.foldl (fun g x => Int.gcd (g : Int) x) g : Nat) : Int) ∣ x
  | y :: r, g, x, h => by
    (rcases List.mem_cons.mp h with rfl | h)
    · exact Int.dvd_trans (Int.natCast_dvd_natCast.mpr (gcdF_dvd r _)) (Int.gcd_dvd_right (g : Int) x)
    · exact gcdF_mem r _ x h
theorem gcdF_lt {b : Nat} : ∀ (xs : List Int) (g : Nat), g < 2 ^ b → (∀ x ∈ xs, x.natAbs < 2 ^ b) → xs.foldl (fun g x => Int.gcd (g : Int) x) g < 2 ^ b
  | [], g, h, _ => h
  | x :: r, g, h, k => gcdF_lt r _ (by
      show Nat.gcd (g : Int).natAbs x.natAbs < _
      rw [Int.natAbs_natCast]
      rcases Nat.eq_zero_or_pos g with e | e
      · rw [e, Nat.gcd_zero_left]
        exact k x List.mem_cons_self
      · exact Nat.lt_of_le_of_lt (Nat.gcd_le_left _ e) h) fun y hy => k y (List.mem_cons_of_mem _ hy)
theorem gcdZ_lt {xs : List Int} {b : Nat} (k : ∀ x ∈ xs, x.natAbs < 2 ^ b) : gcdZ xs < 2 ^ b := gcdF_lt xs 0 (Nat.two_pow_pos b) k
theorem gcdZ_mem {xs : List Int} {x : Int} (h : x ∈ xs) : ((gcdZ xs : Nat) : Int) ∣ x := gcdF_mem xs 0 x h
section
variable {mg : Str → Option Value} {base : Heap} {K : PySem.W.Frag} {P : Program} {w : World}
abbrev s_dot : Stmt := topS 11
abbrev N_dot : List Str := ["one", "other", "a", "b"]
theorem sc_dot : FnScope N_dot ["one", "other"] (defScope s_dot) := ⟨rfl, rfl, rfl, by decide +kernel, rfl, by decide +kernel, by decide +kernel⟩
def spDotG (K : PySem.W.Frag) (Pd : Addr) : Sp := fun vs H Q _ => ∃ (p q : Addr) (xs ys : List Int) (m : Nat), vs = [.ref p, .ref q] ∧ SqL K H p (xs.map V.int) ∧ SqL K H q (ys.map V.int) ∧ TabG H Pd ∧ (∀ x ∈ xs, x.natAbs < 2 ^ m) ∧ (∀ y ∈ ys, y.natAbs < 2 ^ m) ∧ 0 < m ∧ m ≤ 400000 ∧
  ∀ H', Tabbed Pd H H' → Q (.int (dotZ xs ys)) H'
theorem ok_dotP (T : Gs K mg) {c Pd : Addr} (TB : TabB base mg c Pd) (F : AtC K mg "dot" s_dot c) : Df P w K mg base "dot" 2 ["one", "other"] (spDotG K Pd) := by
  have sc := sc_dot
  refine Df.mkC F sc (fun vs H Q E h => ?_) (fun _ _ _ _ _ _ us hl => match us, hl with | [_, _], _ => rfl) (fun f A outer s H vs Q E hr h => ?_)
  · obtain ⟨p, q, xs, ys, m, rfl, _⟩ := h
    rfl
  · obtain ⟨p, q', xs, ys, m, rfl, hp, hq, tab, bx, by', m0, ml, q⟩ := h
    refine ⟨_, (pss_one (ps_ret (pe_sumZ (P := Pd) hr (by rfl) T.sum (by rfl) T.zip TB rfl ⟨rfl, rfl, by decide +kernel, rfl, rfl, by
      intro y hy e
      simp only [List.mem_cons, List.not_mem_nil, or_false] at hy
      rcases hy with rfl | rfl | rfl <;> cases e⟩ rfl (by simp; decide) (pa_cons (pv 0) (pa_cons (pv 1) pa_nil)) (by decide) (by decide) (fun _ => rfl)))), ?_⟩
    exact ⟨_, rfl, _, rfl, p, q', xs, ys, m, rfl, hp, hq, tab, bx, by', m0, ml, fun H2 t => q H2 t⟩
abbrev s_content : Stmt := topS 12
abbrev N_content : List Str := ["row", "shared", "number"]
theorem sc_content : FnScope N_content ["row"] (defScope s_content) := ⟨rfl, rfl, rfl, by decide +kernel, rfl, by decide +kernel, by decide +kernel⟩
def spContent (K : PySem.W.Frag) : Sp := fun vs H Q _ => ∃ (p : Addr) (xs : List Int), vs = [.ref p] ∧ SqL K H p (xs.map V.int) ∧ Q (.int (gcdZ xs : Nat)) H
theorem ok_content (T : Gs K mg) (F : At K mg "content" s_content) : Df P w K mg base "content" 1 ["row"] (spContent K) := by
  have sc := sc_content
  refine Df.mk' F sc (fun vs H Q E h => ?_) (fun _ _ _ _ _ _ us hl => match us, hl with | [_], _ => rfl) (fun f cdv A outer s H vs Q E hr h => ?_)
  · obtain ⟨p, xs, rfl, _⟩ := h
    rfl
  · obtain ⟨p, xs, rfl, hp, q⟩ := h
    refine ⟨_, (pss_cons (ps_set (i := 1) sc.nd rfl (.inl rfl) pe_int) (pss_cons (ps_for PassesOwn.never rfl (pi_list (pv 0)) (pg_name (i := 2) sc.nd rfl (.inl rfl)) (pss_one (ps_set (i := 1) sc.nd rfl (.inl rfl) (pe_callBfun cr_gcd (by rfl) T.gcd (pa_cons (pv 1) (pa_cons (pv 2) pa_nil)))))) (pss_one (ps_ret (pv 1))))), ?_⟩
    refine ⟨_, rfl, p, rfl, ⟨_, hp⟩, for_list (K := K) (a := p) (xs := xs.map V.int) (fun i σ H' => (∃ y, σ = [some (.ref p), some (.int (gcdZ (xs.take i) : Nat)), y]) ∧ H' = H) ⟨⟨_, rfl⟩, rfl⟩ (fun i σ H' _ h => by rw [h.2]; exact hp) ?_ ?_⟩
    · rintro i x σ H' hi ⟨⟨y, rfl⟩, rfl⟩
      rw [List.getElem?_map] at hi
      obtain ⟨z, hz, rfl⟩ := Option.map_eq_some_iff.mp hi
      refine ⟨_, rfl, _, rfl, _, _, rfl, ⟨some (.int z), ?_⟩, rfl⟩
      rw [gcdZ_more hz]
      rfl
    · rintro σ H' ⟨⟨y, rfl⟩, rfl⟩
      refine ⟨_, rfl, ?_⟩
      (rw [List.length_map, List.take_length])
      exact q
abbrev s_shortened : Stmt := topS 13
abbrev N_shortened : List Str := ["row", "shared", "number"]
theorem sc_shortened : FnScope N_shortened ["row"] (defScope s_shortened) := ⟨rfl, rfl, rfl, by decide +kernel, rfl, by decide +kernel, by decide +kernel⟩
/-- a list of numbers of which the given ones are the same multiple -/
def spShort (K : PySem.W.Frag) : Sp := fun vs H Q _ => ∃ (p : Addr) (xs : List Int) (b : Nat), vs = [.ref p] ∧ SqL K H p (xs.map V.int) ∧ xs.length ≤ 100 ∧ (∀ x ∈ xs, x.natAbs < 2 ^ b) ∧ b ≤ 9000 ∧
  ∀ (H' : Hp) (D : Addr) (zs : List Int) (c : Int), Same H H' → H D = none → H' D = some (.lst (zs.map V.int)) → 0 < c → xs = zs.map (fun z => c * z) → (∀ z ∈ zs, z.natAbs < 2 ^ b) → Q (.ref D) H'
theorem ok_shortened (T : Gs K mg) (D_content : Df P w K mg base "content" 1 ["row"] (spContent K)) (F : At K mg "shortened" s_shortened) : Df P w K mg base "shortened" 2 ["row"] (spShort K) := by
  have sc := sc_shortened
  refine Df.mk' F sc (fun vs H Q E h => ?_) (fun _ _ _ _ _ _ us hl => match us, hl with | [_], _ => rfl) (fun f cdv A outer s H vs Q E hr h => ?_)
  · obtain ⟨p, xs, b, rfl, _⟩ := h
    rfl
  · obtain ⟨p, xs, b, rfl, hp, l100, bx, b2, q⟩ := h
    refine ⟨_, (pss_cons (ps_set (i := 1) sc.nd rfl (.inr rfl) (pe_fn D_content (by decide) hr (pa_cons (pv 0) pa_nil))) (pss_cons (ps_if (pt_cmpR op_lt (pv 1) pe_int (nomark _)) (pss_one (ps_ret (pe_callTy call_list_of (by rfl) T.list_ (by decide +kernel) (pa_cons (pv 0) pa_nil)))) pss_nil) (pss_one (ps_ret (pe_lc (own := [("number", 2)]) (g := gName 2) rfl sc.nd (pi_list (pv 0)) (blkOk_by (own := [("number", 2)]) (N := N_shortened) (sc := defScope s_shortened) (by decide +kernel)) (fun _ _ _ _ _ => (pg_name (i := 2) sc.nd rfl (.inl rfl))) (fun _ _ _ _ _ => pts_nil) (fun _ _ _ _ _ => (pe_op op_fdivW (pv 2) (pv 1)))))))), ?_⟩
    refine ⟨_, rfl, p, xs, rfl, hp, ?_⟩
    refine ⟨_, rfl, _, _, rfl, rfl, _, rfl, if2 (fun e => ?_) (fun e => ?_)⟩
    · refine ⟨_, rfl, p, _, rfl, .inl hp, fun D hD => ?_⟩
      exact q _ D xs 1 (same_upd hD) hD upd_same (by decide) (by simp) bx
    · have g2 : 2 ≤ gcdZ xs := by
        have := of_decide_eq_false e
        omega
      have gpos : (0 : Int) < (gcdZ xs : Nat) := by omega
      refine ⟨_, rfl, p, rfl, ⟨_, hp⟩, fun D hD => lc_list (K := K) (a := p) (xs := xs.map V.int) (fun i H' => Same H H' ∧ H' D = some (.lst (((xs.take i).map fun x : Int => x / ((gcdZ xs : Nat) : Int)).map V.int)))
        ⟨same_upd hD, upd_same⟩ (fun i H' _ h => Same.seq h.1 hp) ?_ ?_⟩
      · rintro i x H' hi ⟨sm, hz⟩
        rw [List.getElem?_map] at hi
        obtain ⟨z, hzi, rfl⟩ := Option.map_eq_some_iff.mp hi
        have mz := List.mem_of_getElem? hzi
        have zb : z.natAbs < 2 ^ 9000 := Nat.lt_of_lt_of_le (bx z mz) (pw b2)
        refine ⟨rfl, yesIf ?_⟩
        refine ⟨_, rfl, _, rfl, _, _, rfl, rfl, wide_div (b := 9000) gpos (by rw [Int.natAbs_natCast]; exact Nat.lt_of_lt_of_le (gcdZ_lt bx) (pw b2)) (by decide) (by decide), ?_⟩
        refine ⟨_, hz, small1000 (by rw [List.length_map, List.length_map, List.length_take]; omega), same_updN sm hD, ?_⟩
        rw [upd_same, take_more hzi, List.map_append, List.map_append]
        rfl
      · rintro H' ⟨sm, hz⟩
        rw [List.length_map, List.take_length] at hz
        have key : ∀ x ∈ xs, x = (gcdZ xs : Nat) * (x / (gcdZ xs : Nat)) := fun x hx => (Int.mul_ediv_cancel' (gcdZ_mem hx)).symm
        refine q H' D _ (gcdZ xs : Nat) sm hD hz gpos ?_ ?_
        · rw [List.map_map]
          conv => lhs; rw [← List.map_id xs]
          exact List.map_congr_left fun x hx => key x hx
        · intro z hz2
          obtain ⟨x, hx, rfl⟩ := List.mem_map.mp hz2
          refine Nat.lt_of_le_of_lt ?_ (bx x hx)
          have h1 := congrArg Int.natAbs (key x hx)
          rw [Int.natAbs_mul, Int.natAbs_natCast] at h1
          exact Nat.le_trans (Nat.le_mul_of_pos_left _ (by omega)) (Nat.le_of_eq h1.symm)
end
end V3
namespace V3
open PySem.Spec PySem L2 PyProof.Rows RZ GxR
section
variable {mg : Str → Option Value} {base : Heap} {K : PySem.W.Frag} {P : Program} {w : World}
abbrev s_whole_row : Stmt := topS 9
abbrev N_whole_row : List Str := ["row"]
theorem sc_whole_row : FnScope N_whole_row ["row"] (defScope s_whole_row) := ⟨rfl, rfl, rfl, by decide +kernel, rfl, by decide +kernel, by decide +kernel⟩
def spWholeRow (K : PySem.W.Frag) : Sp := fun vs H Q _ => ∃ (v : V) (qs : List (Int × Int)), vs = [v] ∧ Dp K H v (rowD qs) ∧ qs.length ≤ 100 ∧ (∀ q ∈ qs, Sf q) ∧ lcmAll [qs] < 2 ^ 9000 ∧
  ∀ H' D, Same H H' → H' D = some (.lst ((wholeRow (lcmAll [qs] : Nat) qs).map V.int)) → Q (.ref D) H'
theorem ok_whole_row (D_shared_under : Df P w K mg base "shared_under" 1 ["rows"] (spShared K)) (D_whole_rows : Df P w K mg base "whole_rows" 1 ["rows", "under"] (spWholeRows K)) (F : At K mg "whole_row" s_whole_row) : Df P w K mg base "whole_row" 2 ["row"] (spWholeRow K) := by
  have sc := sc_whole_row
  refine Df.mk' F sc (fun vs H Q E h => ?_) (fun _ _ _ _ _ _ us hl => match us, hl with | [_], _ => rfl) (fun f cdv A outer s H vs Q E hr h => ?_)
  · obtain ⟨v, qs, rfl, _⟩ := h
    rfl
  · obtain ⟨v, qs, rfl, hv, l100, ok, sz, q⟩ := h
    refine ⟨_, (pss_one (ps_ret (pe_ix ix_list (pe_fn D_whole_rows (by decide) hr (pa_cons (pe_tup (pa_cons (pv 0) pa_nil)) (pa_cons (pe_fn D_shared_under (by decide) hr (pa_cons (pe_tup (pa_cons (pv 0) pa_nil)) pa_nil)) pa_nil))) pe_int (fun _ _ => rfl)))), ?_⟩
    have pos : ∀ r ∈ [qs], ∀ q ∈ r, 0 < q.2 := fun r hr q hq => by
      rw [List.mem_singleton.mp hr] at hq
      exact (ok q hq).pos
    refine ⟨_, rfl, by show 1 ≤ sizeLine; decide, fun t1 ht1 => ?_⟩
    have s1 : Same H (upd H t1 (.tup [v])) := same_upd ht1
    have d1 : Dp K (upd H t1 (.tup [v])) (.ref t1) (rowsD [qs]) := .tup (SqT.of upd_same) (.cons (Dp.same s1 hv) .nil)
    generalize upd H t1 (.tup [v]) = H1 at s1 d1
    refine ⟨_, rfl, by show 1 ≤ sizeLine; decide, fun t2 ht2 => ?_⟩
    have s2 : Same H1 (upd H1 t2 (.tup [v])) := same_upd ht2
    have d2 : Dp K (upd H1 t2 (.tup [v])) (.ref t2) (rowsD [qs]) := .tup (SqT.of upd_same) (.cons (Dp.same (s1.trans s2) hv) .nil)
    refine ⟨_, [qs], rfl, d2, pos, sz, ?_⟩
    refine ⟨_, [qs], _, rfl, Dp.same s2 d1, by simp, fun r hr => ?_, ?_, ?_, fun H3 D s3 hD ra => ?_⟩
    · (rw [List.mem_singleton.mp hr])
      exact ⟨l100, ok⟩
    · have := lcmAll_pos [qs] pos
      omega
    · rw [Int.natAbs_natCast]
      exact sz
    · obtain ⟨as, hDl, hal, has⟩ := ra
      have l1 : as.length = 1 := hal
      have h0 : as[0]? = some (as[0]'(by omega)) := List.getElem?_eq_getElem (by omega)
      have hr0 := has 0 _ _ h0 rfl
      refine ⟨D, _, _, .ref (as[0]'(by omega)), rfl, rfl, SqL.of hDl, at_of rfl (by rw [List.getElem?_map, h0]; rfl), ?_⟩
      exact q H3 _ ((s1.trans s2).trans s3) hr0
abbrev s_check_row : Stmt := topS 21
abbrev N_check_row : List Str := ["row", "size", "wrong"]
theorem sc_check_row : FnScope N_check_row ["row", "size"] (defScope s_check_row) := ⟨rfl, rfl, rfl, by decide +kernel, rfl, by decide +kernel, by decide +kernel⟩
def spCheckRowA (K : PySem.W.Frag) : Sp := fun vs H Q _ => ∃ (a : Addr) (v : V) (d : D) (n : Int), vs = [v, .int n] ∧ An K a H v d ∧ rowB n d = true ∧ ∀ H', Same H H' → Q .non H'
theorem ok_check_rowA (D_is_tuple_of : Df P w K mg base "is_tuple_of" 1 ["value", "size"] (spTupOfA K)) (D_first_unlike_fraction : Df P w K mg base "first_unlike_fraction" 3 ["values"] (spFirstA K)) (F : At K mg "check_row" s_check_row) : Df P w K mg base "check_row" 4 ["row", "size"] (spCheckRowA K) := by
  have sc := sc_check_row
  refine Df.mk' F sc (fun vs H Q E h => ?_) (fun _ _ _ _ _ _ us hl => match us, hl with | [_, _], _ => rfl) (fun f cdv A outer s H vs Q E hr h => ?_)
  · obtain ⟨a, v, d, n, rfl, _⟩ := h
    rfl
  · obtain ⟨a, v, d, n, rfl, an, ok, q⟩ := h
    refine ⟨_, (pss_cons (ps_if (pt_not (pt_val (pe_fn D_is_tuple_of (by decide) hr (pa_cons (pv 0) (pa_cons (pv 1) pa_nil))))) (pss_one ps_never) pss_nil) (pss_cons (ps_set (i := 2) sc.nd rfl (.inl rfl) (pe_fn D_first_unlike_fraction (by decide) hr (pa_cons (pv 0) pa_nil))) (pss_one (ps_if (pt_cmpR op_notN (pv 2) pe_non (nomark _)) (pss_one ps_never) pss_nil)))), ?_⟩
    obtain ⟨ds, rfl, ln, al⟩ := row_form ok
    refine ⟨_, rfl, _, rfl, a, _, _, _, rfl, an, _, rfl, ifF (by show (!decide _) = false; rw [decide_eq_true ln]; rfl) ?_⟩
    refine ⟨_, rfl, a, _, ds, rfl, an, fun H' sm => ⟨fun _ => ?_, fun e => ?_⟩⟩
    · exact ⟨_, rfl, rfl, _, rfl, ifF (by decide) (q H' sm)⟩
    · rw [List.all_eq_true.mpr al] at e
      cases e
abbrev s_check_table : Stmt := topS 24
abbrev N_check_table : List Str := ["table"]
theorem sc_check_table : FnScope N_check_table ["table"] (defScope s_check_table) := ⟨rfl, rfl, rfl, by decide +kernel, rfl, by decide +kernel, by decide +kernel⟩
def spCheckTable (K : PySem.W.Frag) (Pt : Addr) : Sp := fun vs H Q _ => ∃ a v d, vs = [v] ∧ An K a H v d ∧ tabB d = true ∧ TabG H Pt ∧ ∀ H', But Pt H H' → TabG H' Pt → Q .non H'
theorem ok_check_table {Pt : Addr} (D_is_table : Df P w K mg base "is_table" 6 ["value"] (spTabA K Pt)) (F : At K mg "check_table" s_check_table) : Df P w K mg base "check_table" 7 ["table"] (spCheckTable K Pt) := by
  have sc := sc_check_table
  refine Df.mk' F sc (fun vs H Q E h => ?_) (fun _ _ _ _ _ _ us hl => match us, hl with | [_], _ => rfl) (fun f cdv A outer s H vs Q E hr h => ?_)
  · obtain ⟨a, v, d, rfl, _⟩ := h
    rfl
  · obtain ⟨a, v, d, rfl, an, ok, tab, q⟩ := h
    refine ⟨_, (pss_one (ps_if (pt_not (pt_val (pe_fn D_is_table (by decide) hr (pa_cons (pv 0) pa_nil)))) (pss_one ps_never) pss_nil)), ?_⟩
    refine ⟨_, rfl, a, v, d, rfl, an, tab, fun H' b t => ⟨_, rfl, ?_⟩⟩
    rw [ok]
    exact ifF (by decide) (q H' b t)
end
end V3
set_option maxHeartbeats 8000000
namespace V3
open PySem.Spec PySem L2 PyProof.Rows RZ GxR
/-- all but what stands at three tables stands -/
def B3 (T : List Addr) (H H' : Hp) : Prop := ∀ b o, b ∉ T → H b = some o → H' b = some o
section
variable {T : List Addr} {P : Addr} {H H' H2 : Hp}
theorem B3.refl (T : List Addr) (H : Hp) : B3 T H H := fun _ _ _ h => h
theorem B3.trans (h : B3 T H H') (g : B3 T H' H2) : B3 T H H2 := fun b o n e => g b o n (h b o n e)
theorem Same.b3 (e : Same H H') : B3 T H H' := fun b o _ h => e b o h
theorem But.b3 (h : But P H H') (m : P ∈ T) : B3 T H H' := fun b o n e => h b o (fun z => n (z ▸ m)) e
/-- the tables stand, each for itself -/
def Tabs (T : List Addr) (H : Hp) : Prop := ∀ p ∈ T, TabG H p
theorem Tabs.same (t : Tabs T H) (e : Same H H') : Tabs T H' := fun p hp => TabG.same (t p hp) e
/-- one of them grows -/
theorem Tabs.grow (t : Tabs T H) (b : But P H H') (g : TabG H' P) : Tabs T H' := fun p hp => by
  by_cases e : p = P
  · rw [e]
    exact g
  · obtain ⟨ps, hq, x⟩ := t p hp
    exact ⟨ps, b _ _ e hq, x⟩
theorem B3.kt (h : B3 T H H') (t : Tabs T H) : KeepT H H' := by
  refine ⟨fun c xs e => h c _ (fun z => ?_) e, fun c o u e => h c _ (fun z => ?_) e⟩
  · obtain ⟨ps, hq, _⟩ := t c z
    rw [e] at hq
    cases hq
  · obtain ⟨ps, hq, _⟩ := t c z
    rw [e] at hq
    cases hq
end
section
variable {mg : Str → Option Value} {base : Heap} {K : PySem.W.Frag} {P : Program} {w : World}
abbrev s_check_tried : Stmt := topS 26
abbrev N_check_tried : List Str := ["table", "row", "number"]
theorem sc_check_tried : FnScope N_check_tried ["table", "row"] (defScope s_check_tried) := ⟨rfl, rfl, rfl, by decide +kernel, rfl, by decide +kernel, by decide +kernel⟩
def spTried (K : PySem.W.Frag) (TT : List Addr) : Sp := fun vs H Q _ => ∃ (v u : V) (ds : List PyData) (qs : List (Int × Int)), vs = [v, u] ∧ DpT K H v (.tuple ds) ∧ tabB (conv (.tuple ds)) = true ∧ DpT K H u (rowD qs) ∧ rowB (ds.length : Int) (conv (rowD qs)) = true ∧ (qs.any fun q => q.1 != 0) = true ∧ Tabs TT H ∧
  ∀ H', B3 TT H H' → Tabs TT H' → Q .non H'
theorem ok_check_tried (T : Gs K mg) {c Pt Pc : Addr} {TT : List Addr} (mt : Pt ∈ TT) (mc : Pc ∈ TT) (TB : TabB base mg c Pc) (D_check_table : Df P w K mg base "check_table" 7 ["table"] (spCheckTable K Pt)) (D_check_row : Df P w K mg base "check_row" 4 ["row", "size"] (spCheckRowA K))
    (F : AtC K mg "check_tried" s_check_tried c) : Df P w K mg base "check_tried" 8 ["table", "row"] (spTried K TT) := by
  have sc := sc_check_tried
  refine Df.mkC F sc (fun vs H Q E h => ?_) (fun _ _ _ _ _ _ us hl => match us, hl with | [_, _], _ => rfl) (fun f A outer s H vs Q E hr h => ?_)
  · obtain ⟨v, u, ds, qs, rfl, _⟩ := h
    rfl
  · obtain ⟨v, u, ds, qs, rfl, dv, ok, du, okr, nz, tabs, q⟩ := h
    refine ⟨_, (pss_cons (ps_expr (pe_fn D_check_table (by decide) hr (pa_cons (pv 0) pa_nil)))
  (pss_cons (ps_expr (pe_fn D_check_row (by decide) hr (pa_cons (pv 1) (pa_cons (pe_callB call_len_seq (by rfl) T.len PySem.boot_len (pa_cons (pv 0) pa_nil)) pa_nil))))
  (pss_one (ps_if (pt_not (pt_val (pe_anyF (P := Pc) hr (by rfl) T.any TB rfl ⟨rfl, rfl, by decide +kernel, rfl, rfl, by
      intro y hy e
      simp only [List.mem_cons, List.not_mem_nil, or_false] at hy
      rcases hy with rfl | rfl <;> cases e⟩ (pv 1) (by decide) (fun _ => rfl))))
   (pss_one ps_never)
   pss_nil)))), ?_⟩
    refine ⟨_, rfl, Pt, v, _, rfl, DpT.an dv, ok, tabs _ mt, fun H1 b1 t1 => ?_⟩
    have bb1 : B3 TT H H1 := But.b3 b1 mt
    have tabs1 := tabs.grow b1 t1
    have k1 := bb1.kt tabs
    have dv1 := DpT.keep k1 dv
    have du1 := DpT.keep k1 du
    obtain ⟨p, xs, rfl, hp, hA⟩ := dtTup dv1
    have lx : xs.length = ds.length := dtAll_len hA
    refine ⟨_, rfl, _, rfl, p, xs, rfl, .inr hp, ?_⟩
    refine ⟨Pt, _, _, _, rfl, DpT.an du1, by rw [lx]; exact okr, fun H2 s2 => ?_⟩
    have tabs2 := tabs1.same s2
    have du2 := DpT.keep (Same.kt s2) du1
    obtain ⟨p2, ys, rfl, hp2, hB⟩ := dtTup du2
    have ly : ys.length = qs.length := by rw [dtAll_len hB, List.length_map]
    refine ⟨_, rfl, p2, ys, qs.map (·.1), rfl, hp2, tabs2 _ mc, ⟨by rw [ly, List.length_map], fun i x z hx hz => ?_⟩, fun H3 tb3 => ⟨_, rfl, ?_⟩⟩
    · obtain ⟨d, hd, hdp⟩ := dtAll_getV hB hx
      rw [List.getElem?_map] at hd hz
      obtain ⟨qq, hq, rfl⟩ := Option.map_eq_some_iff.mp hd
      rw [hq] at hz
      cases hz
      obtain ⟨p3, rfl, hp3⟩ := dtFr hdp
      exact ⟨p3, _, rfl, hp3, rfl⟩
    · have e : ((qs.map (·.1)).any fun z => z != 0) = true := by
        rw [List.any_map]
        exact nz
      rw [e]
      have b3 := tab_but tb3
      exact ifF (by decide) (q H3 ((bb1.trans (Same.b3 s2)).trans (But.b3 b3 mc)) (tabs2.grow b3 tb3.1))
end
end V3
namespace V3
open PySem.Spec PySem L2 PyProof.Rows RZ GxR
theorem preSum_le {f : Nat → Int} {B : Nat} (h : ∀ i, (f i).natAbs ≤ B) : ∀ n, (preSum f n).natAbs ≤ n * B
  | 0 => by show (0 : Int).natAbs ≤ _; simp
  | n + 1 => by
    have h1 := preSum_le h n
    have h2 := h n
    have h3 : preSum f (n + 1) = preSum f n + f n := rfl
    rw [h3, Nat.succ_mul]
    omega
theorem getD_le {xs : List Int} {B i : Nat} (h : ∀ x ∈ xs, x.natAbs < B) (hB : 0 < B) : (xs.getD i 0).natAbs < B := by
  (rw [List.getD_eq_getElem?_getD])
  cases e : xs[i]? with
  | none => exact hB
  | some z => exact h z (List.mem_of_getElem? e)
theorem dotZ_lt {xs ys : List Int} {m k : Nat} (hx : ∀ x ∈ xs, x.natAbs < 2 ^ m) (hy : ∀ y ∈ ys, y.natAbs < 2 ^ k) (l : xs.length ≤ 100) : (dotZ xs ys).natAbs < 2 ^ (m + k + 7) := by
  unfold dotZ
  have h1 : ∀ i, (xs.getD i 0 * ys.getD i 0).natAbs ≤ 2 ^ (m + k) := fun i => by
    (rw [Int.natAbs_mul, Nat.pow_add])
    exact Nat.mul_le_mul (Nat.le_of_lt (getD_le hx (Nat.two_pow_pos m))) (Nat.le_of_lt (getD_le hy (Nat.two_pow_pos k)))
  refine Nat.lt_of_le_of_lt (preSum_le h1 _) ?_
  have h2 : min xs.length ys.length * 2 ^ (m + k) ≤ 100 * 2 ^ (m + k) := Nat.mul_le_mul_right _ (by omega)
  have h3 : 2 ^ (m + k + 7) = 2 ^ (m + k) * 128 := Nat.pow_add 2 (m + k) 7
  have h4 := Nat.two_pow_pos (m + k)
  omega
section
variable {mg : Str → Option Value} {base : Heap} {K : PySem.W.Frag} {P : Program} {w : World}
abbrev s_products_of : Stmt := topS 29
abbrev N_products_of : List Str := ["table", "row", "under", "tried", "led", "line"]
theorem sc_products_of : FnScope N_products_of ["table", "row"] (defScope s_products_of) := ⟨rfl, rfl, rfl, by decide +kernel, rfl, by decide +kernel, by decide +kernel⟩
def ledZ (rows : List (List (Int × Int))) (zs : List Int) : List Int := rows.map fun r => dotZ (wholeRow (lcmAll rows : Nat) r) zs
def spProducts (K : PySem.W.Frag) (TT : List Addr) : Sp := fun vs H Q _ => ∃ (v u : V) (rows : List (List (Int × Int))) (qs : List (Int × Int)) (b : Nat), vs = [v, u] ∧ DpT K H v (rowsD rows) ∧ DpT K H u (rowD qs) ∧ rows.length ≤ 100 ∧ qs.length ≤ 100 ∧ (∀ r ∈ rows, r.length ≤ 100 ∧ ∀ q ∈ r, Sf q) ∧ (∀ q ∈ qs, Sf q) ∧
  lcmAll rows < 2 ^ 9000 ∧ lcmAll [qs] < 2 ^ 9000 ∧ 0 < b ∧ b ≤ 9000 ∧ (∀ r ∈ rows, ∀ x ∈ wholeRow (lcmAll rows : Nat) r, x.natAbs < 2 ^ b) ∧ (∀ x ∈ wholeRow (lcmAll [qs] : Nat) qs, x.natAbs < 2 ^ b) ∧ Tabs TT H ∧
  ∀ H' (p : Addr) (zs : List Int) (c : Int), B3 TT H H' → Tabs TT H' → 0 < c → wholeRow (lcmAll [qs] : Nat) qs = zs.map (fun z => c * z) → H' p = some (.tup [.int (dotZ zs zs), .int (dotZ zs (ledZ rows zs)), .int (dotZ (ledZ rows zs) (ledZ rows zs)), .int (lcmAll rows : Nat)]) → Q (.ref p) H'
theorem ok_products (T : Gs K mg) {Pd : Addr} {TT : List Addr} (md : Pd ∈ TT) (D_shared_under : Df P w K mg base "shared_under" 1 ["rows"] (spShared K)) (D_shortened : Df P w K mg base "shortened" 2 ["row"] (spShort K)) (D_whole_row : Df P w K mg base "whole_row" 2 ["row"] (spWholeRow K))
    (D_whole_rows : Df P w K mg base "whole_rows" 1 ["rows", "under"] (spWholeRows K)) (D_dot : Df P w K mg base "dot" 2 ["one", "other"] (spDotG K Pd)) (F : At K mg "products_of" s_products_of) : Df P w K mg base "products_of" 3 ["table", "row"] (spProducts K TT) := by
  have sc := sc_products_of
  refine Df.mk' F sc (fun vs H Q E h => ?_) (fun _ _ _ _ _ _ us hl => match us, hl with | [_, _], _ => rfl) (fun f cdv A outer s H vs Q E hr h => ?_)
  · obtain ⟨v, u, rows, qs, b, rfl, _⟩ := h
    rfl
  · obtain ⟨v, u, rows, qs, b, rfl, dv, du, l1, l2, okr, okq, sz, szq, b0, b9, bw, bq, tabs, q⟩ := h
    refine ⟨_, (pss_cons (ps_set (i := 2) sc.nd rfl (.inl rfl) (pe_fn D_shared_under (by decide) hr (pa_cons (pv 0) pa_nil))) (pss_cons (ps_set (i := 3) sc.nd rfl (.inr rfl) (pe_fn D_shortened (by decide) hr (pa_cons (pe_fn D_whole_row (by decide) hr (pa_cons (pv 1) pa_nil)) pa_nil))) (pss_cons (ps_setLc (i := 4) (own := [("line", 5)]) (g := gName 5) rfl sc.nd rfl rfl (sw_true rfl rfl rfl (by decide +kernel)) (pi_list (pe_fn D_whole_rows (by decide) hr (pa_cons (pv 0) (pa_cons (pv 2) pa_nil)))) (blkOk_by (own := [("line", 5)]) (N := N_products_of) (sc := defScope s_products_of) (by decide +kernel)) (fun _ _ _ _ _ => (pg_name (i := 5) sc.nd rfl (.inl rfl))) (fun _ _ _ _ _ => pts_nil) (fun _ _ _ _ _ => (pe_fn D_dot (by decide) hr (pa_cons (pv 5) (pa_cons (pv 3) pa_nil))))) (pss_one (ps_ret (pe_tup (pa_cons (pe_fn D_dot (by decide) hr (pa_cons (pv 3) (pa_cons (pv 3) pa_nil))) (pa_cons (pe_fn D_dot (by decide) hr (pa_cons (pv 3) (pa_cons (pv 4) pa_nil))) (pa_cons (pe_fn D_dot (by decide) hr (pa_cons (pv 4) (pa_cons (pv 4) pa_nil))) (pa_cons (pv 2) pa_nil)))))))))), ?_⟩
    have posR : ∀ r ∈ rows, ∀ q ∈ r, 0 < q.2 := fun r hr q hq => ((okr r hr).2 q hq).pos
    have lpos := lcmAll_pos rows posR
    refine ⟨_, rfl, v, rows, rfl, dv.dp, posR, sz, ?_⟩
    refine ⟨_, rfl, u, qs, rfl, du.dp, l2, okq, szq, fun H1 D1 s1 h1 => ?_⟩
    refine ⟨D1, _, b, rfl, SqL.of h1, by unfold wholeRow; rw [List.length_map]; exact l2, bq, b9, fun H2 D2 zs c s2 _ h2 c0 ez bz => ?_⟩
    have s12 := s1.trans s2
    have lz : zs.length ≤ 100 := by
      have := congrArg List.length ez
      rw [List.length_map] at this
      unfold wholeRow at this
      rw [List.length_map] at this
      omega
    refine ⟨_, rfl, _, rfl, v, rows, _, rfl, Dp.same s12 dv.dp, l1, okr, by omega, by rw [Int.natAbs_natCast]; exact sz, fun H3 D3 s3 n3 ra => ?_⟩
    obtain ⟨as, hDl, hal, has⟩ := ra
    have s13 := s12.trans s3
    have tabs3 := tabs.same s13
    have notTab : ∀ {x : Addr} {ws : List V} {Hx : Hp}, TabG Hx Pd → Hx x = some (.lst ws) → x ≠ Pd := fun {x ws Hx} t e z => by
      obtain ⟨ps, hq, _⟩ := t
      rw [z, hq] at e
      cases e
    have t3 := tabs3 _ md
    have h23 := s3 _ _ h2
    have nD2 := notTab t3 h23
    refine ⟨D3, rfl, ⟨_, SqL.of hDl⟩, fun D4 n4 => lc_list (K := K) (a := D3) (xs := as.map V.ref) (fun i H' => But Pd H3 H' ∧ TabG H' Pd ∧ H' D4 = some (.lst (((rows.take i).map fun r => dotZ (wholeRow (lcmAll rows : Nat) r) zs).map V.int)))
      ⟨Same.but (same_upd n4), TabG.same t3 (same_upd n4), upd_same⟩ (fun i H' _ h => SqL.of (h.1 _ _ (notTab t3 hDl) hDl)) ?_ ?_⟩
    · rintro i x H4 hi ⟨b4, t4, h4⟩
      rw [List.getElem?_map] at hi
      obtain ⟨ai, hai, rfl⟩ := Option.map_eq_some_iff.mp hi
      have il : i < rows.length := by
        have := (List.getElem?_eq_some_iff.mp hai).1
        rw [hal, List.length_map] at this
        exact this
      have hri : rows[i]? = some rows[i] := List.getElem?_eq_getElem il
      have hrow := has i ai (wholeRow (lcmAll rows : Nat) rows[i]) hai (by rw [List.getElem?_map, hri]; rfl)
      have mr : rows[i] ∈ rows := List.getElem_mem il
      refine ⟨rfl, yesIf ?_⟩
      refine ⟨_, rfl, _, rfl, ai, D2, _, zs, b, rfl, SqL.of (b4 _ _ (notTab t3 hrow) hrow), SqL.of (b4 _ _ nD2 h23), t4, bw _ mr, bz, b0, by omega, fun H5 tb => ?_⟩
      have b5 := tab_but tb
      have h5 := b5 _ _ (notTab t4 h4) h4
      refine ⟨_, h5, small1000 (by rw [List.length_map, List.length_map, List.length_take]; omega), (b4.trans b5).updN n4, TabG.lst tb.1 h5, ?_⟩
      rw [upd_same, take_more hri, List.map_append, List.map_append]
      rfl
    · rintro H4 ⟨b4, t4, h4⟩
      have e4 : rows.take (as.map V.ref).length = rows := by
        rw [List.length_map, hal, List.length_map, List.take_length]
      rw [e4] at h4
      have h4 : H4 D4 = some (.lst ((ledZ rows zs).map V.int)) := h4
      have nD4 := notTab t4 h4
      have h24 := b4 _ _ nD2 h23
      have ledB : ∀ x ∈ ledZ rows zs, x.natAbs < 2 ^ (b + b + 7) := fun x hx => by
        obtain ⟨r, hr, rfl⟩ := List.mem_map.mp hx
        exact dotZ_lt (bw r hr) bz (by unfold wholeRow; rw [List.length_map]; exact (okr r hr).1)
      have zB : ∀ z ∈ zs, z.natAbs < 2 ^ (b + b + 7) := fun z hz => Nat.lt_of_lt_of_le (bz z hz) (pw (by omega))
      refine ⟨_, rfl, _, rfl, D2, D2, zs, zs, b + b + 7, rfl, SqL.of h24, SqL.of h24, t4, zB, zB, by omega, by omega, fun H5 tb5 => ?_⟩
      have b5 := tab_but tb5
      refine ⟨_, rfl, _, rfl, D2, D4, zs, _, b + b + 7, rfl, SqL.of (b5 _ _ nD2 h24), SqL.of (b5 _ _ nD4 h4), tb5.1, zB, ledB, by omega, by omega, fun H6 tb6 => ?_⟩
      have b6 := tab_but tb6
      refine ⟨_, rfl, _, rfl, D4, D4, _, _, b + b + 7, rfl, SqL.of (b6 _ _ nD4 (b5 _ _ nD4 h4)), SqL.of (b6 _ _ nD4 (b5 _ _ nD4 h4)), tb6.1, ledB, ledB, by omega, by omega, fun H7 tb7 => ?_⟩
      have b7 := tab_but tb7
      refine ⟨_, rfl, by show 4 ≤ sizeLine; decide, fun p hp => ?_⟩
      have s8 := same_upd (o := .tup [.int (dotZ zs zs), .int (dotZ zs (ledZ rows zs)), .int (dotZ (ledZ rows zs) (ledZ rows zs)), .int (lcmAll rows : Nat)]) hp
      have b37 := b4.trans (b5.trans (b6.trans b7))
      exact q _ p zs c ((Same.b3 s13).trans ((But.b3 b37 md).trans (Same.b3 s8))) ((tabs3.grow b37 tb7.1).same s8) c0 ez upd_same
end
end V3
namespace V3
open PySem.Spec PySem L2 PyProof.Rows RZ GxR
theorem sqn0 (z : Int) : 0 ≤ z * z := by
  rcases Int.le_total 0 z with h | h
  · exact Int.mul_nonneg h h
  · exact Int.mul_nonneg_of_nonpos_of_nonpos h h
theorem preSum_nonneg {f : Nat → Int} (h : ∀ i, 0 ≤ f i) : ∀ n, 0 ≤ preSum f n
  | 0 => Int.le_refl 0
  | n + 1 => Int.add_nonneg (preSum_nonneg h n) (h n)
theorem preSum_pos {f : Nat → Int} (h : ∀ i, 0 ≤ f i) {j : Nat} (hj : 0 < f j) : ∀ n, j < n → 0 < preSum f n
  | n + 1, l => by
    show 0 < preSum f n + f n
    by_cases e : j = n
    · subst e
      have := preSum_nonneg h j
      omega
    · have := preSum_pos h hj n (by omega)
      have := h n
      omega
theorem dot_pos {zs : List Int} {z : Int} (hz : z ∈ zs) (nz : z ≠ 0) : 0 < dotZ zs zs := by
  obtain ⟨i, hi⟩ := List.getElem?_of_mem hz
  have li := (List.getElem?_eq_some_iff.mp hi).1
  have e : zs.getD i 0 = z := by
    rw [List.getD_eq_getElem?_getD, hi]
    rfl
  unfold dotZ
  rw [Nat.min_self]
  refine preSum_pos (fun i => sqn0 _) (j := i) ?_ _ li
  rw [e]
  have h1 := sqn0 z
  have h2 : z * z ≠ 0 := fun e => nz (by
    rcases Int.mul_eq_zero.mp e with h | h <;> exact h)
  omega
theorem led_pos {qs : List (Int × Int)} {zs : List Int} {c : Int} (ez : wholeRow (lcmAll [qs] : Nat) qs = zs.map (fun z => c * z)) (pos : ∀ q ∈ qs, 0 < q.2) (nz : (qs.any fun q => q.1 != 0) = true) : 0 < dotZ zs zs := by
  obtain ⟨q, hq, nq⟩ := List.any_eq_true.mp nz
  have nq : q.1 ≠ 0 := by simpa using nq
  have hw : q.1 * ((lcmAll [qs] : Nat) / q.2) ∈ wholeRow (lcmAll [qs] : Nat) qs := List.mem_map.mpr ⟨q, hq, rfl⟩
  rw [ez] at hw
  obtain ⟨z, hz, e⟩ := List.mem_map.mp hw
  refine dot_pos hz fun z0 => ?_
  have e : c * z = q.1 * ((lcmAll [qs] : Nat) / q.2) := e
  rw [z0, Int.mul_zero] at e
  have dv : q.2 ∣ ((lcmAll [qs] : Nat) : Int) := by
    have := lcmAll_mem (rows := [qs]) (List.mem_singleton.mpr rfl) hq
    have h2 := Int.natCast_dvd_natCast.mpr this
    rw [Int.natAbs_of_nonneg (Int.le_of_lt (pos q hq))] at h2
    exact h2
  have lp : (0 : Int) < (lcmAll [qs] : Nat) := by
    have := lcmAll_pos [qs] fun r hr q hq => by
      rw [List.mem_singleton.mp hr] at hq
      exact pos q hq
    omega
  have dp : 0 < ((lcmAll [qs] : Nat) : Int) / q.2 := Int.ediv_pos_of_pos_of_dvd lp (Int.le_of_lt (pos q hq)) dv
  rcases Int.mul_eq_zero.mp e.symm with h | h
  · exact nq h
  · omega
theorem part_lt {ws zs : List Int} {c : Int} {b : Nat} (e : ws = zs.map (fun z => c * z)) (c0 : 0 < c) (h : ∀ x ∈ ws, x.natAbs < 2 ^ b) : ∀ z ∈ zs, z.natAbs < 2 ^ b := fun z hz => by
  have m : c * z ∈ ws := by
    rw [e]
    exact List.mem_map.mpr ⟨z, hz, rfl⟩
  refine Nat.lt_of_le_of_lt ?_ (h _ m)
  rw [Int.natAbs_mul]
  exact Nat.le_mul_of_pos_left _ (by omega)
theorem part_len {u : Int} {qs : List (Int × Int)} {zs : List Int} {c : Int} (e : wholeRow u qs = zs.map (fun z => c * z)) (h : qs.length ≤ 100) : zs.length ≤ 100 := by
  have := congrArg List.length e
  rw [List.length_map] at this
  unfold wholeRow at this
  rw [List.length_map] at this
  omega
theorem led_lt {rows : List (List (Int × Int))} {zs : List Int} {b : Nat} (br : ∀ r ∈ rows, ∀ x ∈ wholeRow (lcmAll rows : Nat) r, x.natAbs < 2 ^ b) (bz : ∀ z ∈ zs, z.natAbs < 2 ^ b) (l : ∀ r ∈ rows, r.length ≤ 100) : ∀ x ∈ ledZ rows zs, x.natAbs < 2 ^ (b + b + 7) := fun x hx => by
  obtain ⟨r, hr, rfl⟩ := List.mem_map.mp hx
  exact dotZ_lt (br r hr) bz (by unfold wholeRow; rw [List.length_map]; exact l r hr)
section
variable {mg : Str → Option Value} {base : Heap} {K : PySem.W.Frag} {P : Program} {w : World}
/-- what is asked of a table and a row, b bits -/
structure Fit (K : PySem.W.Frag) (TT : List Addr) (H : Hp) (v u : V) (rows : List (List (Int × Int))) (qs : List (Int × Int)) (b : Nat) : Prop where
  dv : DpT K H v (rowsD rows)
  ok : tabB (conv (rowsD rows)) = true
  du : DpT K H u (rowD qs)
  okr : rowB (rows.length : Int) (conv (rowD qs)) = true
  nz : (qs.any fun q => q.1 != 0) = true
  l1 : rows.length ≤ 100
  l2 : qs.length ≤ 100
  sr : ∀ r ∈ rows, r.length ≤ 100 ∧ ∀ q ∈ r, Sf q
  sq : ∀ q ∈ qs, Sf q
  lr : lcmAll rows < 2 ^ b
  lq : lcmAll [qs] < 2 ^ b
  b0 : 0 < b
  b9 : b ≤ 900
  br : ∀ r ∈ rows, ∀ x ∈ wholeRow (lcmAll rows : Nat) r, x.natAbs < 2 ^ b
  bq : ∀ x ∈ wholeRow (lcmAll [qs] : Nat) qs, x.natAbs < 2 ^ b
  tabs : Tabs TT H
def spMoment (K : PySem.W.Frag) (TT : List Addr) (g : Int → Int → Int → Int → Rat) : Sp := fun vs H Q _ => ∃ (v u : V) (rows : List (List (Int × Int))) (qs : List (Int × Int)) (b : Nat), vs = [v, u] ∧ Fit K TT H v u rows qs b ∧
  ∀ H' (p : Addr) (zs : List Int) (c : Int), B3 TT H H' → Tabs TT H' → 0 < c → 0 < dotZ zs zs → wholeRow (lcmAll [qs] : Nat) qs = zs.map (fun z => c * z) →
    H' p = some (frO (g (dotZ zs zs) (dotZ zs (ledZ rows zs)) (dotZ (ledZ rows zs) (ledZ rows zs)) (lcmAll rows : Nat))) → Q (.ref p) H'
def meanQ (l w s u : Int) : Rat := Rat.divInt w (u * l)
def spreadQ (l w s u : Int) : Rat := Rat.divInt (s * l - w * w) (u * u * l * l)
theorem Fit.keep {TT : List Addr} {H H' : Hp} {v u : V} {rows : List (List (Int × Int))} {qs : List (Int × Int)} {b : Nat} (f : Fit K TT H v u rows qs b) (h : B3 TT H H') (t : Tabs TT H') : Fit K TT H' v u rows qs b :=
  { f with dv := DpT.keep (h.kt f.tabs) f.dv, du := DpT.keep (h.kt f.tabs) f.du, tabs := t }
abbrev s_mean_of : Stmt := topS 27
abbrev N_mean_of : List Str := ["table", "row", "length", "worth", "_", "under"]
theorem sc_mean_of : FnScope N_mean_of ["table", "row"] (defScope s_mean_of) := ⟨rfl, rfl, rfl, by decide +kernel, rfl, by decide +kernel, by decide +kernel⟩
theorem ok_mean (T : Gs K mg) {TT : List Addr} (D_fraction : Df P w K mg base "fraction" 1 ["number", "under"] spFrac) (D_check_tried : Df P w K mg base "check_tried" 8 ["table", "row"] (spTried K TT)) (D_products_of : Df P w K mg base "products_of" 3 ["table", "row"] (spProducts K TT)) (F : At K mg "mean_of" s_mean_of) :
    Df P w K mg base "mean_of" 9 ["table", "row"] (spMoment K TT meanQ) := by
  have sc := sc_mean_of
  refine Df.mk' F sc (fun vs H Q E h => ?_) (fun _ _ _ _ _ _ us hl => match us, hl with | [_, _], _ => rfl) (fun f cdv A outer s H vs Q E hr h => ?_)
  · obtain ⟨v, u, rows, qs, b, rfl, _⟩ := h
    rfl
  · obtain ⟨v, u, rows, qs, b, rfl, fit, q⟩ := h
    refine ⟨_, (pss_cons (ps_expr (pe_fn D_check_tried (by decide) hr (pa_cons (pv 0) (pa_cons (pv 1) pa_nil)))) (pss_cons (ps_asg (pe_fn D_products_of (by decide) hr (pa_cons (pv 0) (pa_cons (pv 1) pa_nil))) (pg_tup rfl (pgs_cons (pg_name (i := 2) sc.nd rfl (.inl rfl)) (pgs_cons (pg_name (i := 3) sc.nd rfl (.inl rfl)) (pgs_cons (pg_name (i := 4) sc.nd rfl (.inl rfl)) (pgs_cons (pg_name (i := 5) sc.nd rfl (.inl rfl)) pgs_nil)))))) (pss_one (ps_ret (pe_fn D_fraction (by decide) hr (pa_cons (pv 3) (pa_cons (pe_op op_mulW (pv 5) (pv 2)) pa_nil))))))), ?_⟩
    refine ⟨_, rfl, _, rfl, v, u, _, qs, rfl, fit.dv, fit.ok, fit.du, by rw [List.length_map]; exact fit.okr, fit.nz, fit.tabs, fun H1 b1 t1 => ?_⟩
    have f1 := fit.keep b1 t1
    have p9 : 2 ^ b ≤ 2 ^ 9000 := pw (by have := fit.b9; omega)
    refine ⟨_, rfl, _, rfl, v, u, rows, qs, b, rfl, f1.dv, f1.du, f1.l1, f1.l2, f1.sr, f1.sq, Nat.lt_of_lt_of_le f1.lr p9, Nat.lt_of_lt_of_le f1.lq p9, f1.b0, by have := f1.b9; omega, f1.br, f1.bq, f1.tabs, fun H2 p zs c b2 t2 c0 ez hp => ?_⟩
    have lpos := led_pos ez (fun q hq => (fit.sq q hq).pos) fit.nz
    have b9 := fit.b9
    have lr0 : (0 : Int) < (lcmAll rows : Nat) := by
      have := lcmAll_pos rows fun r hr q hq => ((fit.sr r hr).2 q hq).pos
      omega
    have lrb : ((lcmAll rows : Nat) : Int).natAbs < 2 ^ b := by
      rw [Int.natAbs_natCast]
      exact fit.lr
    have zb := part_lt ez c0 fit.bq
    have lz : zs.length ≤ 100 := part_len ez fit.l2
    have lb : (dotZ zs zs).natAbs < 2 ^ (b + b + 7) := dotZ_lt zb zb lz
    have wb : (dotZ zs (ledZ rows zs)).natAbs < 2 ^ (b + (b + b + 7) + 7) := dotZ_lt zb (led_lt fit.br zb fun r hr => (fit.sr r hr).1) lz
    have sb : (dotZ (ledZ rows zs) (ledZ rows zs)).natAbs < 2 ^ ((b + b + 7) + (b + b + 7) + 7) := dotZ_lt (led_lt fit.br zb fun r hr => (fit.sr r hr).1) (led_lt fit.br zb fun r hr => (fit.sr r hr).1) (by unfold ledZ; rw [List.length_map]; exact fit.l1)
    refine ⟨p, _, rfl, SqT.of hp, rfl, _, _, rfl, _, _, rfl, _, _, rfl, _, _, rfl, rfl, ?_⟩
    refine ⟨_, rfl, _, rfl, _, rfl, _, _, rfl, rfl, wide_mul lrb lb fit.b0 (by omega) (by omega), _, _, rfl, Int.mul_pos lr0 lpos, ?_, fun H3 p3 s3 h3 => ?_⟩
    · exact Nat.lt_of_lt_of_le (mulI lrb lb) (pw (by omega))
    · exact q H3 p3 zs c ((b1.trans b2).trans (Same.b3 s3)) (t2.same s3) c0 lpos ez h3
abbrev s_spread_of : Stmt := topS 28
abbrev N_spread_of : List Str := ["table", "row", "length", "worth", "square", "under"]
theorem sc_spread_of : FnScope N_spread_of ["table", "row"] (defScope s_spread_of) := ⟨rfl, rfl, rfl, by decide +kernel, rfl, by decide +kernel, by decide +kernel⟩
theorem ok_spread (T : Gs K mg) {TT : List Addr} (D_fraction : Df P w K mg base "fraction" 1 ["number", "under"] spFrac) (D_check_tried : Df P w K mg base "check_tried" 8 ["table", "row"] (spTried K TT)) (D_products_of : Df P w K mg base "products_of" 3 ["table", "row"] (spProducts K TT)) (F : At K mg "spread_of" s_spread_of) :
    Df P w K mg base "spread_of" 9 ["table", "row"] (spMoment K TT spreadQ) := by
  have sc := sc_spread_of
  refine Df.mk' F sc (fun vs H Q E h => ?_) (fun _ _ _ _ _ _ us hl => match us, hl with | [_, _], _ => rfl) (fun f cdv A outer s H vs Q E hr h => ?_)
  · obtain ⟨v, u, rows, qs, b, rfl, _⟩ := h
    rfl
  · obtain ⟨v, u, rows, qs, b, rfl, fit, q⟩ := h
    refine ⟨_, (pss_cons (ps_expr (pe_fn D_check_tried (by decide) hr (pa_cons (pv 0) (pa_cons (pv 1) pa_nil)))) (pss_cons (ps_asg (pe_fn D_products_of (by decide) hr (pa_cons (pv 0) (pa_cons (pv 1) pa_nil))) (pg_tup rfl (pgs_cons (pg_name (i := 2) sc.nd rfl (.inl rfl)) (pgs_cons (pg_name (i := 3) sc.nd rfl (.inl rfl)) (pgs_cons (pg_name (i := 4) sc.nd rfl (.inl rfl)) (pgs_cons (pg_name (i := 5) sc.nd rfl (.inl rfl)) pgs_nil)))))) (pss_one (ps_ret (pe_fn D_fraction (by decide) hr (pa_cons (pe_op op_sub (pe_op op_mulW (pv 4) (pv 2)) (pe_op op_mulW (pv 3) (pv 3))) (pa_cons (pe_op op_mulW (pe_op op_mulW (pe_op op_mulW (pv 5) (pv 5)) (pv 2)) (pv 2)) pa_nil))))))), ?_⟩
    refine ⟨_, rfl, _, rfl, v, u, _, qs, rfl, fit.dv, fit.ok, fit.du, by rw [List.length_map]; exact fit.okr, fit.nz, fit.tabs, fun H1 b1 t1 => ?_⟩
    have f1 := fit.keep b1 t1
    have p9 : 2 ^ b ≤ 2 ^ 9000 := pw (by have := fit.b9; omega)
    refine ⟨_, rfl, _, rfl, v, u, rows, qs, b, rfl, f1.dv, f1.du, f1.l1, f1.l2, f1.sr, f1.sq, Nat.lt_of_lt_of_le f1.lr p9, Nat.lt_of_lt_of_le f1.lq p9, f1.b0, by have := f1.b9; omega, f1.br, f1.bq, f1.tabs, fun H2 p zs c bb2 t2 c0 ez hp => ?_⟩
    have lpos := led_pos ez (fun q hq => (fit.sq q hq).pos) fit.nz
    have b9 := fit.b9
    have lr0 : (0 : Int) < (lcmAll rows : Nat) := by
      have := lcmAll_pos rows fun r hr q hq => ((fit.sr r hr).2 q hq).pos
      omega
    have lrb : ((lcmAll rows : Nat) : Int).natAbs < 2 ^ b := by
      rw [Int.natAbs_natCast]
      exact fit.lr
    have zb := part_lt ez c0 fit.bq
    have lz : zs.length ≤ 100 := part_len ez fit.l2
    have lb : (dotZ zs zs).natAbs < 2 ^ (b + b + 7) := dotZ_lt zb zb lz
    have wb : (dotZ zs (ledZ rows zs)).natAbs < 2 ^ (b + (b + b + 7) + 7) := dotZ_lt zb (led_lt fit.br zb fun r hr => (fit.sr r hr).1) lz
    have sb : (dotZ (ledZ rows zs) (ledZ rows zs)).natAbs < 2 ^ ((b + b + 7) + (b + b + 7) + 7) := dotZ_lt (led_lt fit.br zb fun r hr => (fit.sr r hr).1) (led_lt fit.br zb fun r hr => (fit.sr r hr).1) (by unfold ledZ; rw [List.length_map]; exact fit.l1)
    refine ⟨p, _, rfl, SqT.of hp, rfl, _, _, rfl, _, _, rfl, _, _, rfl, _, _, rfl, rfl, ?_⟩
    have b2 : 0 < b := fit.b0
    have m1 := mulI sb lb
    have m2 := mulI wb wb
    have n1 := mulI lrb lrb
    have n2 := mulI n1 lb
    have n3 := mulI n2 lb
    refine ⟨_, rfl, _, rfl, _, _, rfl, rfl, wide_mul sb lb (by omega) (by omega) (by omega), _, rfl, _, rfl, _, _, rfl, rfl, wide_mul wb wb (by omega) (by omega) (by omega), _, _, rfl, rfl, ?_⟩
    refine ⟨_, rfl, _, rfl, _, _, rfl, rfl, wide_mul lrb lrb b2 b2 (by omega), _, rfl, _, _, rfl, rfl, wide_mul n1 lb (by omega) (by omega) (by omega), _, rfl, _, _, rfl, rfl, wide_mul n2 lb (by omega) (by omega) (by omega), ?_⟩
    refine ⟨_, _, rfl, Int.mul_pos (Int.mul_pos (Int.mul_pos lr0 lr0) lpos) lpos, Nat.lt_of_lt_of_le n3 (pw (by omega)), fun H3 p3 s3 h3 => ?_⟩
    exact q H3 p3 zs c ((b1.trans bb2).trans (Same.b3 s3)) (t2.same s3) c0 lpos ez h3
end
end V3
set_option maxHeartbeats 4100000
namespace V3
open PySem.Spec PySem L2 PyProof.Rows RZ GxR
section
variable {mg : Str → Option Value} {base : Heap} {K : PySem.W.Frag} {P : Program} {w : World}
abbrev s__law_draw : Stmt := topS 32
abbrev N__law_draw : List Str := ["well", "size", "seed", "digit"]
theorem sc__law_draw : FnScope N__law_draw ["well", "size"] (defScope s__law_draw) := ⟨rfl, rfl, rfl, by decide +kernel, rfl, by decide +kernel, by decide +kernel⟩
def spDraw : Sp := fun vs H Q _ => ∃ (a : Addr) (n : Int) (k : Nat), vs = [.ref a, .int n] ∧ Well H a k ∧ k ≤ 1000000 ∧ 0 < n ∧ n < 1073741824 ∧ ∀ H' d, But a H H' → Well H' a (k + 1) → 0 ≤ d → d < n → Q (.int d) H'
theorem ok_draw (T : Gs K mg) (F : At K mg "_law_draw" s__law_draw) : Df P w K mg base "_law_draw" 1 ["well", "size"] spDraw := by
  have sc := sc__law_draw
  refine Df.mk' F sc (fun vs H Q E h => ?_) (fun _ _ _ _ _ _ us hl => match us, hl with | [_, _], _ => rfl) (fun f cdv A outer s H vs Q E hr h => ?_)
  · obtain ⟨a, q, u, rfl, _⟩ := h
    rfl
  · obtain ⟨a, n, k, rfl, ⟨x, y, z, hw, x0, y0, yl, z0, zl⟩, kl, n0, nl, q⟩ := h
    refine ⟨_, (pss_cons (ps_if (pt_cmpR op_gt (pe_ix ix_list (pv 0) pe_int (fun _ _ => rfl)) pe_int (nomark _)) (pss_cons (ps_set (i := 3) sc.nd rfl (.inl rfl) (pe_op op_mod (pe_callTy call_int1 (by rfl) T.int_ (by decide +kernel) (pa_cons (pe_ix ix_list (pv 0) pe_int (fun _ _ => rfl)) pa_nil)) (pv 1))) (pss_cons (ps_asg (pe_op op_fdiv (pe_ix ix_list (pv 0) pe_int (fun _ _ => rfl)) (pv 1)) (pg_sub (pv 0) pe_int set_list)) (pss_one (ps_ret (pv 3))))) pss_nil) (pss_cons (ps_asg (pe_op op_add (pe_ix ix_list (pv 0) pe_int (fun _ _ => rfl)) pe_int) (pg_sub (pv 0) pe_int set_list)) (pss_cons (ps_set (i := 2) sc.nd rfl (.inl rfl) (pe_op op_mod (pe_callTy call_int1 (by rfl) T.int_ (by decide +kernel) (pa_cons (pe_op op_add (pe_op op_add (pe_op op_mul (pe_ix ix_list (pv 0) pe_int (fun _ _ => rfl)) pe_int) (pe_op op_mul pe_int (pe_ix ix_list (pv 0) pe_int (fun _ _ => rfl)))) pe_int) pa_nil)) pe_int)) (pss_cons (ps_asg (pv 2) (pg_sub (pv 0) pe_int set_list)) (pss_one (ps_ret (pe_op op_mod (pe_callTy call_int1 (by rfl) T.int_ (by decide +kernel) (pa_cons (pe_op op_fdiv (pe_op op_mul (pv 2) (pe_op op_add (pe_op op_mod (pe_callTy call_int1 (by rfl) T.int_ (by decide +kernel) (pa_cons (pv 2) pa_nil)) pe_int) pe_int)) pe_int) pa_nil)) (pv 1)))))))), ?_⟩
    refine ⟨_, rfl, a, _, _, _, rfl, rfl, SqL.of hw, at30, _, _, rfl, rfl, _, rfl, if2 (fun e => ?_) (fun e => ?_)⟩
    · refine ⟨_, rfl, a, _, _, _, rfl, rfl, SqL.of hw, at30, .inl ⟨_, rfl, ?_⟩⟩
      refine ⟨_, rfl, _, _, rfl, rfl, n0, ?_⟩
      refine ⟨_, rfl, a, _, _, _, rfl, rfl, SqL.of hw, at30, _, rfl, _, _, rfl, rfl, ⟨n0, nl⟩, _, rfl, a, _, _, 0, rfl, rfl, hw, rfl, ?_⟩
      refine ⟨_, rfl, ?_⟩
      exact q _ _ (But.upd (But.refl a H)) ⟨_, _, _, upd_same, Int.ediv_nonneg x0 (Int.le_of_lt n0), y0, yl, z0, by omega⟩ (Int.emod_nonneg _ (by omega)) (Int.emod_lt_of_pos _ n0)
    · refine ⟨_, rfl, a, _, _, _, rfl, rfl, SqL.of hw, at32, _, _, rfl, rfl, _, rfl, a, _, _, 2, rfl, rfl, hw, rfl, ?_⟩
      have h1 : (upd H a (.lst (List.set [.int x, .int y, .int z] 2 (.int (z + 1))))) a = some (.lst [.int x, .int y, .int (z + 1)]) := upd_same
      have b1 : But a H (upd H a (.lst (List.set [.int x, .int y, .int z] 2 (.int (z + 1))))) := (But.refl a H).upd
      generalize upd H a (.lst (List.set [.int x, .int y, .int z] 2 (.int (z + 1)))) = H1 at b1 h1
      refine ⟨_, rfl, a, _, _, _, rfl, rfl, SqL.of h1, at31, _, _, rfl, rfl, Or.inr (by decide), ?_⟩
      refine ⟨_, rfl, a, _, _, _, rfl, rfl, SqL.of h1, at32, _, _, rfl, rfl, Or.inr (by omega), ?_⟩
      refine ⟨_, _, rfl, rfl, _, _, rfl, rfl, .inl ⟨_, rfl, ?_⟩⟩
      refine ⟨_, _, rfl, rfl, by show (0 : Int) < 2147483647; decide, ?_⟩
      have s0 : 0 ≤ (y * 16807 + 62089 * (z + 1) + 5) % 2147483647 := Int.emod_nonneg _ (by decide)
      have sl : (y * 16807 + 62089 * (z + 1) + 5) % 2147483647 < 2147483647 := Int.emod_lt_of_pos _ (by decide)
      refine ⟨_, rfl, _, rfl, a, _, _, 1, rfl, rfl, h1, rfl, ?_⟩
      have h2 : (upd H1 a (.lst (List.set [.int x, .int y, .int (z + 1)] 1 (.int ((y * 16807 + 62089 * (z + 1) + 5) % 2147483647))))) a = some (.lst [.int x, .int ((y * 16807 + 62089 * (z + 1) + 5) % 2147483647), .int (z + 1)]) := upd_same
      have b2 : But a H (upd H1 a (.lst (List.set [.int x, .int y, .int (z + 1)] 1 (.int ((y * 16807 + 62089 * (z + 1) + 5) % 2147483647))))) := b1.upd
      refine ⟨_, rfl, _, rfl, .inl ⟨_, rfl, _, _, rfl, rfl, by show (0 : Int) < 60013; decide, _, _, rfl, rfl, ?_⟩⟩
      have t0 : 0 ≤ ((y * 16807 + 62089 * (z + 1) + 5) % 2147483647) % 60013 := Int.emod_nonneg _ (by decide)
      have tl : ((y * 16807 + 62089 * (z + 1) + 5) % 2147483647) % 60013 < 60013 := Int.emod_lt_of_pos _ (by decide)
      refine ⟨_, _, rfl, rfl, Or.inr (by omega), ?_⟩
      refine ⟨_, _, rfl, rfl, ⟨by decide, by decide⟩, .inl ⟨_, rfl, ?_⟩⟩
      refine ⟨_, rfl, _, _, rfl, rfl, n0, ?_⟩
      exact q _ _ b2 ⟨_, _, _, h2, x0, s0, sl, by omega, by omega⟩ (Int.emod_nonneg _ (by omega)) (Int.emod_lt_of_pos _ n0)
abbrev s__law_well : Stmt := topS 31
abbrev N__law_well : List Str := ["script", "turn", "own", "mixed", "cell"]
theorem sc__law_well : FnScope N__law_well ["script", "turn"] (defScope s__law_well) := ⟨rfl, rfl, rfl, by decide +kernel, rfl, by decide +kernel, by decide +kernel⟩
def spWell (K : PySem.W.Frag) : Sp := fun vs H Q _ => ∃ (a : Addr) (ns : List Int) (t : Nat), vs = [.ref a, .int t] ∧ SqL K H a (ns.map V.int) ∧ ∀ H' p, Same H H' → H p = none → Well H' p 0 → Q (.ref p) H'
theorem ok_well (T : Gs K mg) (F : At K mg "_law_well" s__law_well) : Df P w K mg base "_law_well" 1 ["script", "turn"] (spWell K) := by
  have sc := sc__law_well
  refine Df.mk' F sc (fun vs H Q E h => ?_) (fun _ _ _ _ _ _ us hl => match us, hl with | [_, _], _ => rfl) (fun f cdv A outer s H vs Q E hr h => ?_)
  · obtain ⟨a, ns, t, rfl, _⟩ := h
    rfl
  · obtain ⟨a, ns, t, rfl, ha, q⟩ := h
    refine ⟨_, (pss_cons (ps_set (i := 2) sc.nd rfl (.inl rfl) (pe_ifExp (pt_cmpR op_lt (pv 1) (pe_callB call_len_seq (by rfl) T.len PySem.boot_len (pa_cons (pv 0) pa_nil)) (nomark _)) (pe_callTy call_int1 (by rfl) T.int_ (by decide +kernel) (pa_cons (pe_ix ix_list (pv 0) (pv 1) (fun _ _ => rfl)) pa_nil)) pe_int)) (pss_cons (ps_set (i := 3) sc.nd rfl (.inl rfl) (pe_op op_add pe_int (pe_op op_mul pe_int (pv 1)))) (pss_cons (ps_for PassesOwn.never rfl (pi_list (pe_slice sl_list (pv 0) po_none (po_some pe_int))) (pg_name (i := 4) sc.nd rfl (.inl rfl)) (pss_one (ps_set (i := 3) sc.nd rfl (.inl rfl) (pe_op op_mod (pe_callTy call_int1 (by rfl) T.int_ (by decide +kernel) (pa_cons (pe_op op_add (pe_op op_add (pe_op op_mul (pv 3) pe_int) (pe_op op_mod (pe_callTy call_int1 (by rfl) T.int_ (by decide +kernel) (pa_cons (pv 4) pa_nil)) pe_int)) pe_int) pa_nil)) pe_int)))) (pss_cons (ps_set (i := 3) sc.nd rfl (.inl rfl) (pe_op op_mod (pe_callTy call_int1 (by rfl) T.int_ (by decide +kernel) (pa_cons (pe_op op_add (pe_op op_add (pe_op op_mul (pv 3) pe_int) (pe_op op_mul (pe_op op_mod (pe_callTy call_int1 (by rfl) T.int_ (by decide +kernel) (pa_cons (pv 2) pa_nil)) pe_int) pe_int)) pe_int) pa_nil)) pe_int)) (pss_one (ps_ret (pe_lst (pa_cons (pe_ifExp (pt_cmpR op_ge (pe_callB call_abs (by rfl) T.abs (by decide +kernel) (pa_cons (pv 2) pa_nil)) (pe_op op_pow pe_int pe_int) (nomark _)) (pe_callB call_abs (by rfl) T.abs (by decide +kernel) (pa_cons (pv 2) pa_nil)) pe_int) (pa_cons (pv 3) (pa_cons pe_int pa_nil)))))))))), ?_⟩
    have m0 : ∀ z : Int, 0 ≤ z % 2147483647 := fun z => Int.emod_nonneg _ (by decide)
    have ml : ∀ z : Int, z % 2147483647 < 2147483647 := fun z => Int.emod_lt_of_pos _ (by decide)
    refine ⟨_, rfl, _, rfl, _, _, rfl, .inl ha, _, _, rfl, rfl, _, rfl, if2 (fun e => ?a) (fun e => ?b)⟩
    case' a =>
      have lt : t < (ns.map V.int).length := by
        have := of_decide_eq_true e
        omega
      have ln : t < ns.length := by rw [List.length_map] at lt; exact lt
      refine ⟨_, rfl, _, rfl, _, _, _, _, rfl, rfl, ha, at_of rfl (show (ns.map V.int)[t]? = some (.int ns[t]) by rw [List.getElem?_map, List.getElem?_eq_getElem ln]; rfl), .inl ⟨_, rfl, ?_⟩⟩
    all_goals
      refine ⟨_, rfl, _, _, rfl, rfl, Or.inl (by decide), _, _, rfl, rfl, ?_⟩
      refine ⟨_, rfl, _, rfl, a, _, rfl, ha, fun pc hpc => ?_⟩
      have s1 : Same H (upd H pc (.lst (cutV (ns.map V.int) none (some 9)))) := same_upd hpc
      refine ⟨pc, rfl, ⟨_, SqL.of upd_same⟩, for_list (K := K) (a := pc) (xs := cutV (ns.map V.int) none (some 9)) (fun i σ H' => ∃ (o m : Int) (y : Option V), σ = [some (.ref a), some (.int t), some (.int o), some (.int m), y] ∧ H' = upd H pc (.lst (cutV (ns.map V.int) none (some 9)))) ⟨_, _, _, rfl, rfl⟩
        (fun i σ H' _ ⟨_, _, _, _, e⟩ => by rw [e]; exact SqL.of upd_same) ?_ ?_⟩
      · rintro i x σ H' hi ⟨o, m, y, rfl, rfl⟩
        obtain ⟨n, _, rfl⟩ := List.mem_map.mp (cutV_mem (List.mem_of_getElem? hi))
        refine ⟨_, rfl, _, _, rfl, rfl, Or.inr (by decide), ?_⟩
        refine ⟨_, rfl, .inl ⟨_, rfl, _, _, rfl, rfl, by show (0 : Int) < 2147483563; decide, _, _, rfl, rfl, ?_⟩⟩
        refine ⟨_, _, rfl, rfl, .inl ⟨_, rfl, _, _, rfl, rfl, by show (0 : Int) < 2147483647; decide, ?_⟩⟩
        exact ⟨_, _, _, rfl, rfl⟩
      · rintro σ H' ⟨o, m, y, rfl, rfl⟩
        generalize upd H pc (.lst (cutV (ns.map V.int) none (some 9))) = H1 at s1
        have fin : ∀ (p : Addr), H1 p = none → ∀ x z : Int, 0 ≤ x → 0 ≤ z → z < 2147483647 → Q (.ref p) (upd H1 p (.lst [.int x, .int z, .int 0])) := fun p hp x z h1 h2 h3 =>
          q _ p (s1.trans (same_upd hp)) (by cases e : H p with | none => rfl | some o => rw [s1 _ _ e] at hp; cases hp) ⟨x, z, 0, upd_same, h1, h2, h3, by decide, by decide⟩
        refine ⟨_, rfl, _, _, rfl, rfl, Or.inr (by decide), ?_⟩
        refine ⟨_, rfl, .inl ⟨_, rfl, _, _, rfl, rfl, by show (0 : Int) < 2147483629; decide, _, _, rfl, rfl, Or.inr (by decide), ?_⟩⟩
        refine ⟨_, _, rfl, rfl, _, _, rfl, rfl, .inl ⟨_, rfl, _, _, rfl, rfl, by show (0 : Int) < 2147483647; decide, ?_⟩⟩
        refine ⟨_, rfl, _, rfl, _, _, rfl, rfl, ⟨by decide, by decide, by decide⟩, _, _, rfl, rfl, _, rfl, if2 (fun e2 => ?_) (fun e2 => ?_)⟩
        · refine ⟨_, rfl, _, rfl, _, rfl, by show 3 ≤ sizeLine; decide, fun p hp => ?_⟩
          exact fin p hp _ _ (by split <;> omega) (m0 _) (ml _)
        · refine ⟨_, rfl, by show 3 ≤ sizeLine; decide, fun p hp => ?_⟩
          exact fin p hp _ _ (by decide) (m0 _) (ml _)
abbrev s__law_pick : Stmt := topS 33
abbrev N__law_pick : List Str := ["well", "some"]
theorem sc__law_pick : FnScope N__law_pick ["well", "some"] (defScope s__law_pick) := ⟨rfl, rfl, rfl, by decide +kernel, rfl, by decide +kernel, by decide +kernel⟩
def spPick (K : PySem.W.Frag) : Sp := fun vs H Q _ => ∃ (a p : Addr) (xs : List V) (k : Nat), vs = [.ref a, .ref p] ∧ Well H a k ∧ k ≤ 1000000 ∧ H p = some (.lst xs) ∧ a ≠ p ∧ 0 < xs.length ∧ xs.length ≤ 1000 ∧ ∀ H' (i : Nat) x, But a H H' → Well H' a (k + 1) → xs[i]? = some x → Q x H'
theorem ok_pick (T : Gs K mg) (D__law_draw : Df P w K mg base "_law_draw" 1 ["well", "size"] spDraw) (F : At K mg "_law_pick" s__law_pick) : Df P w K mg base "_law_pick" 2 ["well", "some"] (spPick K) := by
  have sc := sc__law_pick
  refine Df.mk' F sc (fun vs H Q E h => ?_) (fun _ _ _ _ _ _ us hl => match us, hl with | [_, _], _ => rfl) (fun f cdv A outer s H vs Q E hr h => ?_)
  · obtain ⟨a, q, u, k, rfl, _⟩ := h
    rfl
  · obtain ⟨a, p, xs, k, rfl, hw, kl, hp, hne, n0, nl, q⟩ := h
    refine ⟨_, (pss_one (ps_ret (pe_ix ix_list (pv 1) (pe_fn D__law_draw (by decide) hr (pa_cons (pv 0) (pa_cons (pe_callB call_len_seq (by rfl) T.len PySem.boot_len (pa_cons (pv 1) pa_nil)) pa_nil))) (fun _ _ => rfl)))), ?_⟩
    refine ⟨_, rfl, _, rfl, _, rfl, p, _, rfl, .inl (SqL.of hp), a, _, k, rfl, hw, kl, by omega, by omega, fun H' d b1 w1 d0 dl => ?_⟩
    obtain ⟨i, rfl⟩ : ∃ i : Nat, d = i := ⟨d.toNat, by omega⟩
    have hi : i < xs.length := by omega
    refine ⟨p, xs, _, xs[i], rfl, rfl, SqL.of (b1 _ _ (Ne.symm hne) hp), at_of rfl (List.getElem?_eq_getElem hi), ?_⟩
    exact q H' i _ b1 w1 (List.getElem?_eq_getElem hi)
abbrev s__law_common : Stmt := topS 34
abbrev N__law_common : List Str := ["one", "two"]
theorem sc__law_common : FnScope N__law_common ["one", "two"] (defScope s__law_common) := ⟨rfl, rfl, rfl, by decide +kernel, rfl, by decide +kernel, by decide +kernel⟩
def spCommon : Sp := fun vs H Q _ => ∃ n u : Int, vs = [.int n, .int u] ∧ Q (.int (Int.gcd n u : Int)) H
theorem ok_common (T : Gs K mg) (F : At K mg "_law_common" s__law_common) : Df P w K mg base "_law_common" 1 ["one", "two"] spCommon := by
  have sc := sc__law_common
  refine Df.mk' F sc (fun vs H Q E h => ?_) (fun _ _ _ _ _ _ us hl => match us, hl with | [_, _], _ => rfl) (fun f cdv A outer s H vs Q E hr h => ?_)
  · obtain ⟨n, u, rfl, _⟩ := h
    rfl
  · obtain ⟨n, u, rfl, q⟩ := h
    refine ⟨_, (pss_cons (ps_par (i := 0) (j := 1) rfl sc.nd rfl rfl (by decide) rfl rfl (pa_cons (pe_callB call_abs (by rfl) T.abs (by decide +kernel) (pa_cons (pv 0) pa_nil)) (pa_cons (pe_callB call_abs (by rfl) T.abs (by decide +kernel) (pa_cons (pv 1) pa_nil)) pa_nil)) (by rfl)) (pss_cons (ps_while PassesOwn.never (pt_cmpR op_gt (pv 1) pe_int (nomark _)) (pss_one (ps_par (i := 0) (j := 1) rfl sc.nd rfl rfl (by decide) rfl rfl (pa_cons (pv 1) (pa_cons (pe_op op_mod (pe_callTy call_int1 (by rfl) T.int_ (by decide +kernel) (pa_cons (pv 0) pa_nil)) (pv 1)) pa_nil)) (by rfl)))) (pss_one (ps_ret (pv 0))))), ?_⟩
    have en : (if n < 0 then -n else n) = ((n.natAbs : Nat) : Int) := by split <;> omega
    have eu : (if u < 0 then -u else u) = ((u.natAbs : Nat) : Int) := by split <;> omega
    refine ⟨_, rfl, n, rfl, _, rfl, u, rfl, _, _, rfl, ?_⟩
    rw [en, eu]
    refine ⟨fun m σ H' => H' = H ∧ ∃ a b : Nat, σ = [some (.int a), some (.int b)] ∧ Nat.gcd a b = Int.gcd n u ∧ m = b, ⟨_, rfl, n.natAbs, u.natAbs, rfl, rfl, rfl⟩, ?_⟩
    rintro m σ H1 ⟨rfl, a, b, rfl, hg, rfl⟩
    refine ⟨_, rfl, _, _, rfl, rfl, _, rfl, if2 (fun e => ?_) (fun e => ?_)⟩
    · have b0 : 0 < m := by
        have := of_decide_eq_true e
        omega
      refine ⟨fun σ' H' => ∃ m', m' < m ∧ (H' = H1 ∧ ∃ a b : Nat, σ' = [some (.int a), some (.int b)] ∧ Nat.gcd a b = Int.gcd n u ∧ m' = b), fun σ' H' z => z, ?_⟩
      refine ⟨_, rfl, _, rfl, .inl ⟨_, rfl, _, rfl, _, _, rfl, rfl, by show (0 : Int) < m; omega, _, _, rfl, ?_⟩⟩
      refine ⟨_, Nat.mod_lt a b0, rfl, m, a % m, ?_, ?_, rfl⟩
      · rfl
      · rw [← hg, Nat.gcd_comm a m, Nat.gcd_rec m a, Nat.gcd_comm]
    · have b0 : m = 0 := by
        have := of_decide_eq_false e
        omega
      subst b0
      rw [Nat.gcd_zero_right] at hg
      subst hg
      exact ⟨_, rfl, q⟩
abbrev s__law_lowest : Stmt := topS 35
abbrev N__law_lowest : List Str := ["upper", "lower", "by"]
theorem sc__law_lowest : FnScope N__law_lowest ["upper", "lower"] (defScope s__law_lowest) := ⟨rfl, rfl, rfl, by decide +kernel, rfl, by decide +kernel, by decide +kernel⟩
theorem ok_lowest (T : Gs K mg) (D__law_common : Df P w K mg base "_law_common" 1 ["one", "two"] spCommon) (F : At K mg "_law_lowest" s__law_lowest) : Df P w K mg base "_law_lowest" 2 ["upper", "lower"] spFrac := by
  have sc := sc__law_lowest
  refine Df.mk' F sc (fun vs H Q E h => ?_) (fun _ _ _ _ _ _ us hl => match us, hl with | [_, _], _ => rfl) (fun f cdv A outer s H vs Q E hr h => ?_)
  · obtain ⟨n, u, rfl, _⟩ := h
    rfl
  · obtain ⟨n, u, rfl, hu, su, q⟩ := h
    refine ⟨_, (pss_cons (ps_set (i := 2) sc.nd rfl (.inl rfl) (pe_fn D__law_common (by decide) hr (pa_cons (pv 0) (pa_cons (pv 1) pa_nil)))) (pss_cons (ps_set (i := 2) sc.nd rfl (.inl rfl) (pe_ifExp (pt_cmpR op_gt (pv 1) pe_int (nomark _)) (pv 2) (pe_op op_sub pe_int (pv 2)))) (pss_one (ps_ret (pe_tup (pa_cons (pe_op op_fdivW (pv 0) (pv 2)) (pa_cons (pe_op op_fdivW (pv 1) (pv 2)) pa_nil))))))), ?_⟩
    have g0 := gcdP (n := n) hu
    have g1 := gcdL (n := n) hu
    have w : CDivW n (Int.gcd n u : Int) := wide_div g0 (b := 9000) (wide_le (by omega) g1 su) (by decide) (by decide)
    refine ⟨_, rfl, _, rfl, n, u, rfl, ?_⟩
    refine ⟨_, rfl, _, _, rfl, rfl, _, rfl, if2 (fun e => ?_) (fun e => ?_)⟩
    · refine ⟨_, rfl, ?_⟩
      refine ⟨_, rfl, _, rfl, _, _, rfl, rfl, w, _, rfl, _, rfl, _, _, rfl, rfl, w, by show 2 ≤ sizeLine; decide, fun p hp => ?_⟩
      exact q _ p (same_upd hp) (made hu upd_same)
    · exact absurd (of_decide_eq_false e) (by omega)
end
end V3
set_option maxHeartbeats 8000000
namespace V3
open PySem.Spec PySem L2 PyProof.Rows RZ GxR
theorem lt9000 {u : Int} (h1 : 0 ≤ u) (h2 : u < 2 ^ 40) : u.natAbs < 2 ^ 9000 := Nat.lt_of_lt_of_le (show u.natAbs < 2 ^ 40 by omega) (pw (by decide))
theorem mem6 {x : V} {l : List Int} {i : Nat} (h : (l.map V.int)[i]? = some x) : ∃ n, x = .int n ∧ n ∈ l := by
  obtain ⟨n, hn, e⟩ := List.mem_map.mp (List.mem_of_getElem? h)
  exact ⟨n, e.symm, hn⟩
/-! ### rows of whole numbers -/
/-- at p the rows M, each in a list of its own -/
structure Mx (H : Hp) (p : Addr) (ps : List Addr) (M : List (List Int)) : Prop where
  at_ : H p = some (.lst (ps.map V.ref))
  out : p ∉ ps
  nd : ps.Nodup
  len : ps.length = M.length
  row : ∀ (i : Nat) (q : Addr) (r : List Int), ps[i]? = some q → M[i]? = some r → H q = some (.lst (r.map V.int))
theorem Mx.same {H H' : Hp} {p : Addr} {ps : List Addr} {M : List (List Int)} (h : Mx H p ps M) (s : Same H H') : Mx H' p ps M :=
  ⟨s _ _ h.at_, h.out, h.nd, h.len, fun i q r a b => s _ _ (h.row i q r a b)⟩
/-- n rows of n numbers below 2 ^ b, alike turned over -/
structure Sy (n b : Nat) (M : List (List Int)) : Prop where
  len : M.length = n
  row : ∀ r ∈ M, r.length = n ∧ ∀ x ∈ r, x.natAbs < 2 ^ b
  sym : ∀ i j, i < n → j < n → (M.getD i []).getD j 0 = (M.getD j []).getD i 0
theorem atMap {ns : List Int} {i : Nat} (h : i < ns.length) : atI (ns.map V.int) (i : Int) = some (.int (ns[i])) := atI_nat (by rw [List.getElem?_map, List.getElem?_eq_getElem h]; rfl)
def dotL (xs ys : List Int) : Int := ((List.range xs.length).map fun k => xs.getD k 0 * ys.getD k 0).sum
theorem sum_lt {B : Nat} : ∀ (xs : List Int), (∀ x ∈ xs, x.natAbs < B) → xs.sum.natAbs ≤ xs.length * B
  | [], _ => by simp
  | x :: r, h => by
    have h1 := h x List.mem_cons_self
    have h2 := sum_lt r fun y hy => h y (List.mem_cons_of_mem _ hy)
    have e : (r.length + 1) * B = r.length * B + B := Nat.succ_mul _ _
    (rw [List.sum_cons, List.length_cons, e])
    omega
theorem getD_lt {xs : List Int} {b i : Nat} (h : ∀ x ∈ xs, x.natAbs < 2 ^ b) : (xs.getD i 0).natAbs < 2 ^ b := by
  (rw [List.getD_eq_getElem?_getD])
  cases e : xs[i]? with
  | none => exact Nat.two_pow_pos b
  | some x => exact h x (List.mem_of_getElem? e)
theorem dot_lt {xs ys : List Int} {b c : Nat} (l8 : xs.length ≤ 8) (hx : ∀ x ∈ xs, x.natAbs < 2 ^ b) (hy : ∀ x ∈ ys, x.natAbs < 2 ^ c) : (dotL xs ys).natAbs < 2 ^ (b + c + 4) := by
  unfold dotL
  have h1 := sum_lt (B := 2 ^ (b + c)) ((List.range xs.length).map fun k => xs.getD k 0 * ys.getD k 0) fun z hz => by
    obtain ⟨k, _, rfl⟩ := List.mem_map.mp hz
    exact mulI (getD_lt hx) (getD_lt hy)
  rw [List.length_map, List.length_range] at h1
  have h3 : xs.length * 2 ^ (b + c) ≤ 8 * 2 ^ (b + c) := Nat.mul_le_mul_right _ l8
  have h4 : 2 ^ (b + c + 4) = 2 ^ (b + c) * 16 := by rw [Nat.pow_add]
  have h5 : 0 < 2 ^ (b + c) := Nat.two_pow_pos _
  omega
theorem getD_of {xs : List Int} {i : Nat} (h : i < xs.length) : xs.getD i 0 = xs[i] := by
  rw [List.getD_eq_getElem?_getD, List.getElem?_eq_getElem h]
  rfl
section
variable {mg : Str → Option Value} {base : Heap} {K : PySem.W.Frag} {P : Program} {w : World}
abbrev s__law_dot : Stmt := topS 38
abbrev N__law_dot : List Str := ["one", "two", "k"]
theorem sc__law_dot : FnScope N__law_dot ["one", "two"] (defScope s__law_dot) := ⟨rfl, rfl, rfl, by decide +kernel, rfl, by decide +kernel, by decide +kernel⟩
def spDot : Sp := fun vs H Q _ => ∃ (p q : Addr) (xs ys : List Int) (b c : Nat), vs = [.ref p, .ref q] ∧ H p = some (.lst (xs.map V.int)) ∧ H q = some (.lst (ys.map V.int)) ∧ xs.length = ys.length ∧ xs.length ≤ 8 ∧ b ≤ 1000 ∧ c ≤ 1000 ∧
  (∀ x ∈ xs, x.natAbs < 2 ^ b) ∧ (∀ x ∈ ys, x.natAbs < 2 ^ c) ∧ ∀ H', Same H H' → Q (.int (dotL xs ys)) H'
theorem ok_dot (T : Gs K mg) (F : At K mg "_law_dot" s__law_dot) : Df P w K mg base "_law_dot" 1 ["one", "two"] spDot := by
  have sc := sc__law_dot
  refine Df.mk' F sc (fun vs H Q E h => ?_) (fun _ _ _ _ _ _ us hl => match us, hl with | [_, _], _ => rfl) (fun f cdv A outer s H vs Q E hr h => ?_)
  · obtain ⟨p, q, xs, ys, b, c, rfl, _⟩ := h
    rfl
  · obtain ⟨p, q', xs, ys, b, c, rfl, hp, hq, hl, l8, hb, hc, bx, by', q⟩ := h
    refine ⟨_, (pss_one (ps_ret (pe_callB (cr_sum rfl) (by rfl) T.sum (by decide +kernel) (pa_cons (pe_lc (own := [("k", 2)]) (g := gName 2) rfl sc.nd (pi_range1 rfl T.range (pa_cons (pe_callB call_len_seq (by rfl) T.len PySem.boot_len (pa_cons (pv 0) pa_nil)) pa_nil)) (blkOk_by (own := [("k", 2)]) (N := N__law_dot) (sc := defScope s__law_dot) (by decide +kernel)) (fun _ _ _ _ _ => (pg_name (i := 2) sc.nd rfl (.inl rfl))) (fun _ _ _ _ _ => pts_nil) (fun _ _ _ _ _ => (pe_op op_mulW (pe_ix (ixLK (K := K) rfl) (pv 0) (pv 2) (fun _ _ => rfl)) (pe_ix (ixLK (K := K) rfl) (pv 1) (pv 2) (fun _ _ => rfl))))) pa_nil)))), ?_⟩
    refine ⟨_, rfl, p, _, rfl, .inl (SqL.of hp), ?_⟩
    refine ⟨_, rfl, by omega, by rw [List.length_map]; omega, fun D hD => lc_range (lo := 0) (n := _) (fun i H' => Same H H' ∧ H' D = some (.lst (((List.range i).map fun k => xs.getD k 0 * ys.getD k 0).map V.int))) ⟨same_upd hD, upd_same⟩ ?_ ?_⟩
    · rintro i H' hi ⟨sm, hz⟩
      have hi' : i < xs.length := by
        rw [List.length_map] at hi
        omega
      have hi2 : i < ys.length := by omega
      refine ⟨rfl, yesIf ?_⟩
      have e0 : ((0 : Int) + (i : Int)) = (i : Int) := Int.zero_add _
      have b1 := bx _ (List.getElem_mem hi')
      have b2 := by' _ (List.getElem_mem hi2)
      refine ⟨_, rfl, _, rfl, p, _, _, .int xs[i], rfl, rfl, SqL.of (sm _ _ hp), ?_, ?_⟩
      · rw [e0]
        exact atMap hi'
      refine ⟨_, rfl, _, rfl, q', _, _, .int ys[i], rfl, rfl, SqL.of (sm _ _ hq), ?_, ?_⟩
      · rw [e0]
        exact atMap hi2
      refine ⟨_, _, rfl, rfl, wide_mul (a := b + 1) (b := c + 1) (Nat.lt_of_lt_of_le b1 (pw (by omega))) (Nat.lt_of_lt_of_le b2 (pw (by omega))) (by omega) (by omega) (by omega), ?_⟩
      refine ⟨_, hz, small1000 (by rw [List.length_map, List.length_map, List.length_range]; omega), same_updN sm hD, ?_⟩
      rw [upd_same, List.range_succ, List.map_append, List.map_append]
      show some (HO.lst (_ ++ [V.int (xs[i] * ys[i])])) = some (HO.lst (_ ++ [V.int (xs.getD i 0 * ys.getD i 0)]))
      rw [getD_of hi', getD_of hi2]
    · rintro H' ⟨sm, hz⟩
      refine ⟨D, _, rfl, SqL.of hz, ?_⟩
      have e : (((xs.map V.int).length : Int)).toNat = xs.length := by
        rw [List.length_map]
        omega
      rw [e]
      exact q H' sm
/-- the row with a number at one place, 0 elsewhere -/
def aloneR (xs : List Int) (i : Nat) : List Int := (List.range xs.length).map fun j => if i = j then xs.getD i 0 else 0
def alongM (xs : List Int) : List (List Int) := (List.range xs.length).map (aloneR xs)
abbrev s__law_along : Stmt := topS 42
abbrev N__law_along : List Str := ["numbers", "size", "i", "j"]
theorem sc__law_along : FnScope N__law_along ["numbers"] (defScope s__law_along) := ⟨rfl, rfl, rfl, by decide +kernel, rfl, by decide +kernel, by decide +kernel⟩
def spAlong : Sp := fun vs H Q _ => ∃ (p : Addr) (xs : List Int), vs = [.ref p] ∧ H p = some (.lst (xs.map V.int)) ∧ xs.length ≤ 8 ∧ ∀ H' p' ps, Same H H' → H p' = none → Mx H' p' ps (alongM xs) → (∀ x ∈ ps, H x = none) → Q (.ref p') H'
/-- a list of rows grows -/
structure Grow (H0 H : Hp) (D : Addr) (ps : List Addr) (M : List (List Int)) : Prop where
  mx : Mx H D ps M
  new : ∀ x ∈ ps, H0 x = none
theorem Grow.start {H : Hp} {D : Addr} (hD : H D = none) : Grow H (upd H D (.lst [])) D [] [] :=
  ⟨⟨upd_same, List.not_mem_nil, List.nodup_nil, rfl, fun i q r h => by simp at h⟩, fun x hx => by cases hx⟩
theorem Grow.snoc {H0 H1 H2 : Hp} {D D2 : Addr} {ps : List Addr} {M : List (List Int)} {r : List Int} (g : Grow H0 H1 D ps M) (s12 : ∀ b o, H1 b = some o → H2 b = some o) (s01 : ∀ b o, b ≠ D → H0 b = some o → H1 b = some o) (n2 : H1 D2 = none) (h2 : H2 D2 = some (.lst (r.map V.int))) (hD0 : H0 D = none) :
    Grow H0 (upd H2 D (.lst (ps.map V.ref ++ [.ref D2]))) D (ps ++ [D2]) (M ++ [r]) := by
  have hne : D2 ≠ D := fun z => by
    rw [z, g.mx.at_] at n2
    cases n2
  have fresh : D2 ∉ ps := fun hm => by
    obtain ⟨i, hi⟩ := List.getElem?_of_mem hm
    have hl : i < M.length := by
      (have := (List.getElem?_eq_some_iff.mp hi).1)
      rw [g.mx.len] at this
      exact this
    have := g.mx.row i D2 _ hi (List.getElem?_eq_getElem hl)
    rw [n2] at this
    cases this
  refine ⟨⟨?_, ?_, ?_, ?_, fun i q r' hq hr => ?_⟩, fun x hx => ?_⟩
  · rw [upd_same, List.map_append]
    rfl
  · intro hm
    rcases List.mem_append.mp hm with h | h
    · exact g.mx.out h
    · exact hne (List.mem_singleton.mp h).symm
  · rw [List.nodup_append]
    refine ⟨g.mx.nd, by simp, fun x hx y hy => ?_⟩
    rw [List.mem_singleton.mp hy]
    exact fun z => fresh (z ▸ hx)
  · rw [List.length_append, List.length_append, g.mx.len]
    rfl
  · have hl := g.mx.len
    by_cases c : i < ps.length
    · rw [List.getElem?_append_left c] at hq
      rw [List.getElem?_append_left (by omega)] at hr
      rw [upd_ne (fun z => g.mx.out (by rw [← z]; exact List.mem_of_getElem? hq))]
      exact s12 _ _ (g.mx.row i q r' hq hr)
    · have hi : i = ps.length := by
        have := (List.getElem?_eq_some_iff.mp hq).1
        rw [List.length_append] at this
        have h1 : ([D2] : List Addr).length = 1 := rfl
        omega
      subst hi
      rw [List.getElem?_append_right (Nat.le_refl _), Nat.sub_self] at hq
      rw [List.getElem?_append_right (by omega), hl, Nat.sub_self] at hr
      have e1 : D2 = q := Option.some.inj hq
      have e2 : r = r' := Option.some.inj hr
      subst e1 e2
      rw [upd_ne hne]
      exact h2
  · rcases List.mem_append.mp hx with h | h
    · exact g.new x h
    · rw [List.mem_singleton.mp h]
      cases e : H0 D2 with
      | none => rfl
      | some o =>
        have := s01 _ _ hne e
        rw [n2] at this
        cases this
theorem ok_along (T : Gs K mg) (F : At K mg "_law_along" s__law_along) : Df P w K mg base "_law_along" 1 ["numbers"] spAlong := by
  have sc := sc__law_along
  refine Df.mk' F sc (fun vs H Q E h => ?_) (fun _ _ _ _ _ _ us hl => match us, hl with | [_], _ => rfl) (fun f cdv A outer s H vs Q E hr h => ?_)
  · obtain ⟨p, xs, rfl, _⟩ := h
    rfl
  · obtain ⟨p, xs, rfl, hp, l8, q⟩ := h
    refine ⟨_, (pss_cons (ps_set (i := 1) sc.nd rfl (.inr rfl) (pe_callB call_len_seq (by rfl) T.len PySem.boot_len (pa_cons (pv 0) pa_nil))) (pss_one (ps_ret (pe_lc (own := [("i", 2)]) (g := gName 2) rfl sc.nd (pi_range1 rfl T.range (pa_cons (pv 1) pa_nil)) (blkOk_by (own := [("i", 2)]) (N := N__law_along) (sc := defScope s__law_along) (by decide +kernel)) (fun _ _ _ _ _ => (pg_name (i := 2) sc.nd rfl (.inr rfl))) (fun _ _ _ _ _ => pts_nil) (fun _ _ _ _ _ => (pe_lc (own := [("j", 3)]) (g := gName 3) rfl sc.nd (pi_range1 rfl T.range (pa_cons (pv 1) pa_nil)) (blkOk_by (own := [("j", 3)]) (N := N__law_along) (sc := ({ kind := .function, names := [(".0", .local), ("i", .cell), ("range", .globalImplicit), ("numbers", .cell), ("size", .cell)], isGenerator := false, isCoroutine := false } : Scope)) (by decide +kernel)) (fun _ _ _ _ _ => (pg_name (i := 3) sc.nd rfl (.inl rfl))) (fun _ _ _ _ _ => pts_nil) (fun _ _ _ _ _ => (pe_ifExp (pt_cmpR op_eq (pv 2) (pv 3) (nomark _)) (pe_ix (ixLK (K := K) rfl) (pv 0) (pv 2) (fun _ _ => rfl)) pe_int)))))))), ?_⟩
    refine ⟨_, rfl, p, _, rfl, .inl (SqL.of hp), ?_⟩
    refine ⟨_, rfl, _, rfl, by omega, by rw [List.length_map]; omega, fun D hD => lc_range (lo := 0) (n := _) (fun i H' => Same H H' ∧ ∃ ps, Grow H H' D ps ((List.range i).map (aloneR xs)))
      ⟨same_upd hD, [], Grow.start hD⟩ ?_ ?_⟩
    · rintro i H1 hi ⟨sm, ps, g⟩
      have hi' : i < xs.length := by
        rw [List.length_map] at hi
        omega
      refine ⟨rfl, yesIf ?_⟩
      refine ⟨_, rfl, _, rfl, by omega, by rw [List.length_map]; omega, fun D2 hD2 => lc_range (lo := 0) (n := _) (fun j H' => Same H1 H' ∧ H' D2 = some (.lst (((List.range j).map fun j => if i = j then xs.getD i 0 else 0).map V.int)))
        ⟨same_upd hD2, upd_same⟩ ?_ ?_⟩
      · rintro j H2 hj ⟨sm2, hz⟩
        have hj' : j < xs.length := by
          rw [List.length_map] at hj
          omega
        refine ⟨rfl, yesIf ?_⟩
        have fin : ∀ z : Int, z = (if i = j then xs.getD i 0 else 0) → ∃ acc, H2 D2 = some (.lst acc) ∧ acc.length < sizeLine ∧ Same H1 (upd H2 D2 (.lst (acc ++ [.int z]))) ∧ (upd H2 D2 (.lst (acc ++ [.int z]))) D2 = some (.lst (((List.range (j + 1)).map fun j => if i = j then xs.getD i 0 else 0).map V.int)) := fun z ez => by
          refine ⟨_, hz, small1000 (by rw [List.length_map, List.length_map, List.length_range]; omega), same_updN sm2 hD2, ?_⟩
          rw [upd_same, List.range_succ, List.map_append, List.map_append, ez]
          rfl
        refine ⟨_, rfl, _, rfl, rfl, _, rfl, if2 (fun e => ?_) (fun e => ?_)⟩
        · have e' : i = j := by
            have := of_decide_eq_true e
            have := V.int.inj this
            omega
          refine ⟨_, rfl, _, rfl, p, _, _, .int xs[i], rfl, rfl, SqL.of (sm2 _ _ (sm _ _ hp)), ?_, ?_⟩
          · rw [Int.zero_add]
            exact atMap hi'
          · exact fin _ (by rw [if_pos e', getD_of hi'])
        · have e' : i ≠ j := fun z => by
            have := of_decide_eq_false e
            exact this (by rw [z])
          exact fin 0 (by rw [if_neg e'])
      · rintro H2 ⟨sm2, hz⟩
        have en : (((xs.map V.int).length : Int)).toNat = xs.length := by
          rw [List.length_map]
          omega
        rw [en] at hz
        have hl : ps.length ≤ 8 := by
          rw [g.mx.len, List.length_map, List.length_range]
          omega
        refine ⟨_, sm2 _ _ g.mx.at_, small1000 (by rw [List.length_map]; omega), same_updN (sm.trans sm2) hD, ps ++ [D2], ?_⟩
        rw [List.range_succ, List.map_append]
        exact g.snoc (fun b o e => sm2 b o e) (fun b o _ e => sm b o e) hD2 hz hD
    · rintro H' ⟨sm, ps, g⟩
      have en : (((xs.map V.int).length : Int)).toNat = xs.length := by
        rw [List.length_map]
        omega
      rw [en] at g
      exact q H' D ps sm hD g.mx g.new
end
end V3
namespace V3
open PySem.Spec PySem L2 PyProof.Rows RZ GxR
/-- n rows of n numbers below 2 ^ b -/
structure Bn (n b : Nat) (M : List (List Int)) : Prop where
  len : M.length = n
  row : ∀ r ∈ M, r.length = n ∧ ∀ x ∈ r, x.natAbs < 2 ^ b
theorem mem_le_sum : ∀ (l : List Int), (∀ x ∈ l, 0 ≤ x) → ∀ x ∈ l, x ≤ l.sum
  | [], _, x, h => by cases h
  | y :: r, k, x, h => by
    have h0 : 0 ≤ r.sum := by
      cases r with
      | nil => exact Int.le_refl 0
      | cons z t => exact Int.le_trans (k z (List.mem_cons_of_mem _ List.mem_cons_self)) (mem_le_sum (z :: t) (fun u hu => k u (List.mem_cons_of_mem _ hu)) z List.mem_cons_self)
    have hy := k y List.mem_cons_self
    rw [List.sum_cons]
    (rcases List.mem_cons.mp h with e | e)
    · rw [e]
      omega
    · have := mem_le_sum r (fun u hu => k u (List.mem_cons_of_mem _ hu)) x e
      omega
theorem sq_nonneg' (x : Int) : 0 ≤ x * x := by
  (rcases Int.le_total 0 x with h | h)
  · exact Int.mul_nonneg h h
  · exact Int.mul_nonneg_of_nonpos_of_nonpos h h
theorem dot_self_pos {xs : List Int} (h0 : 0 < xs.length) (h1 : xs.getD 0 0 = 1) : 0 < dotL xs xs := by
  unfold dotL
  have := mem_le_sum ((List.range xs.length).map fun k => xs.getD k 0 * xs.getD k 0) (fun x hx => by
    obtain ⟨k, _, rfl⟩ := List.mem_map.mp hx
    exact sq_nonneg' _) (xs.getD 0 0 * xs.getD 0 0) (List.mem_map.mpr ⟨0, List.mem_range.mpr h0, rfl⟩)
  rw [h1] at this
  omega
/-- a mirror, times a number: what it is -/
def mirR (e : List Int) (i : Nat) : List Int := (List.range e.length).map fun j => (if i = j then dotL e e else 0) - 2 * e.getD i 0 * e.getD j 0
def mirM (e : List Int) : List (List Int) := (List.range e.length).map (mirR e)
theorem mir_bn {e : List Int} (l : e.length ≤ 5) (h : ∀ x ∈ e, x.natAbs < 2 ^ 2) : Bn e.length 20 (mirM e) := by
  refine ⟨by simp [mirM], fun r hr => ?_⟩
  obtain ⟨i, _, rfl⟩ := List.mem_map.mp hr
  refine ⟨by simp [mirR], fun x hx => ?_⟩
  obtain ⟨j, _, rfl⟩ := List.mem_map.mp hx
  have e1 := getD_lt (i := i) h
  have e2 := getD_lt (i := j) h
  have br : (dotL e e).natAbs < 2 ^ 8 := dot_lt (by omega) h h
  have m1 : ((2 : Int) * e.getD i 0).natAbs < 2 ^ 4 := mulI (a := 2) (b := 2) (by decide) e1
  have m2 : ((2 : Int) * e.getD i 0 * e.getD j 0).natAbs < 2 ^ 6 := mulI (b := 2) m1 e2
  have b8 : (if i = j then dotL e e else 0).natAbs < 2 ^ 8 := by
    split
    · exact br
    · decide
  exact Nat.lt_of_lt_of_le (sub_lt_pw (a := 8) b8 (Nat.lt_of_lt_of_le m2 (pw (by decide)))) (pw (by decide))
theorem dot_self_nn (xs : List Int) : 0 ≤ dotL xs xs := by
  unfold dotL
  have : ∀ l : List Int, (∀ x ∈ l, 0 ≤ x) → 0 ≤ l.sum := fun l => by
    induction l with
    | nil => exact fun _ => Int.le_refl 0
    | cons y r ih =>
      intro k
      have h1 := k y List.mem_cons_self
      have h2 := ih fun x hx => k x (List.mem_cons_of_mem _ hx)
      rw [List.sum_cons]
      omega
  exact this _ fun x hx => by
    obtain ⟨k, _, rfl⟩ := List.mem_map.mp hx
    exact sq_nonneg' _
section
variable {mg : Str → Option Value} {base : Heap} {K : PySem.W.Frag} {P : Program} {w : World}
abbrev s__law_mirror : Stmt := topS 41
abbrev N__law_mirror : List Str := ["well", "size", "eye", "by", "turn", "i", "j"]
theorem sc__law_mirror : FnScope N__law_mirror ["well", "size"] (defScope s__law_mirror) := ⟨rfl, rfl, rfl, by decide +kernel, rfl, by decide +kernel, by decide +kernel⟩
def spMirror : Sp := fun vs H Q _ => ∃ (a : Addr) (n k : Nat), vs = [.ref a, .int n] ∧ Well H a k ∧ k ≤ 900000 ∧ 1 ≤ n ∧ n ≤ 5 ∧ ∀ H' p pm z ps M, But a H H' → Well H' a (k + 5) → H' p = some (.tup [.ref pm, .int z]) → a ≠ pm → Mx H' pm ps M → Bn n 20 M → (∀ x ∈ ps, a ≠ x) → z.natAbs < 2 ^ 40 → 0 < z → (∃ e : List Int, e.length = n ∧ M = mirM e ∧ z = dotL e e * dotL e e ∧ 0 < dotL e e) → Q (.ref p) H'
theorem ok_mirror (T : Gs K mg) (D__law_pick : Df P w K mg base "_law_pick" 2 ["well", "some"] (spPick K)) (D__law_dot : Df P w K mg base "_law_dot" 1 ["one", "two"] spDot) (F : At K mg "_law_mirror" s__law_mirror) : Df P w K mg base "_law_mirror" 3 ["well", "size"] spMirror := by
  have sc := sc__law_mirror
  refine Df.mk' F sc (fun vs H Q E h => ?_) (fun _ _ _ _ _ _ us hl => match us, hl with | [_, _], _ => rfl) (fun f cdv A outer s H vs Q E hr h => ?_)
  · obtain ⟨a, n, k, rfl, _⟩ := h
    rfl
  · obtain ⟨a, n, k, rfl, hw, kl, n1, n5, q⟩ := h
    refine ⟨_, (pss_cons (ps_set (i := 2) sc.nd rfl (.inr rfl) (pe_lc (own := [("turn", 4)]) (g := gName 4) rfl sc.nd (pi_range1 rfl T.range (pa_cons (pv 1) pa_nil)) (blkOk_by (own := [("turn", 4)]) (N := N__law_mirror) (sc := defScope s__law_mirror) (by decide +kernel)) (fun _ _ _ _ _ => (pg_name (i := 4) sc.nd rfl (.inl rfl))) (fun _ _ _ _ _ => pts_nil) (fun _ _ _ _ _ => (pe_fn D__law_pick (by decide) hr (pa_cons (pv 0) (pa_cons (pe_lst (pa_cons pe_int (pa_cons pe_int (pa_cons (pe_un un_neg pe_int) (pa_cons pe_int (pa_cons pe_int (pa_cons pe_int pa_nil))))))) pa_nil)))))) (pss_cons (ps_if (pt_cmpR op_eq (pe_fn D__law_dot (by decide) hr (pa_cons (pv 2) (pa_cons (pv 2) pa_nil))) pe_int (nomark _)) (pss_one (ps_asg pe_int (pg_sub (pv 2) pe_int set_list))) pss_nil) (pss_cons (ps_set (i := 3) sc.nd rfl (.inr rfl) (pe_fn D__law_dot (by decide) hr (pa_cons (pv 2) (pa_cons (pv 2) pa_nil)))) (pss_one (ps_ret (pe_tup (pa_cons (pe_lc (own := [("i", 5)]) (g := gName 5) rfl sc.nd (pi_range1 rfl T.range (pa_cons (pv 1) pa_nil)) (blkOk_by (own := [("i", 5)]) (N := N__law_mirror) (sc := defScope s__law_mirror) (by decide +kernel)) (fun _ _ _ _ _ => (pg_name (i := 5) sc.nd rfl (.inr rfl))) (fun _ _ _ _ _ => pts_nil) (fun _ _ _ _ _ => (pe_lc (own := [("j", 6)]) (g := gName 6) rfl sc.nd (pi_range1 rfl T.range (pa_cons (pv 1) pa_nil)) (blkOk_by (own := [("j", 6)]) (N := N__law_mirror) (sc := ({ kind := .function, names := [(".0", .local), ("i", .cell), ("range", .globalImplicit), ("by", .cell), ("eye", .cell), ("size", .cell)], isGenerator := false, isCoroutine := false } : Scope)) (by decide +kernel)) (fun _ _ _ _ _ => (pg_name (i := 6) sc.nd rfl (.inl rfl))) (fun _ _ _ _ _ => pts_nil) (fun _ _ _ _ _ => (pe_op op_sub (pe_ifExp (pt_cmpR op_eq (pv 5) (pv 6) (nomark _)) (pv 3) pe_int) (pe_op op_mulW (pe_op op_mulW pe_int (pe_ix (ixLK (K := K) rfl) (pv 2) (pv 5) (fun _ _ => rfl))) (pe_ix (ixLK (K := K) rfl) (pv 2) (pv 6) (fun _ _ => rfl)))))))) (pa_cons (pe_op op_mulW (pv 3) (pv 3)) pa_nil)))))))), ?_⟩
    have hne : ∀ {D : Addr}, H D = none → a ≠ D := fun e => hw.ne e
    refine ⟨_, rfl, _, rfl, by omega, by omega, fun D hD => lc_range (lo := 0) (n := _) (fun i H' => But a H H' ∧ Well H' a (k + i) ∧ ∃ zs : List Int, H' D = some (.lst (zs.map V.int)) ∧ zs.length = i ∧ ∀ z ∈ zs, z.natAbs < 2 ^ 2)
      ⟨Same.but (same_upd hD), hw.same (same_upd hD), [], upd_same, rfl, fun z hz => by cases hz⟩ ?_ ?_⟩
    · rintro i H1 hi ⟨b1, w1, zs, hz, lz, kz⟩
      have hi' : i < n := by omega
      refine ⟨rfl, yesIf ?_⟩
      refine ⟨_, rfl, _, rfl, by show 6 ≤ sizeLine; decide, fun pl hpl => ?_⟩
      have s2 : Same H1 (upd H1 pl (.lst (([1, 1, -1, 2, 3, 0] : List Int).map V.int))) := same_upd hpl
      refine ⟨a, pl, ([1, 1, -1, 2, 3, 0] : List Int).map V.int, k + i, rfl, w1.same s2, by omega, upd_same, w1.ne hpl, by decide, by decide, fun H2 j x b2 w2 hx => ?_⟩
      obtain ⟨z, rfl, hm⟩ := mem6 hx
      have bz : z.natAbs < 2 ^ 2 := by
        (simp only [List.mem_cons, List.not_mem_nil, or_false] at hm)
        omega
      have hz2 : H2 D = some (.lst (zs.map V.int)) := b2 _ _ (Ne.symm (hne hD)) (s2 _ _ hz)
      refine ⟨_, hz2, small1000 (by rw [List.length_map]; omega), ((b1.trans (Same.but s2)).trans b2).updN hD, w2.upd (hne hD), zs ++ [z], ?_, by rw [List.length_append, lz]; rfl, fun y hy => ?_⟩
      · rw [upd_same, List.map_append]
        rfl
      · rcases List.mem_append.mp hy with h | h
        · exact kz y h
        · rw [List.mem_singleton.mp h]
          exact bz
    · rintro H1 ⟨b1, w1, zs, hz, lz, kz⟩
      have lz' : zs.length = n := by omega
      refine ⟨_, rfl, _, rfl, D, D, zs, zs, 2, 2, rfl, hz, hz, rfl, by omega, by decide, by decide, kz, kz, fun H2 s2 => ?_⟩
      refine ⟨rfl, _, rfl, if2 (fun e => ?a) (fun e => ?b)⟩
      case' a =>
        have hz2 := s2 _ _ hz
        refine ⟨_, rfl, D, _, _, 0, rfl, rfl, hz2, ixNat rfl (by rw [List.length_map]; omega), ?_⟩
        have hz3 : (upd H2 D (.lst ((zs.map V.int).set 0 (.int 1)))) D = some (.lst ((zs.set 0 1).map V.int)) := by rw [upd_same, List.map_set]
        have b3 : But a H (upd H2 D (.lst ((zs.map V.int).set 0 (.int 1)))) := (b1.trans (Same.but s2)).updN hD
        have w3 : Well (upd H2 D (.lst ((zs.map V.int).set 0 (.int 1)))) a (k + 5) := ((w1.same s2).mono (by omega)).upd (hne hD)
        have l3 : (zs.set 0 1).length = n := by rw [List.length_set]; exact lz'
        have k3 : ∀ z ∈ zs.set 0 1, z.natAbs < 2 ^ 2 := fun z hz' => by
          rcases List.mem_or_eq_of_mem_set hz' with h | h
          · exact kz z h
          · rw [h]
            decide
        generalize upd H2 D (.lst ((zs.map V.int).set 0 (.int 1))) = H3 at hz3 b3 w3
        have d3 : 0 < dotL (zs.set 0 1) (zs.set 0 1) := dot_self_pos (by omega) (by
            rw [List.getD_eq_getElem?_getD, List.getElem?_set_self (by omega)]
            rfl)
        generalize zs.set 0 1 = z3 at hz3 l3 k3 d3
      case' b =>
        have hz3 := s2 _ _ hz
        have b3 : But a H H2 := b1.trans (Same.but s2)
        have w3 : Well H2 a (k + 5) := (w1.same s2).mono (by omega)
        have l3 := lz'
        have k3 := kz
        generalize H2 = H3 at hz3 b3 w3
        have d3 : 0 < dotL zs zs := by
          have z : dotL zs zs ≠ 0 := fun z => by
            have := of_decide_eq_false e
            exact this (by rw [z])
          have z2 : 0 ≤ dotL zs zs := dot_self_nn zs
          omega
        generalize zs = z3 at hz3 l3 k3 d3
      all_goals
        clear hz s2 lz lz' kz w1 b1
        refine ⟨_, rfl, _, rfl, D, D, z3, z3, 2, 2, rfl, hz3, hz3, rfl, by omega, by decide, by decide, k3, k3, fun H4 s4 => ?_⟩
        have br : (dotL z3 z3).natAbs < 2 ^ 8 := dot_lt (by omega) k3 k3
        have bm := mir_bn (e := z3) (by omega) k3
        rw [l3] at bm
        generalize hr : dotL z3 z3 = r at br d3
        have hz4 := s4 _ _ hz3
        have hg : ∀ k : Nat, k < z3.length → z3[k]? = some (z3.getD k 0) := fun k hk => by
          rw [List.getD_eq_getElem?_getD, List.getElem?_eq_getElem hk]
          rfl
        have at3 : ∀ k : Nat, k < z3.length → atI (z3.map V.int) ((0 : Int) + (k : Int)) = some (.int (z3.getD k 0)) := fun k hk => at_of (Int.zero_add _) (by rw [List.getElem?_map, hg k hk]; rfl)
        refine ⟨_, rfl, _, rfl, by omega, by omega, fun D1 hD1 => lc_range (lo := 0) (n := _) (fun i H' => Same H4 H' ∧ ∃ ps, Grow H4 H' D1 ps ((List.range i).map (mirR z3)))
          ⟨same_upd hD1, [], Grow.start hD1⟩ ?_ ?_⟩
        · rintro i H5 hi ⟨sm, ps, g⟩
          have hi' : i < z3.length := by omega
          refine ⟨rfl, yesIf ?_⟩
          refine ⟨_, rfl, _, rfl, by omega, by omega, fun D2 hD2 => lc_range (lo := 0) (n := _) (fun j H' => Same H5 H' ∧ H' D2 = some (.lst (((List.range j).map fun j => (if i = j then r else 0) - 2 * z3.getD i 0 * z3.getD j 0).map V.int)))
            ⟨same_upd hD2, upd_same⟩ ?_ ?_⟩
          · rintro j H6 hj ⟨sm2, hzz⟩
            have hj' : j < z3.length := by omega
            have hz6 := sm2 _ _ (sm _ _ hz4)
            refine ⟨rfl, yesIf ?_⟩
            have e1 := getD_lt (i := i) k3
            have e2 := getD_lt (i := j) k3
            have m1 : ((2 : Int) * z3.getD i 0).natAbs < 2 ^ 4 := mulI (a := 2) (b := 2) (by decide) e1
            have fin : ∀ x : Int, x = (if i = j then r else 0) → ∃ acc, H6 D2 = some (.lst acc) ∧ acc.length < sizeLine ∧ Same H5 (upd H6 D2 (.lst (acc ++ [.int (x - 2 * z3.getD i 0 * z3.getD j 0)]))) ∧ (upd H6 D2 (.lst (acc ++ [.int (x - 2 * z3.getD i 0 * z3.getD j 0)]))) D2 = some (.lst (((List.range (j + 1)).map fun j => (if i = j then r else 0) - 2 * z3.getD i 0 * z3.getD j 0).map V.int)) := fun x bx => by
              refine ⟨_, hzz, small1000 (by rw [List.length_map, List.length_map, List.length_range]; omega), same_updN sm2 hD2, ?_⟩
              rw [upd_same, List.range_succ, List.map_append, List.map_append, bx]
              rfl
            refine ⟨_, rfl, _, rfl, rfl, _, rfl, if2 (fun e => ?_) (fun e => ?_)⟩
            · have eij : r = (if i = j then r else 0) := by
                rw [if_pos]
                have := of_decide_eq_true e
                injection this with this
                omega
              refine ⟨_, rfl, _, rfl, _, rfl, D, _, _, .int (z3.getD i 0), rfl, rfl, SqL.of hz6, at3 i hi', ?_⟩
              refine ⟨_, _, rfl, rfl, wide_mul (a := 2) (b := 2) (by decide) e1 (by decide) (by decide) (by decide), ?_⟩
              refine ⟨_, rfl, _, rfl, D, _, _, .int (z3.getD j 0), rfl, rfl, SqL.of hz6, at3 j hj', ?_⟩
              refine ⟨_, _, rfl, rfl, wide_mul (a := 4) (b := 2) m1 e2 (by decide) (by decide) (by decide), ?_⟩
              refine ⟨_, _, rfl, rfl, ?_⟩
              exact fin _ eij
            · have eij : (0 : Int) = (if i = j then r else 0) := by
                rw [if_neg]
                intro z
                have := of_decide_eq_false e
                exact this (by rw [z])
              refine ⟨_, rfl, _, rfl, D, _, _, .int (z3.getD i 0), rfl, rfl, SqL.of hz6, at3 i hi', ?_⟩
              refine ⟨_, _, rfl, rfl, wide_mul (a := 2) (b := 2) (by decide) e1 (by decide) (by decide) (by decide), ?_⟩
              refine ⟨_, rfl, _, rfl, D, _, _, .int (z3.getD j 0), rfl, rfl, SqL.of hz6, at3 j hj', ?_⟩
              refine ⟨_, _, rfl, rfl, wide_mul (a := 4) (b := 2) m1 e2 (by decide) (by decide) (by decide), ?_⟩
              refine ⟨_, _, rfl, rfl, ?_⟩
              exact fin _ eij
          · rintro H6 ⟨sm2, hzz⟩
            refine ⟨_, sm2 _ _ g.mx.at_, small1000 (by rw [List.length_map, g.mx.len, List.length_map, List.length_range]; omega), same_updN (sm.trans sm2) hD1, ps ++ [D2], ?_⟩
            rw [List.range_succ, List.map_append]
            have en : (n : Int).toNat = z3.length := by omega
            rw [en] at hzz
            refine g.snoc (fun b o e => sm2 b o e) (fun b o _ e => sm b o e) hD2 ?_ hD1
            rw [hzz]
            show _ = some (HO.lst ((mirR z3 i).map V.int))
            unfold mirR
            rw [hr]
        · rintro H5 ⟨sm, ps, g⟩
          have en : (n : Int).toNat = z3.length := by omega
          rw [en] at g
          refine ⟨_, rfl, _, rfl, _, _, rfl, rfl, wide_mul (a := 8) (b := 8) br br (by decide) (by decide) (by decide), by show 2 ≤ sizeLine; decide, fun p hp => ?_⟩
          have s5 := same_upd (o := .tup [.ref D1, .int (r * r)]) hp
          have s45 := s4.trans (sm.trans s5)
          have w4 := w3.same s4
          refine q _ p D1 (r * r) ps (mirM z3) (b3.trans (Same.but s45)) (w3.same s45) upd_same (w4.ne hD1) (g.mx.same s5) bm (fun x hx => w4.ne (g.new x hx)) (Nat.lt_of_lt_of_le (mulI br br) (pw (by decide))) (Int.mul_pos d3 d3) ⟨z3, l3, rfl, by rw [hr], by rw [hr]; exact d3⟩
end
end V3
namespace V3
open PySem.Spec PySem L2 PyProof.Rows RZ GxR
def ledR (G : List (List Int)) (w : List Int) : List Int := G.map fun g => dotL g w
def framedM (W G : List (List Int)) : List (List Int) := W.map fun w => W.map fun w2 => dotL w (ledR G w2)
theorem getD_map' {α β : Type} (f : α → β) (a0 : α) (b0 : β) {xs : List α} {i : Nat} (h : i < xs.length) : (xs.map f).getD i b0 = f (xs.getD i a0) := by
  rw [List.getD_eq_getElem?_getD, List.getD_eq_getElem?_getD, List.getElem?_map, List.getElem?_eq_getElem h]
  rfl
theorem getD_range {β : Type} (f : Nat → β) (b0 : β) {n i : Nat} (h : i < n) : ((List.range n).map f).getD i b0 = f i := by
  (rw [List.getD_eq_getElem?_getD, List.getElem?_map, List.getElem?_range h])
  rfl
theorem sum_zero : ∀ m : Nat, ((List.range m).map fun _ => (0 : Int)).sum = 0
  | 0 => rfl
  | m + 1 => by
    rw [List.range_succ, List.map_append, List.sum_append, sum_zero m]
    rfl
theorem sum_alone (n i : Nat) (x : Int) (g : Nat → Int) (hi : i < n) : ((List.range n).map fun k => (if i = k then x else 0) * g k).sum = x * g i := by
  induction n with
  | zero => omega
  | succ n ih =>
    rw [List.range_succ, List.map_append, List.sum_append]
    have e1 : (List.map (fun k => (if i = k then x else 0) * g k) [n]).sum = (if i = n then x else 0) * g n := by simp
    rw [e1]
    by_cases c : i = n
    · subst c
      have z : ((List.range i).map fun k => (if i = k then x else 0) * g k).sum = 0 := by
        have : ((List.range i).map fun k => (if i = k then x else 0) * g k) = (List.range i).map fun _ => (0 : Int) := by
          refine List.map_congr_left fun k hk => ?_
          have := List.mem_range.mp hk
          rw [if_neg (by omega), Int.zero_mul]
        rw [this]
        exact sum_zero i
      rw [z, if_pos rfl]
      omega
    · rw [ih (by omega), if_neg c]
      omega
theorem alone_len (xs : List Int) (i : Nat) : (aloneR xs i).length = xs.length := by simp [aloneR]
theorem along_len (xs : List Int) : (alongM xs).length = xs.length := by simp [alongM]
theorem dot_alone {xs w : List Int} {i : Nat} (h : i < xs.length) (hw : w.length = xs.length) : dotL (aloneR xs i) w = xs.getD i 0 * w.getD i 0 := by
  unfold dotL
  rw [alone_len]
  have : ((List.range xs.length).map fun k => (aloneR xs i).getD k 0 * w.getD k 0) = (List.range xs.length).map fun k => (if i = k then xs.getD i 0 else 0) * w.getD k 0 := by
    refine List.map_congr_left fun k hk => ?_
    have := List.mem_range.mp hk
    congr 1
    unfold aloneR
    exact getD_range _ _ this
  rw [this]
  exact sum_alone _ _ _ _ h
theorem framed_sym {n b c : Nat} {W : List (List Int)} {xs : List Int} (hW : Bn n b W) (hx : xs.length = n) (hb : ∀ x ∈ xs, x.natAbs < 2 ^ c) (n8 : n ≤ 8) : Sy n (b + (c + b + 4) + 4) (framedM W (alongM xs)) := by
  have rowW : ∀ i, i < n → W.getD i [] ∈ W := fun i hi => by
    have hl : i < W.length := by rw [hW.len]; exact hi
    rw [List.getD_eq_getElem?_getD, List.getElem?_eq_getElem hl]
    exact List.getElem_mem hl
  have bA : ∀ i, ∀ x ∈ aloneR xs i, x.natAbs < 2 ^ c := fun i x hx' => by
    obtain ⟨j, _, rfl⟩ := List.mem_map.mp hx'
    by_cases e : i = j
    · rw [if_pos e]
      exact getD_lt hb
    · rw [if_neg e]
      exact Nat.two_pow_pos c
  have bL : ∀ w ∈ W, ∀ x ∈ ledR (alongM xs) w, x.natAbs < 2 ^ (c + b + 4) := fun w hw x hx' => by
    obtain ⟨g, hg, rfl⟩ := List.mem_map.mp hx'
    obtain ⟨i, _, rfl⟩ := List.mem_map.mp hg
    exact dot_lt (by rw [alone_len]; omega) (bA i) (hW.row w hw).2
  refine ⟨by rw [framedM, List.length_map]; exact hW.len, fun r hr => ?_, fun i j hi hj => ?_⟩
  · obtain ⟨w, hw, rfl⟩ := List.mem_map.mp hr
    refine ⟨by rw [List.length_map]; exact hW.len, fun x hx' => ?_⟩
    obtain ⟨w2, hw2, rfl⟩ := List.mem_map.mp hx'
    exact dot_lt (by rw [(hW.row w hw).1]; omega) (hW.row w hw).2 (bL w2 hw2)
  · have hWi : i < W.length := by rw [hW.len]; exact hi
    have hWj : j < W.length := by rw [hW.len]; exact hj
    have e : ∀ p q, p < n → q < n → ((framedM W (alongM xs)).getD p []).getD q 0 = ((List.range n).map fun k => (W.getD p []).getD k 0 * (xs.getD k 0 * (W.getD q []).getD k 0)).sum := fun p q hp hq => by
      have lp : p < W.length := by rw [hW.len]; exact hp
      have lq : q < W.length := by rw [hW.len]; exact hq
      unfold framedM
      rw [getD_map' (fun w => W.map fun w2 => dotL w (ledR (alongM xs) w2)) [] [] lp, getD_map' (fun w2 => dotL (W.getD p []) (ledR (alongM xs) w2)) [] 0 lq]
      unfold dotL
      rw [(hW.row _ (rowW p hp)).1]
      congr 1
      refine List.map_congr_left fun k hk => ?_
      have hk' := List.mem_range.mp hk
      congr 1
      unfold ledR alongM
      rw [List.map_map, hx, getD_range _ _ hk']
      exact dot_alone (by omega) (by rw [(hW.row _ (rowW q hq)).1, hx])
    rw [e i j hi hj, e j i hj hi]
    congr 1
    (refine List.map_congr_left fun k _ => ?_)
    grind
section
variable {mg : Str → Option Value} {base : Heap} {K : PySem.W.Frag} {P : Program} {w : World}
abbrev s__law_framed : Stmt := topS 39
abbrev N__law_framed : List Str := ["ways", "rows", "leds", "way", "row", "led"]
theorem sc__law_framed : FnScope N__law_framed ["ways", "rows"] (defScope s__law_framed) := ⟨rfl, rfl, rfl, by decide +kernel, rfl, by decide +kernel, by decide +kernel⟩
def spFramed : Sp := fun vs H Q _ => ∃ (p q : Addr) (ps qs : List Addr) (W G : List (List Int)) (n b c : Nat), vs = [.ref p, .ref q] ∧ Mx H p ps W ∧ Mx H q qs G ∧ Bn n b W ∧ Bn n c G ∧ n ≤ 5 ∧ b ≤ 100 ∧ c ≤ 100 ∧ ∀ H' r rs, Same H H' → H r = none → Mx H' r rs (framedM W G) → (∀ x ∈ rs, H x = none) → Q (.ref r) H'
theorem mxRow {H : Hp} {p : Addr} {ps : List Addr} {M : List (List Int)} {i : Nat} {x : V} (h : Mx H p ps M) (hi : (ps.map V.ref)[i]? = some x) : ∃ q r, x = .ref q ∧ ps[i]? = some q ∧ M[i]? = some r ∧ H q = some (.lst (r.map V.int)) := by
  rw [List.getElem?_map] at hi
  obtain ⟨q, hq, rfl⟩ := Option.map_eq_some_iff.mp hi
  have hl : i < M.length := by
    have := (List.getElem?_eq_some_iff.mp hq).1
    rw [h.len] at this
    exact this
  exact ⟨q, M[i], rfl, hq, List.getElem?_eq_getElem hl, h.row i q _ hq (List.getElem?_eq_getElem hl)⟩
theorem ok_framed (T : Gs K mg) (D__law_dot : Df P w K mg base "_law_dot" 1 ["one", "two"] spDot) (F : At K mg "_law_framed" s__law_framed) : Df P w K mg base "_law_framed" 2 ["ways", "rows"] spFramed := by
  have sc := sc__law_framed
  refine Df.mk' F sc (fun vs H Q E h => ?_) (fun _ _ _ _ _ _ us hl => match us, hl with | [_, _], _ => rfl) (fun f cdv A outer s H vs Q E hr h => ?_)
  · obtain ⟨p, q, ps, qs, W, G, n, b, c, rfl, _⟩ := h
    rfl
  · obtain ⟨p, q', ps, qs, W, G, n, b, c, rfl, hp, hq, bW, bG, n5, hb, hc, q⟩ := h
    refine ⟨_, (pss_cons (ps_set (i := 2) sc.nd rfl (.inr rfl) (pe_lc (own := [("way", 3)]) (g := gName 3) rfl sc.nd (pi_list (pv 0)) (blkOk_by (own := [("way", 3)]) (N := N__law_framed) (sc := defScope s__law_framed) (by decide +kernel)) (fun _ _ _ _ _ => (pg_name (i := 3) sc.nd rfl (.inr rfl))) (fun _ _ _ _ _ => pts_nil) (fun _ _ _ _ _ => (pe_lc (own := [("row", 4)]) (g := gName 4) rfl sc.nd (pi_listK (K := K) rfl (pv 1)) (blkOk_by (own := [("row", 4)]) (N := N__law_framed) (sc := ({ kind := .function, names := [(".0", .local), ("way", .cell), ("rows", .cell)], isGenerator := false, isCoroutine := false } : Scope)) (by decide +kernel)) (fun _ _ _ _ _ => (pg_name (i := 4) sc.nd rfl (.inl rfl))) (fun _ _ _ _ _ => pts_nil) (fun _ _ _ _ _ => (pe_fn D__law_dot (by decide) hr (pa_cons (pv 4) (pa_cons (pv 3) pa_nil)))))))) (pss_one (ps_ret (pe_lc (own := [("way", 3)]) (g := gName 3) rfl sc.nd (pi_list (pv 0)) (blkOk_by (own := [("way", 3)]) (N := N__law_framed) (sc := defScope s__law_framed) (by decide +kernel)) (fun _ _ _ _ _ => (pg_name (i := 3) sc.nd rfl (.inr rfl))) (fun _ _ _ _ _ => pts_nil) (fun _ _ _ _ _ => (pe_lc (own := [("led", 5)]) (g := gName 5) rfl sc.nd (pi_listK (K := K) rfl (pv 2)) (blkOk_by (own := [("led", 5)]) (N := N__law_framed) (sc := ({ kind := .function, names := [(".0", .local), ("way", .cell), ("leds", .cell)], isGenerator := false, isCoroutine := false } : Scope)) (by decide +kernel)) (fun _ _ _ _ _ => (pg_name (i := 5) sc.nd rfl (.inl rfl))) (fun _ _ _ _ _ => pts_nil) (fun _ _ _ _ _ => (pe_fn D__law_dot (by decide) hr (pa_cons (pv 3) (pa_cons (pv 5) pa_nil)))))))))), ?_⟩
    have lps : (ps.map V.ref).length = n := by rw [List.length_map, hp.len, bW.len]
    have lqs : (qs.map V.ref).length = n := by rw [List.length_map, hq.len, bG.len]
    have bL : ∀ w ∈ W, ∀ x ∈ ledR G w, x.natAbs < 2 ^ (c + b + 4) := fun w hw x hx' => by
      obtain ⟨g, hg, rfl⟩ := List.mem_map.mp hx'
      exact dot_lt (by rw [(bG.row g hg).1]; omega) (bG.row g hg).2 (bW.row w hw).2
    refine ⟨_, rfl, p, rfl, ⟨_, SqL.of hp.at_⟩, fun D hD => lc_list (K := K) (a := p) (xs := ps.map V.ref) (fun i H' => Same H H' ∧ ∃ zs, Grow H H' D zs ((W.take i).map (ledR G)))
      ⟨same_upd hD, [], Grow.start hD⟩ (fun i H' _ h => SqL.of (h.1 _ _ hp.at_)) ?_ ?_⟩
    · rintro i x H1 hi ⟨sm, zs, g⟩
      obtain ⟨qw, nw, rfl, hqi, hwi, hqw⟩ := mxRow hp hi
      have hil : i < (ps.map V.ref).length := (List.getElem?_eq_some_iff.mp hi).1
      have mw := List.mem_of_getElem? hwi
      refine ⟨rfl, yesIf ?_⟩
      refine ⟨_, rfl, q', rfl, ⟨_, SqL.of (sm _ _ hq.at_)⟩, fun D2 hD2 => lc_list (K := K) (a := q') (xs := qs.map V.ref) (fun j H' => Same H1 H' ∧ H' D2 = some (.lst (((G.take j).map fun g => dotL g nw).map V.int)))
        ⟨same_upd hD2, upd_same⟩ (fun j H' _ h => SqL.of (h.1 _ _ (sm _ _ hq.at_))) ?_ ?_⟩
      · rintro j y H2 hj ⟨sm2, hzz⟩
        obtain ⟨qr, nr, rfl, hqj, hgj, hqr⟩ := mxRow hq hj
        have hjl : j < (qs.map V.ref).length := (List.getElem?_eq_some_iff.mp hj).1
        have mr := List.mem_of_getElem? hgj
        have s12 := sm.trans sm2
        refine ⟨rfl, yesIf ?_⟩
        refine ⟨_, rfl, _, rfl, qr, qw, nr, nw, c, b, rfl, s12 _ _ hqr, s12 _ _ hqw, by rw [(bG.row nr mr).1, (bW.row nw mw).1], by rw [(bG.row nr mr).1]; omega, by omega, by omega, (bG.row nr mr).2, (bW.row nw mw).2, fun H3 s3 => ?_⟩
        refine ⟨_, s3 _ _ hzz, small1000 (by rw [List.length_map, List.length_map, List.length_take]; omega), same_updN (sm2.trans s3) hD2, ?_⟩
        rw [upd_same, take_more hgj, List.map_append, List.map_append]
        rfl
      · rintro H2 ⟨sm2, hzz⟩
        have e : (G.take (qs.map V.ref).length) = G := by rw [lqs, ← bG.len, List.take_length]
        rw [e] at hzz
        refine ⟨_, sm2 _ _ g.mx.at_, small1000 (by rw [List.length_map, g.mx.len, List.length_map, List.length_take]; omega), same_updN (sm.trans sm2) hD, zs ++ [D2], ?_⟩
        rw [take_more hwi, List.map_append]
        exact g.snoc (fun b o e => sm2 b o e) (fun b o _ e => sm b o e) hD2 hzz hD
    · rintro H1 ⟨sm, zs, g⟩
      have e : (W.take (ps.map V.ref).length) = W := by rw [lps, ← bW.len, List.take_length]
      rw [e] at g
      have gm := g.mx
      have lzs : (zs.map V.ref).length = n := by rw [List.length_map, gm.len, List.length_map, bW.len]
      refine ⟨_, rfl, p, rfl, ⟨_, SqL.of (sm _ _ hp.at_)⟩, fun D3 hD3 => lc_list (K := K) (a := p) (xs := ps.map V.ref) (fun i H' => Same H1 H' ∧ ∃ us, Grow H1 H' D3 us ((W.take i).map fun w => W.map fun w2 => dotL w (ledR G w2)))
        ⟨same_upd hD3, [], Grow.start hD3⟩ (fun i H' _ h => SqL.of (h.1 _ _ (sm _ _ hp.at_))) ?_ ?_⟩
      · rintro i x H2 hi ⟨sm2, us, g2⟩
        obtain ⟨qw, nw, rfl, hqi, hwi, hqw⟩ := mxRow hp hi
        have hil : i < (ps.map V.ref).length := (List.getElem?_eq_some_iff.mp hi).1
        have mw := List.mem_of_getElem? hwi
        have s12 := sm.trans sm2
        refine ⟨rfl, yesIf ?_⟩
        refine ⟨_, rfl, D, rfl, ⟨_, SqL.of (sm2 _ _ gm.at_)⟩, fun D2 hD2 => lc_list (K := K) (a := D) (xs := zs.map V.ref) (fun j H' => Same H2 H' ∧ H' D2 = some (.lst (((W.take j).map fun w2 => dotL nw (ledR G w2)).map V.int)))
          ⟨same_upd hD2, upd_same⟩ (fun j H' _ h => SqL.of (h.1 _ _ (sm2 _ _ gm.at_))) ?_ ?_⟩
        · rintro j y H3 hj ⟨sm3, hzz⟩
          obtain ⟨qr, nr, rfl, hqj, hgj, hqr⟩ := mxRow gm hj
          have hjl : j < (zs.map V.ref).length := (List.getElem?_eq_some_iff.mp hj).1
          rw [List.getElem?_map] at hgj
          obtain ⟨w2, hw2, rfl⟩ := Option.map_eq_some_iff.mp hgj
          have m2 := List.mem_of_getElem? hw2
          have ll : (ledR G w2).length = n := by rw [ledR, List.length_map, bG.len]
          refine ⟨rfl, yesIf ?_⟩
          refine ⟨_, rfl, _, rfl, qw, qr, nw, ledR G w2, b, c + b + 4, rfl, (s12.trans sm3) _ _ hqw, (sm2.trans sm3) _ _ hqr, by rw [(bW.row nw mw).1, ll], by rw [(bW.row nw mw).1]; omega, by omega, by omega, (bW.row nw mw).2, bL w2 m2, fun H4 s4 => ?_⟩
          refine ⟨_, s4 _ _ hzz, small1000 (by rw [List.length_map, List.length_map, List.length_take]; omega), same_updN (sm3.trans s4) hD2, ?_⟩
          rw [upd_same, take_more hw2, List.map_append, List.map_append]
          rfl
        · rintro H3 ⟨sm3, hzz⟩
          have e : (W.take (zs.map V.ref).length) = W := by rw [lzs, ← bW.len, List.take_length]
          rw [e] at hzz
          refine ⟨_, sm3 _ _ g2.mx.at_, small1000 (by rw [List.length_map, g2.mx.len, List.length_map, List.length_take]; omega), same_updN (sm2.trans sm3) hD3, us ++ [D2], ?_⟩
          rw [take_more hwi, List.map_append]
          exact g2.snoc (fun b o e => sm3 b o e) (fun b o _ e => sm2 b o e) hD2 hzz hD3
      · rintro H2 ⟨sm2, us, g2⟩
        have e : (W.take (ps.map V.ref).length) = W := by rw [lps, ← bW.len, List.take_length]
        rw [e] at g2
        have back : ∀ x, H1 x = none → H x = none := fun x hx => by
          cases e : H x with
          | none => rfl
          | some o =>
            have := sm _ _ e
            rw [hx] at this
            cases this
        exact q H2 D3 us (sm.trans sm2) (back _ hD3) g2.mx fun x hx => back x (g2.new x hx)
end
end V3
namespace V3
open PySem.Spec PySem L2 PyProof.Rows RZ GxR
section
variable {mg : Str → Option Value} {base : Heap} {K : PySem.W.Frag} {P : Program} {w : World}
abbrev s__law_plant : Stmt := topS 45
abbrev N__law_plant : List Str := ["well", "size", "scale", "some", "roots", "led", "by", "turn", "root"]
theorem sc__law_plant : FnScope N__law_plant ["well"] (defScope s__law_plant) := ⟨rfl, rfl, rfl, by decide +kernel, rfl, by decide +kernel, by decide +kernel⟩
def spPlant : Sp := fun vs H Q _ => ∃ (a : Addr) (k : Nat), vs = [.ref a] ∧ Well H a k ∧ k ≤ 800000 ∧
  ∀ H' p r1 z pr (rs : List Addr) (M : List (List Int)) (n : Nat), But a H H' → Well H' a (k + 30) → H' p = some (.tup [.ref r1, .int z, .ref pr]) → Mx H' r1 rs M → Sy n 90 M → 1 ≤ n → n ≤ 5 → 0 < z → z.natAbs < 2 ^ 60 → a ≠ r1 → (∀ x ∈ rs, a ≠ x) → Q (.ref p) H'
theorem ok_plant (T : Gs K mg) (D__law_draw : Df P w K mg base "_law_draw" 1 ["well", "size"] spDraw) (D__law_pick : Df P w K mg base "_law_pick" 2 ["well", "some"] (spPick K)) (D__law_lowest : Df P w K mg base "_law_lowest" 2 ["upper", "lower"] spFrac)
    (D__law_mirror : Df P w K mg base "_law_mirror" 3 ["well", "size"] spMirror) (D__law_framed : Df P w K mg base "_law_framed" 2 ["ways", "rows"] spFramed) (D__law_along : Df P w K mg base "_law_along" 1 ["numbers"] spAlong) (F : At K mg "_law_plant" s__law_plant) :
    Df P w K mg base "_law_plant" 4 ["well"] spPlant := by
  have sc := sc__law_plant
  refine Df.mk' F sc (fun vs H Q E h => ?_) (fun _ _ _ _ _ _ us hl => match us, hl with | [_], _ => rfl) (fun f cdv A outer s H vs Q E hr h => ?_)
  · obtain ⟨a, k, rfl, _⟩ := h
    rfl
  · obtain ⟨a, k, rfl, hw, kl, q⟩ := h
    refine ⟨_, (pss_cons (ps_asg (pe_tup (pa_cons (pe_op op_add pe_int (pe_fn D__law_draw (by decide) hr (pa_cons (pv 0) (pa_cons pe_int pa_nil)))) (pa_cons (pe_fn D__law_pick (by decide) hr (pa_cons (pv 0) (pa_cons (pe_lst (pa_cons pe_int (pa_cons pe_int (pa_cons pe_int (pa_cons pe_int (pa_cons pe_int pa_nil)))))) pa_nil))) pa_nil))) (pg_tup rfl (pgs_cons (pg_name (i := 1) sc.nd rfl (.inl rfl)) (pgs_cons (pg_name (i := 2) sc.nd rfl (.inr rfl)) pgs_nil)))) (pss_cons (ps_set (i := 3) sc.nd rfl (.inr rfl) (pe_lc (own := [("turn", 7)]) (g := gName 7) rfl sc.nd (pi_range1 rfl T.range (pa_cons pe_int pa_nil)) (blkOk_by (own := [("turn", 7)]) (N := N__law_plant) (sc := defScope s__law_plant) (by decide +kernel)) (fun _ _ _ _ _ => (pg_name (i := 7) sc.nd rfl (.inl rfl))) (fun _ _ _ _ _ => pts_nil) (fun _ _ _ _ _ => (pe_op op_sub (pe_fn D__law_draw (by decide) hr (pa_cons (pv 0) (pa_cons pe_int pa_nil))) pe_int)))) (pss_cons (ps_setLc (i := 4) (own := [("turn", 7)]) (g := gName 7) rfl sc.nd rfl rfl (sw_true rfl rfl rfl (by decide +kernel)) (pi_range1 rfl T.range (pa_cons (pv 1) pa_nil)) (blkOk_by (own := [("turn", 7)]) (N := N__law_plant) (sc := defScope s__law_plant) (by decide +kernel)) (fun _ _ _ _ _ => (pg_name (i := 7) sc.nd rfl (.inl rfl))) (fun _ _ _ _ _ => pts_nil) (fun _ _ _ _ _ => (pe_fn D__law_pick (by decide) hr (pa_cons (pv 0) (pa_cons (pe_op op_cat (pv 3) (pe_lst (pa_cons (pe_op op_sub (pe_fn D__law_draw (by decide) hr (pa_cons (pv 0) (pa_cons pe_int pa_nil))) pe_int) pa_nil))) pa_nil))))) (pss_cons (ps_asg (pe_fn D__law_mirror (by decide) hr (pa_cons (pv 0) (pa_cons (pv 1) pa_nil))) (pg_tup rfl (pgs_cons (pg_name (i := 5) sc.nd rfl (.inl rfl)) (pgs_cons (pg_name (i := 6) sc.nd rfl (.inl rfl)) pgs_nil)))) (pss_one (ps_ret (pe_tup (pa_cons (pe_fn D__law_framed (by decide) hr (pa_cons (pv 5) (pa_cons (pe_fn D__law_along (by decide) hr (pa_cons (pv 4) pa_nil)) pa_nil))) (pa_cons (pe_op op_mulW (pv 2) (pv 6)) (pa_cons (pe_lc (own := [("root", 8)]) (g := gName 8) rfl sc.nd (pi_list (pv 4)) (blkOk_by (own := [("root", 8)]) (N := N__law_plant) (sc := defScope s__law_plant) (by decide +kernel)) (fun _ _ _ _ _ => (pg_name (i := 8) sc.nd rfl (.inl rfl))) (fun _ _ _ _ _ => pts_nil) (fun _ _ _ _ _ => (pe_fn D__law_lowest (by decide) hr (pa_cons (pv 8) (pa_cons (pv 2) pa_nil))))) pa_nil)))))))))), ?_⟩
    refine ⟨_, rfl, a, _, k, rfl, hw, by omega, by decide, by decide, fun H1 d1 b1 w1 d10 d1l => ?_⟩
    refine ⟨_, _, rfl, rfl, ?_⟩
    refine ⟨_, rfl, by show 5 ≤ sizeLine; decide, fun pl hpl => ?_⟩
    have s2 : Same H1 (upd H1 pl (.lst (([1, 1, 1, 2, 3] : List Int).map V.int))) := same_upd hpl
    refine ⟨a, pl, ([1, 1, 1, 2, 3] : List Int).map V.int, k + 1, rfl, w1.same s2, by omega, upd_same, w1.ne hpl, by decide, by decide, fun H3 j x b3 w3 hx => ?_⟩
    obtain ⟨z, rfl, hm⟩ := mem6 hx
    have bz : 1 ≤ z ∧ z ≤ 3 := by
      (simp only [List.mem_cons, List.not_mem_nil, or_false] at hm)
      omega
    have b13 : But a H H3 := (b1.trans (Same.but s2)).trans b3
    obtain ⟨n, hn⟩ : ∃ n : Nat, (1 : Int) + d1 = n := ⟨(1 + d1).toNat, by omega⟩
    refine ⟨by show 2 ≤ sizeLine; decide, fun pt hpt => ?_⟩
    have s4 : Same H3 (upd H3 pt (.tup [.int (1 + d1), .int z])) := same_upd hpt
    refine ⟨pt, _, rfl, SqT.of upd_same, rfl, _, _, rfl, _, _, rfl, rfl, ?_⟩
    have b4 : But a H (upd H3 pt (.tup [.int (1 + d1), .int z])) := b13.trans (Same.but s4)
    have w4 := w3.same s4
    have n1 : 1 ≤ n := by omega
    have n5 : n ≤ 5 := by omega
    -- some
    refine ⟨_, rfl, by decide, by decide, fun Ds hDs => lc_range (lo := 0) (n := _) (fun i H' => But a (upd H3 pt (.tup [.int (1 + d1), .int z])) H' ∧ Well H' a (k + 2 + i) ∧ ∃ zs : List Int, H' Ds = some (.lst (zs.map V.int)) ∧ zs.length = i ∧ ∀ z ∈ zs, z.natAbs ≤ 6)
      ⟨Same.but (same_upd hDs), (w4.mono (by omega)).same (same_upd hDs), [], upd_same, rfl, fun z hz => by cases hz⟩ ?_ ?_⟩
    · rintro i H5 hi ⟨b5, w5, zs, hz, lz, kz⟩
      have hi3 : i < 3 := hi
      refine ⟨rfl, yesIf ?_⟩
      refine ⟨_, rfl, a, _, k + 2 + i, rfl, w5, by omega, by decide, by decide, fun H6 d b6 w6 d0 dl => ?_⟩
      refine ⟨_, _, rfl, rfl, ?_⟩
      have hz6 := b6 _ _ (Ne.symm (w4.ne hDs)) hz
      refine ⟨_, hz6, small1000 (by rw [List.length_map]; omega), (b5.trans b6).updN hDs, w6.upd (w4.ne hDs), zs ++ [d - 4], ?_, by rw [List.length_append, lz]; rfl, fun y hy => ?_⟩
      · rw [upd_same, List.map_append]
        rfl
      · rcases List.mem_append.mp hy with h | h
        · exact kz y h
        · rw [List.mem_singleton.mp h]
          omega
    rintro H5 ⟨b5, w5, zs, hz, lz, kz⟩
    have lz3 : zs.length = 3 := lz
    have w5' : Well H5 a (k + 5) := w5.mono (by show k + 2 + 3 ≤ k + 5; omega)
    have b45 := b4.trans b5
    -- roots
    refine ⟨_, rfl, _, rfl, by omega, by omega, fun Dr hDr => lc_range (lo := 0) (n := _) (fun i H' => But a H5 H' ∧ Well H' a (k + 5 + 2 * i) ∧ ∃ rs : List Int, H' Dr = some (.lst (rs.map V.int)) ∧ rs.length = i ∧ ∀ z ∈ rs, z.natAbs ≤ 6)
      ⟨Same.but (same_upd hDr), (w5'.mono (by omega)).same (same_upd hDr), [], upd_same, rfl, fun z hz => by cases hz⟩ ?_ ?_⟩
    · rintro i H6 hi ⟨b6, w6, rs, hr', lr, kr⟩
      have hi5 : i < 5 := by omega
      refine ⟨rfl, yesIf ?_⟩
      refine ⟨_, rfl, _, rfl, _, rfl, a, _, k + 5 + 2 * i, rfl, w6, by omega, by decide, by decide, fun H7 d b7 w7 d0 dl => ?_⟩
      refine ⟨_, _, rfl, rfl, by show 1 ≤ sizeLine; decide, fun p8 hp8 => ?_⟩
      have s8 : Same H7 (upd H7 p8 (.lst [.int (d - 6)])) := same_upd hp8
      have hz7 := b7 _ _ (Ne.symm (w4.ne hDs)) (b6 _ _ (Ne.symm (w4.ne hDs)) hz)
      refine ⟨Ds, p8, _, _, rfl, rfl, s8 _ _ hz7, upd_same, by rw [List.length_map, lz3]; show 4 ≤ sizeLine; decide, fun p9 hp9 => ?_⟩
      have e9 : (zs.map V.int) ++ [V.int (d - 6)] = (zs ++ [d - 6]).map V.int := by rw [List.map_append]; rfl
      rw [e9]
      have s9 : Same (upd H7 p8 (.lst [.int (d - 6)])) (upd (upd H7 p8 (.lst [.int (d - 6)])) p9 (.lst ((zs ++ [d - 6]).map V.int))) := same_upd hp9
      have w9 := (w7.same s8).same s9
      have b79 : But a H7 _ := Same.but (s8.trans s9)
      refine ⟨a, p9, _, _, rfl, w9, by omega, upd_same, (w7.same s8).ne hp9, by rw [List.length_map, List.length_append]; show 0 < zs.length + 1; omega, by rw [List.length_map, List.length_append]; show zs.length + 1 ≤ 1000; omega, fun H10 j x b10 w10 hx => ?_⟩
      obtain ⟨z2, rfl, hm2⟩ := mem6 hx
      have bz2 : z2.natAbs ≤ 6 := by
        rcases List.mem_append.mp hm2 with h | h
        · exact kz _ h
        · rw [List.mem_singleton.mp h]
          omega
      have b610 : But a H6 H10 := (b7.trans b79).trans b10
      have hr10 := b610 _ _ (Ne.symm (w5.ne hDr)) hr'
      refine ⟨_, hr10, small1000 (by rw [List.length_map]; omega), (b6.trans b610).updN hDr, (w10.mono (by omega)).upd (w5.ne hDr), rs ++ [z2], ?_, by rw [List.length_append, lr]; rfl, fun y hy => ?_⟩
      · rw [upd_same, List.map_append]
        rfl
      · rcases List.mem_append.mp hy with h | h
        · exact kr y h
        · rw [List.mem_singleton.mp h]
          exact bz2
    rintro H6 ⟨b6, w6, rs, hr', lr, kr⟩
    have lrn : rs.length = n := by omega
    have w6' : Well H6 a (k + 15) := w6.mono (by omega)
    -- led, by
    refine ⟨_, rfl, _, rfl, a, n, k + 15, by show [V.ref a, V.int (1 + d1)] = _; rw [hn], w6', by omega, n1, n5, fun H7 p7 pm zz ps7 M7 b7 w7 h7 ne7 m7 bM nps bzz zz0 _ => ?_⟩
    refine ⟨p7, _, rfl, SqT.of h7, rfl, _, _, rfl, _, _, rfl, rfl, ?_⟩
    have hr7 := b7 _ _ (Ne.symm (w5.ne hDr)) hr'
    have b3r : ∀ z ∈ rs, z.natAbs < 2 ^ 3 := fun z hz' => by
      have := kr z hz'
      omega
    refine ⟨_, rfl, _, rfl, Dr, rs, rfl, hr7, by omega, fun H8 p8 ps8 s8 hn8 m8 new8 => ?_⟩
    have bA : Bn n 3 (alongM rs) := ⟨by rw [along_len]; exact lrn, fun r hr2 => by
      obtain ⟨i, _, rfl⟩ := List.mem_map.mp hr2
      refine ⟨by rw [alone_len]; exact lrn, fun x hx' => ?_⟩
      obtain ⟨j, _, rfl⟩ := List.mem_map.mp hx'
      by_cases e : i = j
      · rw [if_pos e]
        exact getD_lt b3r
      · rw [if_neg e]
        exact Nat.two_pow_pos 3⟩
    refine ⟨pm, p8, ps7, ps8, M7, alongM rs, n, 20, 3, rfl, m7.same s8, m8, bM, bA, n5, by decide, by decide, fun H9 r9 rs9 s9 hn9 m9 new9 => ?_⟩
    have sy9 := framed_sym (c := 3) bM lrn b3r (by omega)
    refine ⟨_, rfl, _, rfl, _, _, rfl, rfl, wide_mul (a := 2) (b := 40) (by omega) bzz (by decide) (by decide) (by decide), ?_⟩
    have s79 := s8.trans s9
    have hr9 := s79 _ _ hr7
    have w9 := w7.same s79
    obtain ⟨sn, hsn⟩ : ∃ sn : Nat, z = sn := ⟨z.toNat, by omega⟩
    refine ⟨_, rfl, Dr, rfl, ⟨_, SqL.of hr9⟩, fun Dq hDq => lc_list (K := K) (a := Dr) (xs := rs.map V.int) (fun i H' => Same H9 H' ∧ ∃ (us : List V), H' Dq = some (.lst us) ∧ us.length = i)
      ⟨same_upd hDq, [], upd_same, rfl⟩ (fun i H' _ h => SqL.of (h.1 _ _ hr9)) ?_ ?_⟩
    · rintro i x H10 hi ⟨sm, us, hu, lu⟩
      obtain ⟨z2, rfl, hm2⟩ := mem6 hi
      have hil : i < rs.length := by
        (have := (List.getElem?_eq_some_iff.mp hi).1)
        rw [List.length_map] at this
        exact this
      refine ⟨rfl, yesIf ?_⟩
      refine ⟨_, rfl, _, rfl, _, _, rfl, by omega, lt9000 (by omega) (by omega), fun H11 p11 s11 h11 => ?_⟩
      exact ⟨us, s11 _ _ hu, small1000 (by omega), same_updN (sm.trans s11) hDq, us ++ [.ref p11], upd_same, by rw [List.length_append, lu]; rfl⟩
    rintro H10 ⟨sm, us, hu, lu⟩
    refine ⟨by show 3 ≤ sizeLine; decide, fun pf hpf => ?_⟩
    have sf := same_upd (o := .tup [.ref r9, .int (z * zz), .ref Dq]) hpf
    have s9f := sm.trans sf
    refine q _ pf r9 _ Dq rs9 (framedM M7 (alongM rs)) n ((b45.trans (b6.trans b7)).trans (Same.but (s79.trans s9f))) ((w9.same s9f).mono (by omega)) upd_same (m9.same s9f) ⟨sy9.len, fun r hr2 => ⟨(sy9.row r hr2).1, fun x hx' => Nat.lt_of_lt_of_le ((sy9.row r hr2).2 x hx') (pw (by decide))⟩, sy9.sym⟩ n1 n5 (Int.mul_pos (by omega) zz0) (Nat.lt_of_lt_of_le (mulI (a := 2) (b := 40) (by omega) bzz) (pw (by decide))) ((w7.same s8).ne hn9) fun x hx => (w7.same s8).ne (new9 x hx)
abbrev s__law_even : Stmt := topS 40
abbrev N__law_even : List Str := ["cells", "size", "rows", "i", "j", "turn"]
theorem sc__law_even : FnScope N__law_even ["cells", "size"] (defScope s__law_even) := ⟨rfl, rfl, rfl, by decide +kernel, rfl, by decide +kernel, by decide +kernel⟩
theorem Mx.put {H : Hp} {p q : Addr} {ps : List Addr} {M : List (List Int)} {i j : Nat} {r : List Int} {c : Int} (h : Mx H p ps M) (hq : ps[i]? = some q) (hr : M[i]? = some r) :
    Mx (upd H q (.lst ((r.set j c).map V.int))) p ps (M.set i (r.set j c)) := by
  have hm := List.mem_of_getElem? hq
  have np : q ≠ p := fun z => h.out (z ▸ hm)
  refine ⟨by rw [upd_ne (Ne.symm np)]; exact h.at_, h.out, h.nd, by rw [List.length_set]; exact h.len, fun k q2 r2 h1 h2 => ?_⟩
  by_cases e : i = k
  · subst e
    rw [hq] at h1
    cases h1
    rw [List.getElem?_set_self (List.getElem?_eq_some_iff.mp hr).1] at h2
    cases h2
    rw [upd_same]
  · rw [List.getElem?_set_ne e] at h2
    have hne : q2 ≠ q := fun z => by
      subst z
      obtain ⟨a1, a2⟩ := List.getElem?_eq_some_iff.mp hq
      obtain ⟨b1, b2⟩ := List.getElem?_eq_some_iff.mp h1
      have pw := List.pairwise_iff_getElem.mp h.nd
      rcases Nat.lt_or_gt_of_ne e with f | f
      · exact pw i k a1 b1 f (a2.trans b2.symm)
      · exact pw k i b1 a1 f (b2.trans a2.symm)
    rw [upd_ne hne]
    exact h.row k q2 r2 h1 h2
/-- the places before (i, j), up to the slant, are alike turned over -/
def Done (M : List (List Int)) (i j : Nat) : Prop := ∀ p q, q ≤ p → (p < i ∨ (p = i ∧ q < j)) → (M.getD p []).getD q 0 = (M.getD q []).getD p 0
theorem getD_set (M : List (List Int)) (i p : Nat) (r : List Int) : (M.set i r).getD p [] = if i = p ∧ p < M.length then r else M.getD p [] := by
  rw [List.getD_eq_getElem?_getD, List.getD_eq_getElem?_getD]
  by_cases e : i = p
  · subst e
    by_cases l : i < M.length
    · rw [List.getElem?_set_self l, if_pos ⟨rfl, l⟩]
      rfl
    · rw [List.getElem?_eq_none (by rw [List.length_set]; omega), List.getElem?_eq_none (by omega), if_neg (fun z => l z.2)]
  · rw [List.getElem?_set_ne e, if_neg (fun z => e z.1)]
theorem getD_setI (r : List Int) (j q : Nat) (c : Int) : (r.set j c).getD q 0 = if j = q ∧ q < r.length then c else r.getD q 0 := by
  rw [List.getD_eq_getElem?_getD, List.getD_eq_getElem?_getD]
  by_cases e : j = q
  · subst e
    by_cases l : j < r.length
    · rw [List.getElem?_set_self l, if_pos ⟨rfl, l⟩]
      rfl
    · rw [List.getElem?_eq_none (by rw [List.length_set]; omega), List.getElem?_eq_none (by omega), if_neg (fun z => l z.2)]
  · rw [List.getElem?_set_ne e, if_neg (fun z => e z.1)]
theorem Bn.put {n b i j : Nat} {M : List (List Int)} {r : List Int} {c : Int} (h : Bn n b M) (hr : r ∈ M) (hc : c.natAbs < 2 ^ b) : Bn n b (M.set i (r.set j c)) := by
  refine ⟨by rw [List.length_set]; exact h.len, fun x hx => ?_⟩
  rcases List.mem_or_eq_of_mem_set hx with e | e
  · exact h.row x e
  · rw [e]
    refine ⟨by rw [List.length_set]; exact (h.row r hr).1, fun y hy => ?_⟩
    rcases List.mem_or_eq_of_mem_set hy with f | f
    · exact (h.row r hr).2 y f
    · rw [f]
      exact hc
def spEven : Sp := fun vs H Q _ => ∃ (p : Addr) (cs : List Int) (n b : Nat), vs = [.ref p, .int n] ∧ H p = some (.lst (cs.map V.int)) ∧ cs.length = 15 ∧ 1 ≤ n ∧ n ≤ 5 ∧ (∀ c ∈ cs, c.natAbs < 2 ^ b) ∧ ∀ H' r rs M, Same H H' → H r = none → (∀ x ∈ rs, H x = none) → Mx H' r rs M → Sy n b M → Q (.ref r) H'
theorem ok_even (T : Gs K mg) (F : At K mg "_law_even" s__law_even) : Df P w K mg base "_law_even" 1 ["cells", "size"] spEven := by
  have sc := sc__law_even
  refine Df.mk' F sc (fun vs H Q E h => ?_) (fun _ _ _ _ _ _ us hl => match us, hl with | [_, _], _ => rfl) (fun f cdv A outer s H vs Q E hr h => ?_)
  · obtain ⟨p, cs, n, b, rfl, _⟩ := h
    rfl
  · obtain ⟨p, cs, n, b, rfl, hp, l15, n1, n5, bc, q⟩ := h
    refine ⟨_, (pss_cons (ps_setLc (i := 2) (own := [("turn", 5)]) (g := gName 5) rfl sc.nd rfl rfl (sw_true rfl rfl rfl (by decide +kernel)) (pi_range1 rfl T.range (pa_cons (pv 1) pa_nil)) (blkOk_by (own := [("turn", 5)]) (N := N__law_even) (sc := defScope s__law_even) (by decide +kernel)) (fun _ _ _ _ _ => (pg_name (i := 5) sc.nd rfl (.inl rfl))) (fun _ _ _ _ _ => pts_nil) (fun _ _ _ _ _ => (pe_op op_rep (pe_lst (pa_cons pe_int pa_nil)) (pv 1)))) (pss_cons (ps_for PassesOwn.never rfl (pi_range1 rfl T.range (pa_cons (pv 1) pa_nil)) (pg_name (i := 3) sc.nd rfl (.inl rfl)) (pss_one (ps_for PassesOwn.never rfl (pi_range1 rfl T.range (pa_cons (pe_op op_add (pv 3) pe_int) pa_nil)) (pg_name (i := 4) sc.nd rfl (.inl rfl)) (pss_cons (ps_asg (pe_ix ix_list (pv 0) (pe_op op_add (pe_op op_fdiv (pe_op op_mul (pv 3) (pe_op op_add (pv 3) pe_int)) pe_int) (pv 4)) (fun _ _ => rfl)) (pg_sub (pe_ix ix_list (pv 2) (pv 3) (fun _ _ => rfl)) (pv 4) set_list)) (pss_one (ps_asg (pe_ix ix_list (pe_ix ix_list (pv 2) (pv 3) (fun _ _ => rfl)) (pv 4) (fun _ _ => rfl)) (pg_sub (pe_ix ix_list (pv 2) (pv 4) (fun _ _ => rfl)) (pv 3) set_list))))))) (pss_one (ps_ret (pv 2))))), ?_⟩
    refine ⟨_, rfl, _, rfl, by omega, by omega, fun D hD => lc_range (lo := 0) (n := _) (fun i H' => Same H H' ∧ ∃ ps, Grow H H' D ps ((List.range i).map fun _ => List.replicate n 0))
      ⟨same_upd hD, [], Grow.start hD⟩ ?_ ?_⟩
    · rintro i H1 hi ⟨sm, ps, g⟩
      refine ⟨rfl, yesIf ?_⟩
      refine ⟨by show 1 ≤ sizeLine; decide, fun p1 hp1 => ?_⟩
      have s1 : Same H1 (upd H1 p1 (.lst [.int 0])) := same_upd hp1
      refine ⟨_, rfl, p1, _, _, rfl, rfl, upd_same, by omega, by omega, Nat.le_of_lt (small1000 (by show 1 * _ ≤ 1000; omega)), fun p2 hp2 => ?_⟩
      have e : (List.replicate ((n : Int)).toNat [V.int 0]).flatten = (List.replicate n (0 : Int)).map V.int := by
        have : ∀ m : Nat, (List.replicate m [V.int 0]).flatten = (List.replicate m (0 : Int)).map V.int := fun m => by
          induction m with
          | zero => rfl
          | succ m ih => rw [List.replicate_succ, List.replicate_succ, List.flatten_cons, ih]; rfl
        exact this n
      rw [e]
      have s2 : Same (upd H1 p1 (.lst [.int 0])) (upd (upd H1 p1 (.lst [.int 0])) p2 (.lst ((List.replicate n (0 : Int)).map V.int))) := same_upd hp2
      have hp2' : H1 p2 = none := by
        cases e : H1 p2 with
        | none => rfl
        | some o =>
          have := s1 _ _ e
          rw [hp2] at this
          cases this
      have s12 := s1.trans s2
      refine ⟨_, s12 _ _ g.mx.at_, small1000 (by rw [List.length_map, g.mx.len, List.length_map, List.length_range]; omega), same_updN (sm.trans s12) hD, ps ++ [p2], ?_⟩
      rw [List.range_succ, List.map_append]
      exact g.snoc (fun b o e => s12 b o e) (fun b o _ e => sm b o e) hp2' upd_same hD
    rintro H1 ⟨sm, ps, g⟩
    have en : ((n : Int)).toNat = n := by omega
    rw [en] at g
    have bn0 : Bn n b ((List.range n).map fun _ => List.replicate n 0) := ⟨by simp, fun r hr2 => by
      obtain ⟨_, _, rfl⟩ := List.mem_map.mp hr2
      refine ⟨by simp, fun x hx => ?_⟩
      rw [(List.mem_replicate.mp hx).2]
      exact Nat.two_pow_pos b⟩
    have newp := g.new
    have mx0 := g.mx
    generalize ((List.range n).map fun _ => List.replicate n (0 : Int)) = M0 at mx0 bn0
    clear g
    have keep : ∀ {H2 : Hp} {x : Addr} {o : HO}, Same H H2 → H x = none → Same H (upd H2 x o) := fun s e => same_updN s e
    refine ⟨_, rfl, _, rfl, by omega, by omega, for_range (lo := 0) (n := _) (fun i σ H' => ∃ (y3 y4 : Option V) (M : List (List Int)), σ = [some (.ref p), some (.int n), some (.ref D), y3, y4, none] ∧ Same H H' ∧ Mx H' D ps M ∧ Bn n b M ∧ Done M i 0)
      ⟨_, _, M0, rfl, sm, mx0, bn0, fun p q h1 h2 => by omega⟩ ?_ ?_⟩
    · rintro i σ H2 hi ⟨y3, y4, M, rfl, sm2, mx, bn, dn⟩
      have hi' : i < n := by omega
      refine ⟨_, rfl, _, _, rfl, rfl, _, rfl, by omega, by omega, for_range (lo := 0) (n := _) (fun j σ H' => ∃ (y4 : Option V) (M : List (List Int)), σ = [some (.ref p), some (.int n), some (.ref D), some (.int ((0 : Int) + (i : Int))), y4, none] ∧ Same H H' ∧ Mx H' D ps M ∧ Bn n b M ∧ Done M i j)
        ⟨_, M, rfl, sm2, mx, bn, dn⟩ ?_ ?_⟩
      · rintro j σ H3 hj ⟨y4, M, rfl, sm3, mx, bn, dn⟩
        have hj' : j ≤ i := by omega
        have hps : ps.length = n := by rw [mx.len, bn.len]
        have hil : i < ps.length := by omega
        have hjl : j < ps.length := by omega
        have hiM : i < M.length := by rw [bn.len]; omega
        have hjM : j < M.length := by rw [bn.len]; omega
        have hix : 0 ≤ ((0 : Int) + (i : Int)) * ((0 : Int) + (i : Int) + 1) / 2 + ((0 : Int) + (j : Int)) ∧ ((0 : Int) + (i : Int)) * ((0 : Int) + (i : Int) + 1) / 2 + ((0 : Int) + (j : Int)) < 15 := by
          have : i < 5 := by omega
          have h5 : i = 0 ∨ i = 1 ∨ i = 2 ∨ i = 3 ∨ i = 4 := by omega
          rcases h5 with rfl | rfl | rfl | rfl | rfl <;> omega
        obtain ⟨kx, hkx⟩ : ∃ kx : Nat, ((0 : Int) + (i : Int)) * ((0 : Int) + (i : Int) + 1) / 2 + ((0 : Int) + (j : Int)) = kx := ⟨(((0 : Int) + (i : Int)) * ((0 : Int) + (i : Int) + 1) / 2 + ((0 : Int) + (j : Int))).toNat, by omega⟩
        have hk15 : kx < cs.length := by omega
        obtain ⟨c, hc⟩ : ∃ c, c = cs[kx] := ⟨_, rfl⟩
        have hcb : c.natAbs < 2 ^ b := by
          rw [hc]
          exact bc _ (List.getElem_mem hk15)
        have psr : ∀ {k : Nat}, k < ps.length → (ps.map V.ref)[k]? = some (.ref (ps.getD k 0)) ∧ ps[k]? = some (ps.getD k 0) := fun {k} hk => by
          have e : ps.getD k 0 = ps[k] := by
            rw [List.getD_eq_getElem?_getD, List.getElem?_eq_getElem hk]
            rfl
          rw [List.getElem?_map, List.getElem?_eq_getElem hk, e]
          exact ⟨rfl, rfl⟩
        have rowAt : ∀ {M : List (List Int)} {k : Nat}, k < M.length → M[k]? = some (M.getD k []) ∧ M.getD k [] ∈ M := fun {M k} hk => by
          have e : M.getD k [] = M[k] := by
            rw [List.getD_eq_getElem?_getD, List.getElem?_eq_getElem hk]
            rfl
          rw [e]
          exact ⟨List.getElem?_eq_getElem hk, List.getElem_mem hk⟩
        have ri := rowAt hiM
        have wi := (bn.row _ ri.2).1
        have hqi := mx.row i _ _ (psr hil).2 ri.1
        -- rows[i][j] = c
        refine ⟨_, rfl, _, rfl, _, rfl, _, _, rfl, rfl, _, _, rfl, rfl, Or.inr (by omega), _, _, rfl, rfl, ⟨by decide, by decide⟩, ?_⟩
        refine ⟨_, rfl, _, _, rfl, rfl, p, _, _, .int c, rfl, rfl, SqL.of (sm3 _ _ hp), at_of hkx (by rw [List.getElem?_map, List.getElem?_eq_getElem hk15, hc]; rfl), ?_⟩
        refine ⟨_, rfl, _, rfl, D, _, _, _, rfl, rfl, SqL.of mx.at_, at_of (Int.zero_add _) (psr hil).1, ?_⟩
        refine ⟨_, rfl, _, _, _, j, rfl, rfl, hqi, ixNat (Int.zero_add _) (by rw [List.length_map]; omega), ?_⟩
        rw [← List.map_set]
        have mx1 := mx.put (j := j) (c := c) (psr hil).2 ri.1
        have bn1 := bn.put (i := i) (j := j) ri.2 hcb
        have ni : H (ps.getD i 0) = none := newp _ (List.mem_of_getElem? (psr hil).2)
        have s4 := keep (o := .lst (((M.getD i []).set j c).map V.int)) sm3 ni
        obtain ⟨M1, hM1⟩ : ∃ M1, M1 = M.set i ((M.getD i []).set j c) := ⟨_, rfl⟩
        rw [← hM1] at mx1 bn1
        have hiM1 : i < M1.length := by rw [bn1.len]; omega
        have hjM1 : j < M1.length := by rw [bn1.len]; omega
        have ri1 := rowAt hiM1
        have wi1 := (bn1.row _ ri1.2).1
        have rj1 := rowAt hjM1
        have wj1 := (bn1.row _ rj1.2).1
        have hqi1 := mx1.row i _ _ (psr hil).2 ri1.1
        have hqj1 := mx1.row j _ _ (psr hjl).2 rj1.1
        have ev : (M1.getD i []).getD j 0 = c := by
          rw [hM1, getD_set, if_pos ⟨rfl, hiM⟩, getD_setI, if_pos ⟨rfl, by omega⟩]
        have av : atI ((M1.getD i []).map V.int) ((0 : Int) + (j : Int)) = some (.int c) := by
          refine at_of (Int.zero_add _) ?_
          rw [List.getElem?_map, List.getElem?_eq_getElem (by omega), ← ev]
          show some (V.int (M1.getD i [])[j]) = _
          rw [getD_of (by omega)]
        refine ⟨_, rfl, _, rfl, D, _, _, _, rfl, rfl, SqL.of mx1.at_, at_of (Int.zero_add _) (psr hil).1, ?_⟩
        refine ⟨_, rfl, _, _, _, _, rfl, rfl, SqL.of hqi1, av, ?_⟩
        refine ⟨_, rfl, _, rfl, D, _, _, _, rfl, rfl, SqL.of mx1.at_, at_of (Int.zero_add _) (psr hjl).1, ?_⟩
        refine ⟨_, rfl, _, _, _, i, rfl, rfl, hqj1, ixNat (Int.zero_add _) (by rw [List.length_map]; omega), ?_⟩
        rw [← List.map_set]
        have nj : H (ps.getD j 0) = none := newp _ (List.mem_of_getElem? (psr hjl).2)
        refine ⟨_, _, rfl, keep s4 nj, mx1.put (j := i) (c := c) (psr hjl).2 rj1.1, bn1.put (i := j) (j := i) rj1.2 hcb, fun p q h1 h2 => ?_⟩
        have hp' : p < n := by omega
        have hq' : q < n := by omega
        have val : ∀ x y, x < n → y < n → ((M1.set j ((M1.getD j []).set i c)).getD x []).getD y 0 = if (x = j ∧ y = i) ∨ (x = i ∧ y = j) then c else (M.getD x []).getD y 0 := fun x y hx hy => by
          have row1 : ∀ x y, x < n → y < n → (M1.getD x []).getD y 0 = if x = i ∧ y = j then c else (M.getD x []).getD y 0 := fun x y hx hy => by
            rw [hM1, getD_set]
            by_cases e : i = x
            · subst e
              rw [if_pos ⟨rfl, hiM⟩, getD_setI]
              by_cases f : j = y
              · rw [if_pos ⟨f, by omega⟩, if_pos ⟨rfl, f.symm⟩]
              · rw [if_neg (fun z => f z.1), if_neg (fun z => f z.2.symm)]
            · rw [if_neg (fun z => e z.1), if_neg (fun z => e z.1.symm)]
          rw [getD_set]
          by_cases e : j = x
          · subst e
            rw [if_pos ⟨rfl, hjM1⟩, getD_setI]
            by_cases f : i = y
            · rw [if_pos ⟨f, by omega⟩, if_pos (.inl ⟨rfl, f.symm⟩)]
            · rw [if_neg (fun z => f z.1), row1 j y hx hy]
              by_cases g : j = i ∧ y = j
              · rw [if_pos g, if_pos (.inr g)]
              · rw [if_neg g, if_neg (fun z => z.elim (fun u => f u.2.symm) g)]
          · rw [if_neg (fun z => e z.1), row1 x y hx hy]
            by_cases g : x = i ∧ y = j
            · rw [if_pos g, if_pos (.inr g)]
            · rw [if_neg g, if_neg (fun z => z.elim (fun u => e u.1.symm) g)]
        rw [val p q hp' hq', val q p hq' hp']
        by_cases g : (p = j ∧ q = i) ∨ (p = i ∧ q = j)
        · rw [if_pos g, if_pos (g.elim (fun u => .inr ⟨u.2, u.1⟩) (fun u => .inl ⟨u.2, u.1⟩))]
        · rw [if_neg g, if_neg (fun z => g (z.elim (fun u => .inr ⟨u.2, u.1⟩) (fun u => .inl ⟨u.2, u.1⟩)))]
          refine dn p q h1 ?_
          rcases h2 with h2 | h2
          · exact .inl h2
          · refine .inr ⟨h2.1, ?_⟩
            have : q ≠ j := fun z => g (.inr ⟨h2.1, z⟩)
            omega
      · rintro σ H3 ⟨y4, M, rfl, sm3, mx, bn, dn⟩
        refine ⟨_, _, M, rfl, sm3, mx, bn, fun p q h1 h2 => dn p q h1 ?_⟩
        omega
    · rintro σ H2 ⟨y3, y4, M, rfl, sm2, mx, bn, dn⟩
      refine ⟨_, rfl, q H2 D ps M sm2 hD newp mx ⟨bn.len, bn.row, fun i j hi hj => ?_⟩⟩
      by_cases c : j ≤ i
      · exact dn i j c (.inl (by omega))
      · exact (dn j i (by omega) (.inl (by omega))).symm
end
end V3
set_option maxHeartbeats 4100000
namespace V3
open PySem.Spec PySem L2 PyProof.Rows RZ GxR
def rTupOf (K : PySem.W.Frag) : List V → Hp → VK → Prop := fun xs H Q => ∃ p ys, xs = [.ref p] ∧ ((SqL K H p ys ∧ ∀ l : Addr, H l = none → Q (.ref l) (upd H l (.tup ys))) ∨ (SqT K H p ys ∧ Q (.ref p) H))
theorem call_tuple_ofK {X : Cx} {K : PySem.W.Frag} (h : X.K = K) : CallR X (.type "tuple") (rTupOf K) := by
  subst h
  exact call_tuple_of
end V3
set_option maxHeartbeats 8000000
namespace V3
open PySem.Spec PySem L2 PyProof.Rows RZ GxR
/-- the told table as data -/
def rowP (z : Int) (r : List Int) : PyData := .tuple (r.map fun c => frd (Rat.divInt c z))
def toldP (M : List (List Int)) (z : Int) : PyData := .tuple (M.map (rowP z))
section
variable {mg : Str → Option Value} {base : Heap} {K : PySem.W.Frag} {P : Program} {w : World}
abbrev s__law_told : Stmt := topS 43
abbrev N__law_told : List Str := ["rows", "scale", "row", "cell"]
theorem sc__law_told : FnScope N__law_told ["rows", "scale"] (defScope s__law_told) := ⟨rfl, rfl, rfl, by decide +kernel, rfl, by decide +kernel, by decide +kernel⟩
def spTold (K : PySem.W.Frag) : Sp := fun vs H Q _ => ∃ (pr : Addr) (ps : List Addr) (M : List (List Int)) (z : Int), vs = [.ref pr, .int z] ∧ Mx H pr ps M ∧ M.length ≤ 8 ∧ (∀ r ∈ M, r.length ≤ 8) ∧ 0 < z ∧ z.natAbs < 2 ^ 9000 ∧ ∀ H' l, Same H H' → DpT K H' (.ref l) (toldP M z) → Q (.ref l) H'
theorem ok_told (T : Gs K mg) (D__law_lowest : Df P w K mg base "_law_lowest" 2 ["upper", "lower"] spFrac) (F : At K mg "_law_told" s__law_told) : Df P w K mg base "_law_told" 3 ["rows", "scale"] (spTold K) := by
  have sc := sc__law_told
  refine Df.mk' F sc (fun vs H Q E h => ?_) (fun _ _ _ _ _ _ us hl => match us, hl with | [_, _], _ => rfl) (fun f cdv A outer s H vs Q E hr h => ?_)
  · obtain ⟨pr, ps, M, z, rfl, _⟩ := h
    rfl
  · obtain ⟨pr, ps, M, z, rfl, mx, m8, r8, z0, zb, q⟩ := h
    refine ⟨_, (pss_one (ps_ret (pe_callTy call_tuple_of (by rfl) T.tuple_ (by decide +kernel) (pa_cons (pe_lc (own := [("row", 2)]) (g := gName 2) rfl sc.nd (pi_list (pv 0)) (blkOk_by (own := [("row", 2)]) (N := N__law_told) (sc := defScope s__law_told) (by decide +kernel)) (fun _ _ _ _ _ => (pg_name (i := 2) sc.nd rfl (.inl rfl))) (fun _ _ _ _ _ => pts_nil) (fun _ _ _ _ _ => (pe_callTy (call_tuple_ofK (K := K) rfl) (by rfl) T.tuple_ (by decide +kernel) (pa_cons (pe_lc (own := [("cell", 3)]) (g := gName 3) rfl sc.nd (pi_listK (K := K) rfl (pv 2)) (blkOk_by (own := [("cell", 3)]) (N := N__law_told) (sc := ({ kind := .function, names := [(".0", .local), ("row", .local), ("tuple", .globalImplicit), ("scale", .cell)], isGenerator := false, isCoroutine := false } : Scope)) (by decide +kernel)) (fun _ _ _ _ _ => (pg_name (i := 3) sc.nd rfl (.inl rfl))) (fun _ _ _ _ _ => pts_nil) (fun _ _ _ _ _ => (pe_fn D__law_lowest (by decide) hr (pa_cons (pv 3) (pa_cons (pv 1) pa_nil))))) pa_nil)))) pa_nil)))), ?_⟩
    have lps : (ps.map V.ref).length = M.length := by rw [List.length_map, mx.len]
    refine ⟨_, rfl, pr, rfl, ⟨_, SqL.of mx.at_⟩, fun D hD => lc_list (K := K) (a := pr) (xs := ps.map V.ref) (fun i H' => Same H H' ∧ ∃ zs, H' D = some (.lst zs) ∧ DpTAll K H' zs ((M.take i).map (rowP z)))
      ⟨same_upd hD, [], upd_same, .nil⟩ (fun i H' _ h => SqL.of (h.1 _ _ mx.at_)) ?_ ?_⟩
    · rintro i x H1 hi ⟨sm, zs, hz, az⟩
      obtain ⟨qw, r, rfl, hqi, hwi, hqw⟩ := mxRow mx hi
      have hil : i < M.length := (List.getElem?_eq_some_iff.mp hwi).1
      have mr := r8 r (List.mem_of_getElem? hwi)
      have lz : zs.length ≤ 8 := by
        rw [dtAll_len az, List.length_map, List.length_take]
        omega
      refine ⟨rfl, yesIf ?_⟩
      refine ⟨_, rfl, qw, rfl, ⟨_, SqL.of (sm _ _ hqw)⟩, fun D2 hD2 => lc_list (K := K) (a := qw) (xs := r.map V.int) (fun j H' => Same H1 H' ∧ ∃ ys, H' D2 = some (.lst ys) ∧ DpTAll K H' ys ((r.take j).map fun c => frd (Rat.divInt c z)))
        ⟨same_upd hD2, [], upd_same, .nil⟩ (fun j H' _ h => SqL.of (h.1 _ _ (sm _ _ hqw))) ?_ ?_⟩
      · rintro j y H2 hj ⟨sm2, ys, hy, ay⟩
        rw [List.getElem?_map] at hj
        obtain ⟨c, hc, rfl⟩ := Option.map_eq_some_iff.mp hj
        have hjl : j < r.length := (List.getElem?_eq_some_iff.mp hc).1
        refine ⟨rfl, yesIf ?_⟩
        refine ⟨_, rfl, _, rfl, c, z, rfl, z0, zb, fun H3 p3 s3 h3 => ?_⟩
        have ly : ys.length ≤ 8 := by
          rw [dtAll_len ay, List.length_map, List.length_take]
          omega
        have hy3 := s3 _ _ hy
        refine ⟨ys, hy3, small1000 (by omega), same_updN (sm2.trans s3) hD2, ys ++ [.ref p3], upd_same, ?_⟩
        rw [take_more hc, List.map_append]
        exact dtAll_app ((ay.keep (Same.kt s3)).keep (kt_lst hy3)) (.cons (DpT.keep (kt_lst hy3) (fqO h3)) .nil)
      · rintro H2 ⟨sm2, ys, hy, ay⟩
        have e : r.take (r.map V.int).length = r := by rw [List.length_map, List.take_length]
        rw [e] at ay
        refine ⟨D2, ys, rfl, .inl ⟨SqL.of hy, fun l hl => ?_⟩⟩
        have s3 : Same H2 (upd H2 l (.tup ys)) := same_upd hl
        have hz3 := s3 _ _ (sm2 _ _ hz)
        refine ⟨zs, hz3, small1000 (by omega), same_updN ((sm.trans sm2).trans s3) hD, zs ++ [.ref l], upd_same, ?_⟩
        rw [take_more hwi, List.map_append]
        have dl : DpT K (upd H2 l (.tup ys)) (.ref l) (rowP z r) := .tup (SqT.of upd_same) (ay.keep (Same.kt s3))
        exact dtAll_app ((az.keep (Same.kt (sm2.trans s3))).keep (kt_lst hz3)) (.cons (DpT.keep (kt_lst hz3) dl) .nil)
    · rintro H1 ⟨sm, zs, hz, az⟩
      have e : M.take (ps.map V.ref).length = M := by rw [lps, List.take_length]
      rw [e] at az
      refine ⟨D, zs, rfl, .inl ⟨SqL.of hz, fun l hl => ?_⟩⟩
      have s3 : Same H1 (upd H1 l (.tup zs)) := same_upd hl
      exact q _ l (sm.trans s3) (.tup (SqT.of upd_same) (az.keep (Same.kt s3)))
end
end V3
namespace V3
open PySem.Spec PySem L2 PyProof.Rows RZ GxR
def addM (n : Nat) (M : List (List Int)) (by' : Int) (e : List Int) : List (List Int) := (List.range n).map fun i => (List.range n).map fun j => (M.getD i []).getD j 0 + by' * e.getD i 0 * e.getD j 0
theorem range_get {β : Type} (f : Nat → β) (b0 : β) {n i : Nat} (h : i < n) : ((List.range n).map f).getD i b0 = f i := getD_range f b0 h
theorem addM_sy {n b : Nat} {M : List (List Int)} {e : List Int} {y : Int} (h : Sy n b M) (he : e.length = n) : (addM n M y e).length = n ∧ (∀ r ∈ addM n M y e, r.length = n) ∧ ∀ i j, i < n → j < n → ((addM n M y e).getD i []).getD j 0 = ((addM n M y e).getD j []).getD i 0 := by
  refine ⟨by simp [addM], fun r hr => ?_, fun i j hi hj => ?_⟩
  · obtain ⟨i, _, rfl⟩ := List.mem_map.mp hr
    simp
  · unfold addM
    rw [range_get _ _ hi, range_get _ _ hj, range_get _ _ hj, range_get _ _ hi, h.sym i j hi hj]
    grind
theorem getMx {M : List (List Int)} {n i : Nat} (h : M.length = n) (hi : i < n) : M[i]? = some (M.getD i []) ∧ M.getD i [] ∈ M := by
  have hl : i < M.length := by omega
  have e : M.getD i [] = M[i] := by
    rw [List.getD_eq_getElem?_getD, List.getElem?_eq_getElem hl]
    rfl
  rw [e]
  exact ⟨List.getElem?_eq_getElem hl, List.getElem_mem hl⟩
theorem Mx.but {a p : Addr} {H H' : Hp} {ps : List Addr} {M : List (List Int)} {k : Nat} (h : Mx H p ps M) (b : But a H H') (n : a ≠ p) (w : Well H a k) (m : ∀ x ∈ ps, a ≠ x) : Mx H' p ps M :=
  ⟨b _ _ (Ne.symm n) h.at_, h.out, h.nd, h.len, fun i q r h1 h2 => b _ _ (Ne.symm (m q (List.mem_of_getElem? h1))) (h.row i q r h1 h2)⟩
section
variable {mg : Str → Option Value} {base : Heap} {K : PySem.W.Frag} {P : Program} {w : World}
abbrev s__law_world : Stmt := topS 46
abbrev N__law_world : List Str := ["well", "way", "size", "cells", "rows", "turn", "by", "eye", "i", "place", "j"]
theorem sc__law_world : FnScope N__law_world ["well"] (defScope s__law_world) := ⟨rfl, rfl, rfl, by decide +kernel, rfl, by decide +kernel, by decide +kernel⟩
def spWorld : Sp := fun vs H Q _ => ∃ (a : Addr) (k : Nat), vs = [.ref a] ∧ Well H a k ∧ k ≤ 700000 ∧
  ∀ H' p r1 z pr (rs : List Addr) (M : List (List Int)) (n : Nat), But a H H' → Well H' a (k + 60) → H' p = some (.tup [.ref r1, .int z, .ref pr]) → Mx H' r1 rs M → Sy n 90 M → 1 ≤ n → n ≤ 5 → 0 < z → z.natAbs < 2 ^ 60 → a ≠ r1 → (∀ x ∈ rs, a ≠ x) → Q (.ref p) H'
theorem ok_world (T : Gs K mg) (D__law_draw : Df P w K mg base "_law_draw" 1 ["well", "size"] spDraw) (D__law_pick : Df P w K mg base "_law_pick" 2 ["well", "some"] (spPick K)) (D__law_plant : Df P w K mg base "_law_plant" 4 ["well"] spPlant)
    (D__law_even : Df P w K mg base "_law_even" 1 ["cells", "size"] spEven) (F : At K mg "_law_world" s__law_world) : Df P w K mg base "_law_world" 5 ["well"] spWorld := by
  have sc := sc__law_world
  refine Df.mk' F sc (fun vs H Q E h => ?_) (fun _ _ _ _ _ _ us hl => match us, hl with | [_], _ => rfl) (fun f cdv A outer s H vs Q E hr h => ?_)
  · obtain ⟨a, k, rfl, _⟩ := h
    rfl
  · obtain ⟨a, k, rfl, hw, kl, q⟩ := h
    refine ⟨_, (pss_cons (ps_set (i := 1) sc.nd rfl (.inr rfl) (pe_fn D__law_draw (by decide) hr (pa_cons (pv 0) (pa_cons pe_int pa_nil)))) (pss_cons (ps_if (pt_cmpR op_lt (pv 1) pe_int (nomark _)) (pss_one (ps_ret (pe_fn D__law_plant (by decide) hr (pa_cons (pv 0) pa_nil)))) pss_nil) (pss_cons (ps_set (i := 2) sc.nd rfl (.inr rfl) (pe_op op_add pe_int (pe_fn D__law_draw (by decide) hr (pa_cons (pv 0) (pa_cons pe_int pa_nil))))) (pss_cons (ps_if (pt_cmpR op_eq (pv 1) pe_int (nomark _)) (pss_cons (ps_set (i := 4) sc.nd rfl (.inr rfl) (pe_fn D__law_even (by decide) hr (pa_cons (pe_op op_rep (pe_lst (pa_cons pe_int pa_nil)) pe_int) (pa_cons (pv 2) pa_nil)))) (pss_cons (ps_for PassesOwn.never rfl (pi_range1 rfl T.range (pa_cons (pe_fn D__law_draw (by decide) hr (pa_cons (pv 0) (pa_cons (pe_op op_add (pv 2) pe_int) pa_nil))) pa_nil)) (pg_name (i := 5) sc.nd rfl (.inl rfl)) (pss_cons (ps_asg (pe_tup (pa_cons (pe_lc (own := [("place", 9)]) (g := gName 9) rfl sc.nd (pi_range1 rfl T.range (pa_cons (pv 2) pa_nil)) (blkOk_by (own := [("place", 9)]) (N := N__law_world) (sc := defScope s__law_world) (by decide +kernel)) (fun _ _ _ _ _ => (pg_name (i := 9) sc.nd rfl (.inl rfl))) (fun _ _ _ _ _ => pts_nil) (fun _ _ _ _ _ => (pe_op op_sub (pe_fn D__law_draw (by decide) hr (pa_cons (pv 0) (pa_cons pe_int pa_nil))) pe_int))) (pa_cons (pe_fn D__law_pick (by decide) hr (pa_cons (pv 0) (pa_cons (pe_lst (pa_cons pe_int (pa_cons pe_int (pa_cons (pe_un un_neg pe_int) pa_nil)))) pa_nil))) pa_nil))) (pg_tup rfl (pgs_cons (pg_name (i := 7) sc.nd rfl (.inr rfl)) (pgs_cons (pg_name (i := 6) sc.nd rfl (.inr rfl)) pgs_nil)))) (pss_one (ps_set (i := 4) sc.nd rfl (.inr rfl) (pe_lc (own := [("i", 8)]) (g := gName 8) rfl sc.nd (pi_range1 rfl T.range (pa_cons (pv 2) pa_nil)) (blkOk_by (own := [("i", 8)]) (N := N__law_world) (sc := defScope s__law_world) (by decide +kernel)) (fun _ _ _ _ _ => (pg_name (i := 8) sc.nd rfl (.inr rfl))) (fun _ _ _ _ _ => pts_nil) (fun _ _ _ _ _ => (pe_lc (own := [("j", 10)]) (g := gName 10) rfl sc.nd (pi_range1 rfl T.range (pa_cons (pv 2) pa_nil)) (blkOk_by (own := [("j", 10)]) (N := N__law_world) (sc := ({ kind := .function, names := [(".0", .local), ("i", .cell), ("range", .globalImplicit), ("by", .cell), ("eye", .cell), ("rows", .cell), ("size", .cell)], isGenerator := false, isCoroutine := false } : Scope)) (by decide +kernel)) (fun _ _ _ _ _ => (pg_name (i := 10) sc.nd rfl (.inl rfl))) (fun _ _ _ _ _ => pts_nil) (fun _ _ _ _ _ => (pe_op op_add (pe_ix (ixLK (K := K) rfl) (pe_ix (ixLK (K := K) rfl) (pv 4) (pv 8) (fun _ _ => rfl)) (pv 10) (fun _ _ => rfl)) (pe_op op_mul (pe_op op_mul (pv 6) (pe_ix (ixLK (K := K) rfl) (pv 7) (pv 8) (fun _ _ => rfl))) (pe_ix (ixLK (K := K) rfl) (pv 7) (pv 10) (fun _ _ => rfl)))))))))))) (pss_one (ps_ret (pe_tup (pa_cons (pv 4) (pa_cons (pe_fn D__law_pick (by decide) hr (pa_cons (pv 0) (pa_cons (pe_lst (pa_cons pe_int (pa_cons pe_int (pa_cons pe_int (pa_cons pe_int pa_nil))))) pa_nil))) (pa_cons (pe_lst pa_nil) pa_nil)))))))) pss_nil) (pss_cons (ps_if (pt_cmpR op_eq (pv 1) pe_int (nomark _)) (pss_cons (ps_set (i := 6) sc.nd rfl (.inr rfl) (pe_fn D__law_pick (by decide) hr (pa_cons (pv 0) (pa_cons (pe_lst (pa_cons pe_int (pa_cons pe_int (pa_cons pe_int (pa_cons (pe_op op_pow pe_int pe_int) pa_nil))))) pa_nil)))) (pss_cons (ps_setLc (i := 3) (own := [("turn", 5)]) (g := gName 5) rfl sc.nd rfl rfl (sw_true rfl rfl rfl (by decide +kernel)) (pi_range1 rfl T.range (pa_cons pe_int pa_nil)) (blkOk_by (own := [("turn", 5)]) (N := N__law_world) (sc := defScope s__law_world) (by decide +kernel)) (fun _ _ _ _ _ => (pg_name (i := 5) sc.nd rfl (.inl rfl))) (fun _ _ _ _ _ => pts_nil) (fun _ _ _ _ _ => (pe_op op_mul (pe_op op_sub (pe_fn D__law_draw (by decide) hr (pa_cons (pv 0) (pa_cons pe_int pa_nil))) pe_int) (pv 6)))) (pss_one (ps_ret (pe_tup (pa_cons (pe_fn D__law_even (by decide) hr (pa_cons (pv 3) (pa_cons (pv 2) pa_nil))) (pa_cons (pe_op op_add pe_int (pe_fn D__law_draw (by decide) hr (pa_cons (pv 0) (pa_cons pe_int pa_nil)))) (pa_cons (pe_lst pa_nil) pa_nil)))))))) pss_nil) (pss_cons (ps_setLc (i := 3) (own := [("turn", 5)]) (g := gName 5) rfl sc.nd rfl rfl (sw_true rfl rfl rfl (by decide +kernel)) (pi_range1 rfl T.range (pa_cons pe_int pa_nil)) (blkOk_by (own := [("turn", 5)]) (N := N__law_world) (sc := defScope s__law_world) (by decide +kernel)) (fun _ _ _ _ _ => (pg_name (i := 5) sc.nd rfl (.inl rfl))) (fun _ _ _ _ _ => pts_nil) (fun _ _ _ _ _ => (pe_fn D__law_pick (by decide) hr (pa_cons (pv 0) (pa_cons (pe_ix (ixLK (K := K) rfl) (pe_lst (pa_cons (pe_lst (pa_cons pe_int (pa_cons pe_int (pa_cons pe_int (pa_cons (pe_un un_neg pe_int) (pa_cons pe_int pa_nil)))))) (pa_cons (pe_lst (pa_cons pe_int (pa_cons pe_int (pa_cons (pe_un un_neg pe_int) (pa_cons pe_int (pa_cons (pe_un un_neg pe_int) (pa_cons pe_int pa_nil))))))) pa_nil))) (pe_op op_sub (pv 1) pe_int) (fun _ _ => rfl)) pa_nil))))) (pss_one (ps_ret (pe_tup (pa_cons (pe_fn D__law_even (by decide) hr (pa_cons (pv 3) (pa_cons (pv 2) pa_nil))) (pa_cons (pe_fn D__law_pick (by decide) hr (pa_cons (pv 0) (pa_cons (pe_lst (pa_cons pe_int (pa_cons pe_int (pa_cons pe_int (pa_cons pe_int (pa_cons pe_int pa_nil)))))) pa_nil))) (pa_cons (pe_lst pa_nil) pa_nil)))))))))))), ?_⟩
    refine ⟨_, rfl, a, _, k, rfl, hw, by omega, by decide, by decide, fun H1 way b1 w1 wy0 wyl => ?_⟩
    refine ⟨_, rfl, _, _, rfl, rfl, _, rfl, if2 (fun e => ?_) (fun e => ?_)⟩
    · refine ⟨_, rfl, a, k + 1, rfl, w1, by omega, fun H2 p r1 z pr rs M n b2 w2 h2 mx sy n1 n5 z0 zb ne1 nrs1 => ?_⟩
      exact q H2 p r1 z pr rs M n (b1.trans b2) (w2.mono (by omega)) h2 mx sy n1 n5 z0 zb ne1 nrs1
    have way2 : 2 ≤ way := by
      have := of_decide_eq_false e
      omega
    refine ⟨_, rfl, a, _, k + 1, rfl, w1, by omega, by decide, by decide, fun H2 d2 b2 w2 d20 d2l => ?_⟩
    refine ⟨_, _, rfl, rfl, ?_⟩
    obtain ⟨n, hn⟩ : ∃ n : Nat, (1 : Int) + d2 = n := ⟨(1 + d2).toNat, by omega⟩
    have n1 : 1 ≤ n := by omega
    have n5 : n ≤ 5 := by omega
    have b12 := b1.trans b2
    have w2 := w2.mono (show k + 1 + 1 ≤ k + 2 by omega)
    -- what is behind a list of fifteen numbers
    have ending : ∀ (H3 : Hp) (k3 : Nat) (r : Addr) (rs : List Addr) (M : List (List Int)) (b : Nat) (H4 : Hp), But a H H3 → Well H3 a k3 → k3 ≤ k + 58 → Same H3 H4 → H3 r = none → (∀ x ∈ rs, H3 x = none) → Mx H4 r rs M → Sy n b M → b ≤ 90 →
        Well H4 a k3 ∧ a ≠ r ∧ (∀ x ∈ rs, a ≠ x) ∧ Sy n 90 M := fun H3 k3 r rs M b H4 b3 w3 kk s34 nr nrs mx sy hb =>
      ⟨w3.same s34, w3.ne nr, fun x hx => w3.ne (nrs x hx), ⟨sy.len, fun r hr => ⟨(sy.row r hr).1, fun x hx => Nat.lt_of_lt_of_le ((sy.row r hr).2 x hx) (pw hb)⟩, sy.sym⟩⟩
    refine ⟨_, rfl, rfl, _, rfl, if2 (fun e2 => ?_) (fun e2 => ?_)⟩
    · -- some eyes
      refine ⟨by show 1 ≤ sizeLine; decide, fun p1 hp1 => ?_⟩
      have s1 : Same H2 (upd H2 p1 (.lst [.int 0])) := same_upd hp1
      refine ⟨p1, _, _, rfl, rfl, upd_same, by decide, by decide, by show 1 * 15 ≤ sizeLine; decide, fun p2 hp2 => ?_⟩
      have e15 : (List.replicate ((15 : Int)).toNat [V.int 0]).flatten = (List.replicate 15 (0 : Int)).map V.int := rfl
      rw [e15]
      have s2 : Same (upd H2 p1 (.lst [.int 0])) (upd (upd H2 p1 (.lst [.int 0])) p2 (.lst ((List.replicate 15 (0 : Int)).map V.int))) := same_upd hp2
      have s12 := s1.trans s2
      refine ⟨_, rfl, p2, List.replicate 15 0, n, 8, by show [V.ref p2, V.int (1 + d2)] = _; rw [hn], upd_same, rfl, n1, n5, fun c hc => by rw [(List.mem_replicate.mp hc).2]; decide, fun H4 r rs M s4 nr nrs mx sy => ?_⟩
      have s24 := s12.trans s4
      have w4 := w2.same s24
      have nr2 : a ≠ r := (w2.same s12).ne nr
      have nrs2 : ∀ x ∈ rs, a ≠ x := fun x hx => (w2.same s12).ne (nrs x hx)
      refine ⟨_, rfl, _, rfl, _, _, rfl, rfl, a, _, k + 2, rfl, w4, by omega, by omega, by omega, fun H5 d5 b5 w5 d50 d5l => ?_⟩
      refine ⟨_, rfl, by omega, by omega, for_range (lo := 0) (n := _) (fun i σ H' => ∃ (y3 y5 y6 y7 y8 y9 y10 : Option V) (r : Addr) (rs : List Addr) (M : List (List Int)), σ = [some (.ref a), some (.int way), some (.int (1 + d2)), y3, some (.ref r), y5, y6, y7, y8, y9, y10] ∧ But a H2 H' ∧ Well H' a (k + 3 + 6 * i) ∧
          Mx H' r rs M ∧ Sy n (8 + i) M ∧ a ≠ r ∧ ∀ x ∈ rs, a ≠ x)
        ⟨_, _, _, _, _, _, _, r, rs, M, rfl, (Same.but s24).trans b5, w5, (mx.but b5 nr2 w4 nrs2), sy, nr2, nrs2⟩ ?_ ?_⟩
      · rintro i σ H6 hi ⟨y3, y5, y6, y7, y8, y9, y10, r, rs, M, rfl, b6, w6, mx, sy, nr, nrs⟩
        have hi5 : i < 5 := by omega
        refine ⟨_, rfl, _, rfl, by omega, by omega, fun De hDe => lc_range (lo := 0) (n := _) (fun j H' => But a H6 H' ∧ Well H' a (k + 3 + 6 * i + j) ∧ ∃ zs : List Int, H' De = some (.lst (zs.map V.int)) ∧ zs.length = j ∧ ∀ z ∈ zs, z.natAbs ≤ 2)
          ⟨Same.but (same_upd hDe), w6.same (same_upd hDe), [], upd_same, rfl, fun z hz => by cases hz⟩ ?_ ?_⟩
        · rintro j H7 hj ⟨b7, w7, zs, hz, lz, kz⟩
          have hj5 : j < 5 := by omega
          refine ⟨rfl, yesIf ?_⟩
          refine ⟨_, rfl, a, _, k + 3 + 6 * i + j, rfl, w7, by omega, by decide, by decide, fun H8 d8 b8 w8 d80 d8l => ?_⟩
          refine ⟨_, _, rfl, rfl, ?_⟩
          have hz8 := b8 _ _ (Ne.symm (w6.ne hDe)) hz
          refine ⟨_, hz8, small1000 (by rw [List.length_map]; omega), (b7.trans b8).updN hDe, w8.upd (w6.ne hDe), zs ++ [d8 - 2], ?_, by rw [List.length_append, lz]; rfl, fun y hy => ?_⟩
          · rw [upd_same, List.map_append]
            rfl
          · rcases List.mem_append.mp hy with h | h
            · exact kz y h
            · rw [List.mem_singleton.mp h]
              omega
        rintro H7 ⟨b7, w7, es, hes, les, kes⟩
        have lesn : es.length = n := by omega
        have w7' : Well H7 a (k + 3 + 6 * i + 5) := w7.mono (by omega)
        refine ⟨_, rfl, _, rfl, by show 3 ≤ sizeLine; decide, fun pl hpl => ?_⟩
        have s8 : Same H7 (upd H7 pl (.lst (([1, 1, -1] : List Int).map V.int))) := same_upd hpl
        refine ⟨a, pl, ([1, 1, -1] : List Int).map V.int, k + 3 + 6 * i + 5, rfl, w7'.same s8, by omega, upd_same, w7'.ne hpl, by decide, by decide, fun H8 jx x b8 w8 hx => ?_⟩
        obtain ⟨by', rfl, hm⟩ := mem6 hx
        have bb : by'.natAbs ≤ 1 := by
          (simp only [List.mem_cons, List.not_mem_nil, or_false] at hm)
          omega
        have b78 : But a H7 H8 := (Same.but s8).trans b8
        have hes8 := b78 _ _ (Ne.symm (w6.ne hDe)) hes
        have mx8 := mx.but (b7.trans b78) nr w6 nrs
        refine ⟨by show 2 ≤ sizeLine; decide, fun pt hpt => ?_⟩
        have s9 : Same H8 (upd H8 pt (.tup [.ref De, .int by'])) := same_upd hpt
        refine ⟨pt, _, rfl, SqT.of upd_same, rfl, _, _, rfl, _, _, rfl, rfl, ?_⟩
        have hes9 := s9 _ _ hes8
        have mx9 := mx8.same s9
        have w9 := w8.same s9
        have en : ((1 : Int) + d2).toNat = n := by omega
        refine ⟨_, rfl, _, rfl, by omega, by omega, fun D hD => lc_range (lo := 0) (n := _) (fun p H' => Same (upd H8 pt (.tup [.ref De, .int by'])) H' ∧ ∃ us, Grow (upd H8 pt (.tup [.ref De, .int by'])) H' D us ((List.range p).map fun p => (List.range n).map fun q => (M.getD p []).getD q 0 + by' * es.getD p 0 * es.getD q 0))
          ⟨same_upd hD, [], Grow.start hD⟩ ?_ ?_⟩
        · rintro p H10 hp ⟨sm, us, g⟩
          have hpn : p < n := by omega
          obtain ⟨gp1, gp2⟩ := getMx sy.len hpn
          have lp := (sy.row _ gp2).1
          refine ⟨rfl, yesIf ?_⟩
          refine ⟨_, rfl, _, rfl, by omega, by omega, fun D2 hD2 => lc_range (lo := 0) (n := _) (fun q H' => Same H10 H' ∧ H' D2 = some (.lst (((List.range q).map fun q => (M.getD p []).getD q 0 + by' * es.getD p 0 * es.getD q 0).map V.int)))
            ⟨same_upd hD2, upd_same⟩ ?_ ?_⟩
          · rintro q H11 hq ⟨sm2, hz⟩
            have hqn : q < n := by omega
            have s911 := sm.trans sm2
            have hrl : rs.length = n := by rw [mx.len, sy.len]
            have hrp : (rs.map V.ref)[p]? = some (.ref (rs.getD p 0)) ∧ rs[p]? = some (rs.getD p 0) := by
              have hl : p < rs.length := by omega
              have e : rs.getD p 0 = rs[p] := by
                rw [List.getD_eq_getElem?_getD, List.getElem?_eq_getElem hl]
                rfl
              rw [List.getElem?_map, List.getElem?_eq_getElem hl, e]
              exact ⟨rfl, rfl⟩
            have hrow := s911 _ _ (mx9.row p _ _ hrp.2 gp1)
            have cell : atI ((M.getD p []).map V.int) ((0 : Int) + (q : Int)) = some (.int ((M.getD p []).getD q 0)) := at_of (Int.zero_add _) (by
              rw [List.getElem?_map, List.getElem?_eq_getElem (by omega), getD_of (by omega)]
              rfl)
            have eye : ∀ x : Nat, x < n → atI (es.map V.int) ((0 : Int) + (x : Int)) = some (.int (es.getD x 0)) := fun x hx => at_of (Int.zero_add _) (by
              rw [List.getElem?_map, List.getElem?_eq_getElem (by omega), getD_of (by omega)]
              rfl)
            have eb : ∀ x : Nat, x < n → (es.getD x 0).natAbs ≤ 2 := fun x hx => by
              rw [getD_of (by omega)]
              exact kes _ (List.getElem_mem _)
            have m1 : (by' * es.getD p 0).natAbs ≤ 1 * 2 := by
              rw [Int.natAbs_mul]
              exact Nat.mul_le_mul bb (eb p hpn)
            refine ⟨rfl, yesIf ?_⟩
            refine ⟨_, rfl, _, rfl, r, _, _, _, rfl, rfl, SqL.of (s911 _ _ mx9.at_), at_of (Int.zero_add _) hrp.1, ?_⟩
            refine ⟨_, rfl, _, _, _, _, rfl, rfl, SqL.of hrow, cell, ?_⟩
            refine ⟨_, rfl, _, rfl, _, rfl, De, _, _, _, rfl, rfl, SqL.of (s911 _ _ hes9), eye p hpn, ?_⟩
            refine ⟨_, _, rfl, rfl, Or.inl (by omega), ?_⟩
            refine ⟨_, rfl, _, rfl, De, _, _, _, rfl, rfl, SqL.of (s911 _ _ hes9), eye q hqn, ?_⟩
            refine ⟨_, _, rfl, rfl, Or.inl (by omega), ?_⟩
            refine ⟨_, _, rfl, rfl, ?_⟩
            refine ⟨_, hz, small1000 (by rw [List.length_map, List.length_map, List.length_range]; omega), same_updN sm2 hD2, ?_⟩
            rw [upd_same, List.range_succ, List.map_append, List.map_append]
            rfl
          · rintro H11 ⟨sm2, hz⟩
            rw [en] at hz
            refine ⟨_, sm2 _ _ g.mx.at_, small1000 (by rw [List.length_map, g.mx.len, List.length_map, List.length_range]; omega), same_updN (sm.trans sm2) hD, us ++ [D2], ?_⟩
            rw [List.range_succ, List.map_append]
            exact g.snoc (fun b o e => sm2 b o e) (fun b o _ e => sm b o e) hD2 hz hD
        · rintro H10 ⟨sm, us, g⟩
          rw [en] at g
          obtain ⟨a1, a2, a3⟩ := addM_sy (y := by') sy lesn
          have hbd : ∀ r ∈ addM n M by' es, ∀ x ∈ r, x.natAbs < 2 ^ (8 + (i + 1)) := fun r' hr x hx => by
            obtain ⟨p, hp, rfl⟩ := List.mem_map.mp hr
            obtain ⟨q, hq, rfl⟩ := List.mem_map.mp hx
            have hpn := List.mem_range.mp hp
            have hqn := List.mem_range.mp hq
            have k1 := getD_lt (i := q) (sy.row _ (getMx sy.len hpn).2).2
            have eb : ∀ x : Nat, x < n → (es.getD x 0).natAbs ≤ 2 := fun x hx => by
              rw [getD_of (by omega)]
              exact kes _ (List.getElem_mem _)
            have k2 : (by' * es.getD p 0 * es.getD q 0).natAbs ≤ 1 * 2 * 2 := by
              rw [Int.natAbs_mul, Int.natAbs_mul]
              exact Nat.mul_le_mul (Nat.mul_le_mul bb (eb p hpn)) (eb q hqn)
            have k3 : 2 ^ (8 + (i + 1)) = 2 ^ (8 + i) * 2 := by rw [← Nat.add_assoc, Nat.pow_succ]
            have k4 : 2 ^ 8 ≤ 2 ^ (8 + i) := pw (by omega)
            omega
          refine ⟨_, _, _, _, _, _, _, D, us, addM n M by' es, rfl, ((b6.trans b7).trans b78).trans (Same.but (s9.trans sm)), (w9.same sm).mono (by omega), g.mx, ⟨a1, fun r hr => ⟨a2 r hr, hbd r hr⟩, a3⟩, w9.ne hD, fun x hx => w9.ne (g.new x hx)⟩
      · rintro σ H6 ⟨y3, y5, y6, y7, y8, y9, y10, r, rs, M, rfl, b6, w6, mx, sy, nr, nrs⟩
        have hd5 : d5.toNat ≤ 5 := by omega
        have w6' : Well H6 a (k + 33) := w6.mono (by omega)
        refine ⟨_, rfl, _, rfl, by show 4 ≤ sizeLine; decide, fun pl hpl => ?_⟩
        have s8 : Same H6 (upd H6 pl (.lst (([1, 1, 2, 3] : List Int).map V.int))) := same_upd hpl
        refine ⟨a, pl, ([1, 1, 2, 3] : List Int).map V.int, k + 33, rfl, w6'.same s8, by omega, upd_same, w6'.ne hpl, by decide, by decide, fun H8 jx x b8 w8 hx => ?_⟩
        obtain ⟨z, rfl, hm⟩ := mem6 hx
        have bz : 1 ≤ z ∧ z ≤ 3 := by
          (simp only [List.mem_cons, List.not_mem_nil, or_false] at hm)
          omega
        have b68 : But a H6 H8 := (Same.but s8).trans b8
        have mx8 := mx.but b68 nr w6 nrs
        refine ⟨by show 0 ≤ sizeLine; decide, fun pe hpe => ?_⟩
        have s9 : Same H8 (upd H8 pe (.lst [])) := same_upd hpe
        refine ⟨by show 3 ≤ sizeLine; decide, fun pt hpt => ?_⟩
        have s10 : Same (upd H8 pe (.lst [])) (upd (upd H8 pe (.lst [])) pt (.tup [.ref r, .int z, .ref pe])) := same_upd hpt
        have s810 := s9.trans s10
        exact q _ pt r z pe rs M n (((b12.trans b6).trans b68).trans (Same.but s810)) ((w8.same s810).mono (by omega)) upd_same (mx8.same s810) ⟨sy.len, fun r hr => ⟨(sy.row r hr).1, fun x hx => Nat.lt_of_lt_of_le ((sy.row r hr).2 x hx) (pw (by omega))⟩, sy.sym⟩ n1 n5 (by omega) (by omega) nr nrs
    · refine ⟨_, rfl, rfl, _, rfl, if2 (fun e3 => ?_) (fun e3 => ?_)⟩
      · -- great numbers
        refine ⟨_, rfl, _, _, rfl, rfl, ⟨by decide, by decide, by decide⟩, by show 4 ≤ sizeLine; decide, fun pl hpl => ?_⟩
        have s3 : Same H2 (upd H2 pl (.lst (([1, 1, 1, 10 ^ 20] : List Int).map V.int))) := same_upd hpl
        refine ⟨a, pl, ([1, 1, 1, 10 ^ 20] : List Int).map V.int, k + 2, rfl, w2.same s3, by omega, upd_same, w2.ne hpl, by decide, by decide, fun H3 j x b3 w3 hx => ?_⟩
        obtain ⟨by', rfl, hm⟩ := mem6 hx
        have bb : by'.natAbs < 2 ^ 67 := by
          (simp only [List.mem_cons, List.not_mem_nil, or_false] at hm)
          rcases hm with rfl | rfl | rfl | rfl <;> decide
        have b13 : But a H H3 := (b12.trans (Same.but s3)).trans b3
        refine ⟨_, rfl, by decide, by decide, fun Dc hDc => lc_range (lo := 0) (n := _) (fun i H' => But a H3 H' ∧ Well H' a (k + 3 + i) ∧ ∃ zs : List Int, H' Dc = some (.lst (zs.map V.int)) ∧ zs.length = i ∧ ∀ z ∈ zs, z.natAbs < 2 ^ 85)
          ⟨Same.but (same_upd hDc), w3.same (same_upd hDc), [], upd_same, rfl, fun z hz => by cases hz⟩ ?_ ?_⟩
        · rintro i H4 hi ⟨b4, w4, zs, hz, lz, kz⟩
          have hi15 : i < 15 := hi
          refine ⟨rfl, yesIf ?_⟩
          refine ⟨_, rfl, a, _, k + 3 + i, rfl, w4, by omega, by decide, by decide, fun H5 d5 b5 w5 d50 d5l => ?_⟩
          refine ⟨_, _, rfl, rfl, _, rfl, _, _, rfl, rfl, Or.inl (by omega), ?_⟩
          have hz5 := b5 _ _ (Ne.symm (w3.ne hDc)) hz
          refine ⟨_, hz5, small1000 (by rw [List.length_map]; omega), (b4.trans b5).updN hDc, w5.upd (w3.ne hDc), zs ++ [(d5 - 10000) * by'], ?_, by rw [List.length_append, lz]; rfl, fun y hy => ?_⟩
          · rw [upd_same, List.map_append]
            rfl
          · rcases List.mem_append.mp hy with h | h
            · exact kz y h
            · rw [List.mem_singleton.mp h]
              exact Nat.lt_of_lt_of_le (mulI (a := 15) (b := 67) (by omega) bb) (pw (by decide))
        rintro H4 ⟨b4, w4, zs, hz, lz, kz⟩
        have w4' : Well H4 a (k + 18) := w4
        refine ⟨_, rfl, _, rfl, Dc, zs, n, 85, by show [V.ref Dc, V.int (1 + d2)] = _; rw [hn], hz, lz, n1, n5, kz, fun H5 r rs M s5 nr nrs mx sy => ?_⟩
        obtain ⟨w5, nr5, nrs5, sy5⟩ := ending H4 (k + 18) r rs M 85 H5 (b13.trans b4) w4' (by omega) s5 nr nrs mx sy (by decide)
        refine ⟨_, rfl, a, _, k + 18, rfl, w5, by omega, by decide, by decide, fun H6 d6 b6 w6 d60 d6l => ?_⟩
        refine ⟨_, _, rfl, rfl, ?_⟩
        have mx6 := mx.but b6 nr5 w5 nrs5
        refine ⟨by show 0 ≤ sizeLine; decide, fun pe hpe => ?_⟩
        have s9 : Same H6 (upd H6 pe (.lst [])) := same_upd hpe
        refine ⟨by show 3 ≤ sizeLine; decide, fun pt hpt => ?_⟩
        have s10 : Same (upd H6 pe (.lst [])) (upd (upd H6 pe (.lst [])) pt (.tup [.ref r, .int (1 + d6), .ref pe])) := same_upd hpt
        have s810 := s9.trans s10
        exact q _ pt r _ pe rs M n (((b13.trans b4).trans (Same.but s5)).trans (b6.trans (Same.but s810))) ((w6.same s810).mono (by omega)) upd_same (mx6.same s810) sy5 n1 n5 (by omega) (by omega) nr5 nrs5
      · -- small numbers
        have way4 : way = 4 ∨ way = 5 := by
          have h2 : ¬ V.int way = V.int 2 := of_decide_eq_false e2
          have h3 : ¬ V.int way = V.int 3 := of_decide_eq_false e3
          have : way ≠ 2 := fun z => h2 (by rw [z])
          have : way ≠ 3 := fun z => h3 (by rw [z])
          omega
        refine ⟨_, rfl, by decide, by decide, fun Dc hDc => lc_range (lo := 0) (n := _) (fun i H' => But a H2 H' ∧ Well H' a (k + 2 + i) ∧ ∃ zs : List Int, H' Dc = some (.lst (zs.map V.int)) ∧ zs.length = i ∧ ∀ z ∈ zs, z.natAbs < 2 ^ 85)
          ⟨Same.but (same_upd hDc), w2.same (same_upd hDc), [], upd_same, rfl, fun z hz => by cases hz⟩ ?_ ?_⟩
        · rintro i H4 hi ⟨b4, w4, zs, hz, lz, kz⟩
          have hi15 : i < 15 := hi
          refine ⟨rfl, yesIf ?_⟩
          refine ⟨_, rfl, _, rfl, by show 5 ≤ sizeLine; decide, fun q1 hq1 => ?_⟩
          have u1 : Same H4 (upd H4 q1 (.lst (([0, 0, 1, -1, 0] : List Int).map V.int))) := same_upd hq1
          refine ⟨_, rfl, _, rfl, by show 6 ≤ sizeLine; decide, fun q2 hq2 => ?_⟩
          have u2 : Same (upd H4 q1 (.lst (([0, 0, 1, -1, 0] : List Int).map V.int))) (upd (upd H4 q1 (.lst (([0, 0, 1, -1, 0] : List Int).map V.int))) q2 (.lst (([0, 1, -1, 2, -3, 4] : List Int).map V.int))) := same_upd hq2
          have v1 : (upd (upd H4 q1 (.lst (([0, 0, 1, -1, 0] : List Int).map V.int))) q2 (.lst (([0, 1, -1, 2, -3, 4] : List Int).map V.int))) q1 = some (.lst (([0, 0, 1, -1, 0] : List Int).map V.int)) := u2 _ _ upd_same
          have v2 : (upd (upd H4 q1 (.lst (([0, 0, 1, -1, 0] : List Int).map V.int))) q2 (.lst (([0, 1, -1, 2, -3, 4] : List Int).map V.int))) q2 = some (.lst (([0, 1, -1, 2, -3, 4] : List Int).map V.int)) := upd_same
          have nq1 := w4.ne hq1
          have nq2 := (w4.same u1).ne hq2
          refine ⟨by show 2 ≤ sizeLine; decide, fun q3 hq3 => ?_⟩
          have u3 : Same (upd (upd H4 q1 (.lst (([0, 0, 1, -1, 0] : List Int).map V.int))) q2 (.lst (([0, 1, -1, 2, -3, 4] : List Int).map V.int))) (upd (upd (upd H4 q1 (.lst (([0, 0, 1, -1, 0] : List Int).map V.int))) q2 (.lst (([0, 1, -1, 2, -3, 4] : List Int).map V.int))) q3 (.lst [.ref q1, .ref q2])) := same_upd hq3
          have u13 := (u1.trans u2).trans u3
          have fin : ∀ (H5 : Hp) (z : Int), But a H4 H5 → Well H5 a (k + 2 + (i + 1)) → z.natAbs ≤ 4 → ∃ acc, H5 Dc = some (.lst acc) ∧ acc.length < sizeLine ∧ But a H2 (upd H5 Dc (.lst (acc ++ [.int z]))) ∧ Well (upd H5 Dc (.lst (acc ++ [.int z]))) a (k + 2 + (i + 1)) ∧
              ∃ zs : List Int, (upd H5 Dc (.lst (acc ++ [.int z]))) Dc = some (.lst (zs.map V.int)) ∧ zs.length = i + 1 ∧ ∀ z ∈ zs, z.natAbs < 2 ^ 85 := fun H5 z b5 w5 bz => by
            have hz5 := b5 _ _ (Ne.symm (w2.ne hDc)) hz
            refine ⟨_, hz5, small1000 (by rw [List.length_map]; omega), (b4.trans b5).updN hDc, w5.upd (w2.ne hDc), zs ++ [z], ?_, by rw [List.length_append, lz]; rfl, fun y hy => ?_⟩
            · rw [upd_same, List.map_append]
              rfl
            · rcases List.mem_append.mp hy with h | h
              · exact kz y h
              · rw [List.mem_singleton.mp h]
                omega
          rcases way4 with rfl | rfl
          · refine ⟨_, rfl, _, _, rfl, rfl, q3, _, _, .ref q1, rfl, rfl, SqL.of upd_same, rfl, ?_⟩
            refine ⟨a, q1, ([0, 0, 1, -1, 0] : List Int).map V.int, k + 2 + i, rfl, w4.same u13, by omega, u3 _ _ v1, nq1, by decide, by decide, fun H5 jx x b5 w5 hx => ?_⟩
            obtain ⟨z, rfl, hm⟩ := mem6 hx
            refine fin H5 z ((Same.but u13).trans b5) w5 ?_
            (simp only [List.mem_cons, List.not_mem_nil, or_false] at hm)
            omega
          · refine ⟨_, rfl, _, _, rfl, rfl, q3, _, _, .ref q2, rfl, rfl, SqL.of upd_same, rfl, ?_⟩
            refine ⟨a, q2, ([0, 1, -1, 2, -3, 4] : List Int).map V.int, k + 2 + i, rfl, w4.same u13, by omega, u3 _ _ v2, nq2, by decide, by decide, fun H5 jx x b5 w5 hx => ?_⟩
            obtain ⟨z, rfl, hm⟩ := mem6 hx
            refine fin H5 z ((Same.but u13).trans b5) w5 ?_
            (simp only [List.mem_cons, List.not_mem_nil, or_false] at hm)
            omega
        rintro H4 ⟨b4, w4, zs, hz, lz, kz⟩
        have w4' : Well H4 a (k + 18) := w4.mono (by show k + 2 + 15 ≤ k + 18; omega)
        refine ⟨_, rfl, _, rfl, Dc, zs, n, 85, by show [V.ref Dc, V.int (1 + d2)] = _; rw [hn], hz, lz, n1, n5, kz, fun H5 r rs M s5 nr nrs mx sy => ?_⟩
        obtain ⟨w5, nr5, nrs5, sy5⟩ := ending H4 (k + 18) r rs M 85 H5 (b12.trans b4) w4' (by omega) s5 nr nrs mx sy (by decide)
        refine ⟨_, rfl, by show 5 ≤ sizeLine; decide, fun pl hpl => ?_⟩
        have s8 : Same H5 (upd H5 pl (.lst (([1, 1, 1, 2, 3] : List Int).map V.int))) := same_upd hpl
        refine ⟨a, pl, ([1, 1, 1, 2, 3] : List Int).map V.int, k + 18, rfl, w5.same s8, by omega, upd_same, w5.ne hpl, by decide, by decide, fun H8 jx x b8 w8 hx => ?_⟩
        obtain ⟨z, rfl, hm⟩ := mem6 hx
        have bz : 1 ≤ z ∧ z ≤ 3 := by
          (simp only [List.mem_cons, List.not_mem_nil, or_false] at hm)
          omega
        have b58 : But a H5 H8 := (Same.but s8).trans b8
        have mx8 := mx.but b58 nr5 w5 nrs5
        refine ⟨by show 0 ≤ sizeLine; decide, fun pe hpe => ?_⟩
        have s9 : Same H8 (upd H8 pe (.lst [])) := same_upd hpe
        refine ⟨by show 3 ≤ sizeLine; decide, fun pt hpt => ?_⟩
        have s10 : Same (upd H8 pe (.lst [])) (upd (upd H8 pe (.lst [])) pt (.tup [.ref r, .int z, .ref pe])) := same_upd hpt
        have s810 := s9.trans s10
        exact q _ pt r z pe rs M n (((b12.trans b4).trans (Same.but s5)).trans (b58.trans (Same.but s810))) ((w8.same s810).mono (by omega)) upd_same (mx8.same s810) sy5 n1 n5 (by omega) (by omega) nr5 nrs5
end
end V3
namespace V3
open PySem.Spec PySem L2 PyProof.Rows RZ GxR
section
variable {mg : Str → Option Value} {base : Heap} {K : PySem.W.Frag} {P : Program} {w : World}
abbrev s__law_plus : Stmt := topS 36
abbrev N__law_plus : List Str := ["one", "two"]
theorem sc__law_plus : FnScope N__law_plus ["one", "two"] (defScope s__law_plus) := ⟨rfl, rfl, rfl, by decide +kernel, rfl, by decide +kernel, by decide +kernel⟩
theorem ok_law_plus (D__law_lowest : Df P w K mg base "_law_lowest" 2 ["upper", "lower"] spFrac) (F : At K mg "_law_plus" s__law_plus) : Df P w K mg base "_law_plus" 3 ["one", "two"] (spR2 K (· + ·) fun _ => True) := by
  have sc := sc__law_plus
  refine Df.mk' F sc (fun vs H Q E h => ?_) (fun _ _ _ _ _ _ us hl => match us, hl with | [_, _], _ => rfl) (fun f cdv A outer s H vs Q E hr h => ?_)
  · obtain ⟨v, w, x, y, rfl, _⟩ := h
    rfl
  · obtain ⟨v, w, x, y, rfl, hx, hy, sx, sy, yp, q⟩ := h
    obtain ⟨p, rfl, hp⟩ := fqT hx
    obtain ⟨p', rfl, hp'⟩ := fqT hy
    refine ⟨_, (pss_one (ps_ret (pe_fn D__law_lowest (by decide) hr (pa_cons (pe_op op_add (pe_op op_mulW (pe_ix ix_tup (pv 0) pe_int (fun _ _ => rfl)) (pe_ix ix_tup (pv 1) pe_int (fun _ _ => rfl))) (pe_op op_mulW (pe_ix ix_tup (pv 1) pe_int (fun _ _ => rfl)) (pe_ix ix_tup (pv 0) pe_int (fun _ _ => rfl)))) (pa_cons (pe_op op_mulW (pe_ix ix_tup (pv 0) pe_int (fun _ _ => rfl)) (pe_ix ix_tup (pv 1) pe_int (fun _ _ => rfl))) pa_nil))))), ?_⟩
    refine ⟨_, rfl, _, _, _, _, rfl, rfl, hp, at20, _, rfl, _, _, _, _, rfl, rfl, hp', at21, _, _, rfl, rfl, mulW4 sx.n (natI sy.d), ?_⟩
    refine ⟨_, rfl, _, _, _, _, rfl, rfl, hp', at20, _, rfl, _, _, _, _, rfl, rfl, hp, at21, _, _, rfl, rfl, mulW4 sy.n (natI sx.d), ?_⟩
    refine ⟨_, _, rfl, rfl, ?_⟩
    refine ⟨_, rfl, _, _, _, _, rfl, rfl, hp, at21, _, rfl, _, _, _, _, rfl, rfl, hp', at21, _, _, rfl, rfl, mulW4 (natI sx.d) (natI sy.d), ?_⟩
    dsimp only at q
    rw [radd] at q
    exact ⟨_, _, rfl, Int.mul_pos (rden_pos x) (rden_pos y), sz4 (natI sx.d) (natI sy.d), q⟩
abbrev s__law_minus : Stmt := topS 47
abbrev N__law_minus : List Str := ["one", "two"]
theorem sc__law_minus : FnScope N__law_minus ["one", "two"] (defScope s__law_minus) := ⟨rfl, rfl, rfl, by decide +kernel, rfl, by decide +kernel, by decide +kernel⟩
theorem ok_law_minus (D__law_lowest : Df P w K mg base "_law_lowest" 2 ["upper", "lower"] spFrac) (F : At K mg "_law_minus" s__law_minus) : Df P w K mg base "_law_minus" 3 ["one", "two"] (spR2 K (· - ·) fun _ => True) := by
  have sc := sc__law_minus
  refine Df.mk' F sc (fun vs H Q E h => ?_) (fun _ _ _ _ _ _ us hl => match us, hl with | [_, _], _ => rfl) (fun f cdv A outer s H vs Q E hr h => ?_)
  · obtain ⟨v, w, x, y, rfl, _⟩ := h
    rfl
  · obtain ⟨v, w, x, y, rfl, hx, hy, sx, sy, yp, q⟩ := h
    obtain ⟨p, rfl, hp⟩ := fqT hx
    obtain ⟨p', rfl, hp'⟩ := fqT hy
    refine ⟨_, (pss_one (ps_ret (pe_fn D__law_lowest (by decide) hr (pa_cons (pe_op op_sub (pe_op op_mulW (pe_ix ix_tup (pv 0) pe_int (fun _ _ => rfl)) (pe_ix ix_tup (pv 1) pe_int (fun _ _ => rfl))) (pe_op op_mulW (pe_ix ix_tup (pv 1) pe_int (fun _ _ => rfl)) (pe_ix ix_tup (pv 0) pe_int (fun _ _ => rfl)))) (pa_cons (pe_op op_mulW (pe_ix ix_tup (pv 0) pe_int (fun _ _ => rfl)) (pe_ix ix_tup (pv 1) pe_int (fun _ _ => rfl))) pa_nil))))), ?_⟩
    refine ⟨_, rfl, _, _, _, _, rfl, rfl, hp, at20, _, rfl, _, _, _, _, rfl, rfl, hp', at21, _, _, rfl, rfl, mulW4 sx.n (natI sy.d), ?_⟩
    refine ⟨_, rfl, _, _, _, _, rfl, rfl, hp', at20, _, rfl, _, _, _, _, rfl, rfl, hp, at21, _, _, rfl, rfl, mulW4 sy.n (natI sx.d), ?_⟩
    refine ⟨_, _, rfl, rfl, ?_⟩
    refine ⟨_, rfl, _, _, _, _, rfl, rfl, hp, at21, _, rfl, _, _, _, _, rfl, rfl, hp', at21, _, _, rfl, rfl, mulW4 (natI sx.d) (natI sy.d), ?_⟩
    dsimp only at q
    rw [rsub] at q
    exact ⟨_, _, rfl, Int.mul_pos (rden_pos x) (rden_pos y), sz4 (natI sx.d) (natI sy.d), q⟩
abbrev s__law_times : Stmt := topS 37
abbrev N__law_times : List Str := ["one", "two"]
theorem sc__law_times : FnScope N__law_times ["one", "two"] (defScope s__law_times) := ⟨rfl, rfl, rfl, by decide +kernel, rfl, by decide +kernel, by decide +kernel⟩
theorem ok_law_times (D__law_lowest : Df P w K mg base "_law_lowest" 2 ["upper", "lower"] spFrac) (F : At K mg "_law_times" s__law_times) : Df P w K mg base "_law_times" 3 ["one", "two"] (spR2 K (· * ·) fun _ => True) := by
  have sc := sc__law_times
  refine Df.mk' F sc (fun vs H Q E h => ?_) (fun _ _ _ _ _ _ us hl => match us, hl with | [_, _], _ => rfl) (fun f cdv A outer s H vs Q E hr h => ?_)
  · obtain ⟨v, w, x, y, rfl, _⟩ := h
    rfl
  · obtain ⟨v, w, x, y, rfl, hx, hy, sx, sy, yp, q⟩ := h
    obtain ⟨p, rfl, hp⟩ := fqT hx
    obtain ⟨p', rfl, hp'⟩ := fqT hy
    refine ⟨_, (pss_one (ps_ret (pe_fn D__law_lowest (by decide) hr (pa_cons (pe_op op_mulW (pe_ix ix_tup (pv 0) pe_int (fun _ _ => rfl)) (pe_ix ix_tup (pv 1) pe_int (fun _ _ => rfl))) (pa_cons (pe_op op_mulW (pe_ix ix_tup (pv 0) pe_int (fun _ _ => rfl)) (pe_ix ix_tup (pv 1) pe_int (fun _ _ => rfl))) pa_nil))))), ?_⟩
    refine ⟨_, rfl, _, _, _, _, rfl, rfl, hp, at20, _, rfl, _, _, _, _, rfl, rfl, hp', at20, _, _, rfl, rfl, mulW4 sx.n sy.n, ?_⟩
    refine ⟨_, rfl, _, _, _, _, rfl, rfl, hp, at21, _, rfl, _, _, _, _, rfl, rfl, hp', at21, _, _, rfl, rfl, mulW4 (natI sx.d) (natI sy.d), ?_⟩
    dsimp only at q
    rw [rmul] at q
    exact ⟨_, _, rfl, Int.mul_pos (rden_pos x) (rden_pos y), sz4 (natI sx.d) (natI sy.d), q⟩
end
end V3
namespace V3
open PySem.Spec PySem L2 PyProof.Rows RZ GxR
theorem log_lt {n b : Nat} (h : n < 2 ^ b) (hb : 0 < b) : n.log2 < b := by
  by_cases e : n = 0
  · subst e
    rw [Nat.log2_zero]
    exact hb
  · exact (Nat.log2_lt e).mpr h
theorem shown_frd {x : Rat} (h : Bq 1900 x) : (frd x).showable = true ∧ (frd x).shown.length ≤ sizeLine := by
  have h1 : x.num.natAbs.log2 < 1920 := log_lt (Nat.lt_of_lt_of_le h.n (pw (by decide))) (by decide)
  have h2 : ((x.den : Int)).natAbs.log2 < 1920 := by
    rw [Int.natAbs_natCast]
    exact log_lt (Nat.lt_of_lt_of_le h.d (pw (by decide))) (by decide)
  refine ⟨?_, ?_⟩
  · show (decide _ && (decide _ && true)) = true
    rw [decide_eq_true h1, decide_eq_true h2]
    rfl
  · have e : PyData.leavesShort 1921 (frd x) = true := by
      show (decide _ && (decide _ && true)) = true
      rw [decide_eq_true (show (PyData.int x.num).shown.length ≤ 1921 from int_text_len_1921 h1), decide_eq_true (show (PyData.int (x.den : Int)).shown.length ≤ 1921 from int_text_len_1921 h2)]
      rfl
    refine Nat.le_trans (PyData.shown_le 1921 (by decide) _ e) ?_
    show 1923 * PyData.weight (frd x) + 1921 ≤ 2 ^ 24
    have w : PyData.weight (frd x) ≤ 4000 := by
      show PyData.weight (.tuple [.int _, .int _]) ≤ 4000
      rw [Int.natAbs_natCast] at h2
      simp [PyData.weight, PyData.weightAll]
      split <;> split <;> omega
    omega
theorem B3.lst {T : List Addr} {H H' : Hp} {p : Addr} {xs : List V} (h : B3 T H H') (t : Tabs T H) (e : H p = some (.lst xs)) : H' p = some (.lst xs) := h p _ (fun z => by
  obtain ⟨ps, hq, _⟩ := t p z
  rw [hq] at e
  cases e) e
theorem shaped_two {a b : Str} (ha : PyData.strOk a = true) (hb : PyData.strOk b = true) : SeqAt.shaped (.list [.str a, .str b]) = true := by
  simp only [SeqAt.shaped, PyData.canLay0, PyData.canLayAll0, PyData.depth, PyData.depthAll, ha, hb]
  rfl
theorem eqv_two (a b : Str) : PyData.eqv (.list [.str a, .str b]) (.list [.str a, .str b]) = true := by simp [PyData.eqv, PyData.eqvAll]
section
variable {mg : Str → Option Value} {base : Heap} {K : PySem.W.Frag} {P : Program} {w : World}
abbrev s__law_told_right : Stmt := topS 51
abbrev N__law_told_right : List Str := ["table", "row", "mean", "spread", "dues"]
theorem sc__law_told_right : FnScope N__law_told_right ["table", "row", "mean", "spread"] (defScope s__law_told_right) := ⟨rfl, rfl, rfl, by decide +kernel, rfl, by decide +kernel, by decide +kernel⟩
def spToldRight (K : PySem.W.Frag) (TT : List Addr) : Sp := fun vs H Q _ => ∃ (v u w1 w2 : V) (rows : List (List (Int × Int))) (qs : List (Int × Int)) (b : Nat) (m s : Rat), vs = [v, u, w1, w2] ∧ Fit K TT H v u rows qs b ∧ DpT K H w1 (frd m) ∧ DpT K H w2 (frd s) ∧ Bq 1900 m ∧ Bq 1900 s ∧ PyData.strOk (frd m).shown = true ∧ PyData.strOk (frd s).shown = true ∧
  (∀ (zs : List Int) (c : Int), 0 < c → 0 < dotZ zs zs → wholeRow (lcmAll [qs] : Nat) qs = zs.map (fun z => c * z) → meanQ (dotZ zs zs) (dotZ zs (ledZ rows zs)) (dotZ (ledZ rows zs) (ledZ rows zs)) (lcmAll rows : Nat) = m ∧ spreadQ (dotZ zs zs) (dotZ zs (ledZ rows zs)) (dotZ (ledZ rows zs) (ledZ rows zs)) (lcmAll rows : Nat) = s) ∧
  ∀ H', B3 TT H H' → Tabs TT H' → Q (.bl true) H'
theorem ok_told_right (T : Gs K mg) {TT : List Addr} (D_mean_of : Df P w K mg base "mean_of" 9 ["table", "row"] (spMoment K TT meanQ)) (D_spread_of : Df P w K mg base "spread_of" 9 ["table", "row"] (spMoment K TT spreadQ))
    (K_mean_of : DfK P w K mg base "mean_of" 9 "table" "row" (spMoment K TT meanQ)) (K_spread_of : DfK P w K mg base "spread_of" 9 "table" "row" (spMoment K TT spreadQ)) (F : At K mg "_law_told_right" s__law_told_right) :
    Dg P w K mg base "_law_told_right" 10 ["table", "row", "mean", "spread"] (spToldRight K TT) := by
  have sc := sc__law_told_right
  refine Dg.mk' F sc (fun vs H Q E h => ?_) (fun _ _ _ _ _ _ us hl => match us, hl with | [_, _, _, _], _ => rfl) (fun f cdv A outer s0 H vs Q E hr hg h => ?_)
  · obtain ⟨v, u, w1, w2, rows, qs, b, m, s, rfl, _⟩ := h
    rfl
  · obtain ⟨v, u, w1, w2, rows, qs, b, m, s, rfl, fit, d1, d2, bm, bs, km, ks, eqs, q⟩ := h
    refine ⟨_, (pss_cons (ps_set (i := 4) sc.nd rfl (.inl rfl) (pe_lst (pa_cons (pe_callB (call_reprD hg hr.units) (by rfl) T.repr (by decide +kernel) (pa_cons (pv 2) pa_nil)) (pa_cons (pe_callB (call_reprD hg hr.units) (by rfl) T.repr (by decide +kernel) (pa_cons (pv 3) pa_nil)) pa_nil)))) (pss_cons (ps_if (pt_cmpR (op_neD hr.units) (pe_lst (pa_cons (pe_callB (call_reprD hg hr.units) (by rfl) T.repr (by decide +kernel) (pa_cons (pe_fn D_mean_of (by decide) hr (pa_cons (pv 0) (pa_cons (pv 1) pa_nil))) pa_nil)) (pa_cons (pe_callB (call_reprD hg hr.units) (by rfl) T.repr (by decide +kernel) (pa_cons (pe_fn D_spread_of (by decide) hr (pa_cons (pv 0) (pa_cons (pv 1) pa_nil))) pa_nil)) pa_nil))) (pv 4) (nomark _)) (pss_one (ps_ret pe_bl)) pss_nil) (pss_one (ps_ret (pe_cmpR (op_eqD hr.units) (pe_lst (pa_cons (pe_callB (call_reprD hg hr.units) (by rfl) T.repr (by decide +kernel) (pa_cons (pe_fnK K_mean_of (by decide) hr (pk_cons (pv 1) (pk_cons (pv 0) pk_nil))) pa_nil)) (pa_cons (pe_callB (call_reprD hg hr.units) (by rfl) T.repr (by decide +kernel) (pa_cons (pe_fnK K_spread_of (by decide) hr (pk_cons (pv 1) (pk_cons (pv 0) pk_nil))) pa_nil)) pa_nil))) (pv 4) (nomark _)))))), ?_⟩
    obtain ⟨sm1, sm2⟩ := shown_frd bm
    obtain ⟨ss1, ss2⟩ := shown_frd bs
    have dep : ∀ x : Rat, (frd x).depth ≤ 60 := fun x => by
      show PyData.depth (.tuple [.int _, .int _]) ≤ 60
      simp [PyData.depth, PyData.depthAll]
    refine ⟨_, rfl, _, _, rfl, d1.dp, rfl, sm1, rfl, dep m, sm2, _, rfl, _, _, rfl, d2.dp, rfl, ss1, rfl, dep s, ss2, by show 2 ≤ sizeLine; decide, fun p hp => ?_⟩
    have s1 : Same H (upd H p (.lst [.str (frd m).shown, .str (frd s).shown])) := same_upd hp
    have hl1 : (upd H p (.lst [.str (frd m).shown, .str (frd s).shown])) p = some (.lst [.str (frd m).shown, .str (frd s).shown]) := upd_same
    generalize upd H p (.lst [.str (frd m).shown, .str (frd s).shown]) = H1 at s1 hl1
    have f1 := fit.keep (Same.b3 s1) (fit.tabs.same s1)
    refine ⟨_, rfl, _, rfl, v, u, rows, qs, b, rfl, f1, fun H2 p2 zs c b2 t2 c0 lp ez hp2 => ?_⟩
    rw [(eqs zs c c0 lp ez).1] at hp2
    have f2 := f1.keep b2 t2
    have hl2 := b2.lst f1.tabs hl1
    refine ⟨_, _, rfl, (fqO hp2).dp, rfl, sm1, rfl, dep m, sm2, ?_⟩
    refine ⟨_, rfl, _, rfl, v, u, rows, qs, b, rfl, f2, fun H3 p3 zs3 c3 b3 t3 c03 lp3 ez3 hp3 => ?_⟩
    rw [(eqs zs3 c3 c03 lp3 ez3).2] at hp3
    have f3 := f2.keep b3 t3
    have hl3 := b3.lst t2 hl2
    refine ⟨_, _, rfl, (fqO hp3).dp, rfl, ss1, rfl, dep s, ss2, by show 2 ≤ sizeLine; decide, fun p4 hp4 => ?_⟩
    have s4 := same_upd (o := .lst [.str (frd m).shown, .str (frd s).shown]) hp4
    refine ⟨_, rfl, .list [.str _, .str _], .list [.str _, .str _], .lst (SqL.of upd_same) (.cons (.str _) (.cons (.str _) .nil)), .lst (SqL.of (s4 _ _ hl3)) (.cons (.str _) (.cons (.str _) .nil)), shaped_two km ks, shaped_two km ks, _, rfl, ifF (by rw [eqv_two]; rfl) ?_⟩
    have f4 := f3.keep (Same.b3 s4) (t3.same s4)
    have hl4 := s4 _ _ hl3
    generalize upd H3 p4 (.lst [.str (frd m).shown, .str (frd s).shown]) = H4 at s4 f4 hl4
    refine ⟨_, rfl, _, rfl, v, u, rows, qs, b, rfl, f4, fun H5 p5 zs5 c5 b5 t5 c05 lp5 ez5 hp5 => ?_⟩
    rw [(eqs zs5 c5 c05 lp5 ez5).1] at hp5
    have f5 := f4.keep b5 t5
    have hl5 := b5.lst f4.tabs hl4
    refine ⟨_, _, rfl, (fqO hp5).dp, rfl, sm1, rfl, dep m, sm2, ?_⟩
    refine ⟨_, rfl, _, rfl, v, u, rows, qs, b, rfl, f5, fun H6 p6 zs6 c6 b6 t6 c06 lp6 ez6 hp6 => ?_⟩
    rw [(eqs zs6 c6 c06 lp6 ez6).2] at hp6
    have hl6 := b6.lst t5 hl5
    refine ⟨_, _, rfl, (fqO hp6).dp, rfl, ss1, rfl, dep s, ss2, by show 2 ≤ sizeLine; decide, fun p7 hp7 => ?_⟩
    have s7 := same_upd (o := .lst [.str (frd m).shown, .str (frd s).shown]) hp7
    refine ⟨_, rfl, .list [.str _, .str _], .list [.str _, .str _], .lst (SqL.of upd_same) (.cons (.str _) (.cons (.str _) .nil)), .lst (SqL.of (s7 _ _ hl6)) (.cons (.str _) (.cons (.str _) .nil)), shaped_two km ks, shaped_two km ks, ?_⟩
    rw [eqv_two]
    exact q _ (((((Same.b3 s1).trans b2).trans b3).trans (Same.b3 s4)).trans ((b5.trans b6).trans (Same.b3 s7))) (t6.same s7)
end
end V3
namespace V3
open PySem.Spec PySem L2 PyProof.Rows RZ GxR
/-! ### sums -/
def sm (n : Nat) (f : Nat → Int) : Int := ((List.range n).map f).sum
theorem sm_zero (f : Nat → Int) : sm 0 f = 0 := rfl
theorem sm_succ (n : Nat) (f : Nat → Int) : sm (n + 1) f = sm n f + f n := by
  unfold sm
  rw [List.range_succ, List.map_append, List.sum_append]
  simp
theorem sm_congr {n : Nat} {f g : Nat → Int} (h : ∀ k, k < n → f k = g k) : sm n f = sm n g := by
  induction n with
  | zero => rfl
  | succ m ih => rw [sm_succ, sm_succ, ih (fun k hk => h k (by omega)), h m (by omega)]
theorem sm_pre (n : Nat) (f : Nat → Int) : preSum f n = sm n f := by
  induction n with
  | zero => rfl
  | succ m ih =>
    rw [sm_succ, ← ih]
    rfl
theorem sm_lin (n : Nat) (a b : Int) (f g : Nat → Int) : sm n (fun k => a * f k + b * g k) = a * sm n f + b * sm n g := by
  induction n with
  | zero => simp [sm_zero]
  | succ m ih =>
    rw [sm_succ, sm_succ, sm_succ, ih]
    grind
theorem sm_mul (n : Nat) (a : Int) (f : Nat → Int) : sm n (fun k => a * f k) = a * sm n f := by
  induction n with
  | zero => simp [sm_zero]
  | succ m ih =>
    rw [sm_succ, sm_succ, ih]
    grind
theorem sm_swap (n m : Nat) (f : Nat → Nat → Int) : sm n (fun i => sm m (fun j => f i j)) = sm m (fun j => sm n (fun i => f i j)) := by
  induction n with
  | zero =>
    rw [sm_zero]
    have : sm m (fun j => sm 0 (fun i => f i j)) = sm m (fun _ => 0 * 0) := sm_congr fun k _ => by simp [sm_zero]
    rw [this, sm_mul]
    simp
  | succ k ih =>
    rw [sm_succ, ih]
    have : sm m (fun j => sm (k + 1) (fun i => f i j)) = sm m (fun j => 1 * sm k (fun i => f i j) + 1 * f k j) := sm_congr fun j _ => by rw [sm_succ]; grind
    rw [this, sm_lin]
    grind
theorem sm_nn (n : Nat) (f : Nat → Int) (h : ∀ k, 0 ≤ f k) : 0 ≤ sm n f := by
  rw [← sm_pre]
  exact preSum_nonneg h n
theorem sm_sq0 {n : Nat} {f : Nat → Int} (h : sm n (fun k => f k * f k) = 0) : ∀ k, k < n → f k = 0 := fun k hk => by
  by_cases e : f k = 0
  · exact e
  · have h1 := sqn0 (f k)
    have h2 : f k * f k ≠ 0 := fun z => e (by rcases Int.mul_eq_zero.mp z with h | h <;> exact h)
    have := preSum_pos (f := fun k => f k * f k) (fun i => sqn0 (f i)) (j := k) (by show 0 < f k * f k; omega) n hk
    rw [sm_pre, h] at this
    omega
theorem dotL_sm (xs ys : List Int) : dotL xs ys = sm xs.length fun k => xs.getD k 0 * ys.getD k 0 := rfl
theorem dotZ_sm {xs ys : List Int} {n : Nat} (h1 : xs.length = n) (h2 : ys.length = n) : dotZ xs ys = sm n fun k => xs.getD k 0 * ys.getD k 0 := by
  unfold dotZ
  rw [h1, h2, Nat.min_self, sm_pre]
/-! ### a mirror -/
def wf (b : Int) (e : Nat → Int) (i j : Nat) : Int := (if i = j then b else 0) - 2 * e i * e j
theorem sm_alone (n i : Nat) (b : Int) (u : Nat → Int) (hi : i < n) : sm n (fun j => (if i = j then b else 0) * u j) = b * u i := sum_alone n i b u hi
theorem wf_row (n i : Nat) (b : Int) (e u : Nat → Int) (hi : i < n) : sm n (fun j => wf b e i j * u j) = b * u i - 2 * e i * sm n (fun j => e j * u j) := by
  have h : sm n (fun j => wf b e i j * u j) = sm n (fun j => 1 * ((if i = j then b else 0) * u j) + (-2 * e i) * (e j * u j)) := sm_congr fun j _ => by
    unfold wf
    grind
  rw [h, sm_lin, sm_alone n i b u hi]
  grind
theorem wf_sym (b : Int) (e : Nat → Int) (i j : Nat) : wf b e i j = wf b e j i := by
  unfold wf
  by_cases h : i = j
  · rw [h]
  · rw [if_neg h, if_neg (fun z => h z.symm)]
    grind
/-- two things seen in it -/
theorem wf_dot (n : Nat) (b : Int) (e u v : Nat → Int) (hb : sm n (fun k => e k * e k) = b) :
    sm n (fun k => (b * u k - 2 * e k * sm n (fun j => e j * u j)) * (b * v k - 2 * e k * sm n (fun j => e j * v j))) = b * b * sm n (fun k => u k * v k) := by
  generalize hU : sm n (fun j => e j * u j) = U
  generalize hV : sm n (fun j => e j * v j) = W
  have h : sm n (fun k => (b * u k - 2 * e k * U) * (b * v k - 2 * e k * W)) = sm n (fun k => 1 * ((b * b) * (u k * v k) + (-2 * b * W) * (e k * u k)) + 1 * ((-2 * b * U) * (e k * v k) + (4 * U * W) * (e k * e k))) := sm_congr fun k _ => by grind
  rw [h, sm_lin, sm_lin, sm_lin, hU, hV, hb]
  grind
/-- the table of planted roots, the row of planted shares -/
theorem planted (n : Nat) (b : Int) (e r s : Nat → Int) (hb : sm n (fun k => e k * e k) = b) (way led : Nat → Int) (hw : ∀ k, k < n → way k = sm n (fun i => s i * wf b e i k))
    (hl : ∀ i, i < n → led i = sm n (fun j => sm n (fun k => wf b e i k * (r k * wf b e j k)) * way j)) :
    sm n (fun k => way k * way k) = b * b * sm n (fun k => s k * s k) ∧ sm n (fun k => way k * led k) = b * b * b * b * sm n (fun k => r k * (s k * s k)) ∧
    sm n (fun k => led k * led k) = b * b * b * b * b * b * sm n (fun k => r k * r k * (s k * s k)) := by
  have w1 : ∀ k, k < n → way k = b * s k - 2 * e k * sm n (fun j => e j * s j) := fun k hk => by
    rw [hw k hk, ← wf_row n k b e s hk]
    exact sm_congr fun i _ => by rw [wf_sym]; grind
  have ew : sm n (fun j => e j * way j) = - b * sm n (fun j => e j * s j) := by
    have h : sm n (fun j => e j * way j) = sm n (fun j => b * (e j * s j) + (-2 * sm n (fun j => e j * s j)) * (e j * e j)) := sm_congr fun j hj => by
      rw [w1 j hj]
      grind
    rw [h, sm_lin, hb]
    grind
  have w2 : ∀ k, k < n → sm n (fun j => wf b e j k * way j) = b * b * s k := fun k hk => by
    have h : sm n (fun j => wf b e j k * way j) = sm n (fun j => wf b e k j * way j) := sm_congr fun j _ => by rw [wf_sym]
    rw [h, wf_row n k b e way hk, ew, w1 k hk]
    grind
  have l1 : ∀ i, i < n → led i = b * b * (b * (r i * s i) - 2 * e i * sm n (fun j => e j * (r j * s j))) := fun i hi => by
    rw [hl i hi]
    have h1 : sm n (fun j => sm n (fun k => wf b e i k * (r k * wf b e j k)) * way j) = sm n (fun j => sm n (fun k => wf b e i k * r k * (wf b e j k * way j))) := sm_congr fun j _ => by
      have : sm n (fun k => wf b e i k * r k * (wf b e j k * way j)) = sm n (fun k => way j * (wf b e i k * (r k * wf b e j k))) := sm_congr fun k _ => by grind
      rw [this, sm_mul]
      grind
    rw [h1, sm_swap]
    have h2 : sm n (fun k => sm n (fun j => wf b e i k * r k * (wf b e j k * way j))) = sm n (fun k => (b * b) * (wf b e i k * (r k * s k))) := sm_congr fun k hk => by
      rw [sm_mul n (wf b e i k * r k) (fun j => wf b e j k * way j), w2 k hk]
      grind
    rw [h2, sm_mul, wf_row n i b e (fun k => r k * s k) hi]
  refine ⟨?_, ?_, ?_⟩
  · rw [← wf_dot n b e s s hb]
    exact sm_congr fun k hk => by rw [w1 k hk]
  · have h := wf_dot n b e s (fun k => r k * s k) hb
    have h2 : sm n (fun k => way k * led k) = sm n (fun k => (b * b) * ((b * s k - 2 * e k * sm n (fun j => e j * s j)) * (b * (r k * s k) - 2 * e k * sm n (fun j => e j * (r j * s j))))) := sm_congr fun k hk => by
      rw [w1 k hk, l1 k hk]
      grind
    rw [h2, sm_mul, h]
    have h3 : sm n (fun k => s k * (r k * s k)) = sm n (fun k => r k * (s k * s k)) := sm_congr fun k _ => by grind
    rw [h3]
    grind
  · have h := wf_dot n b e (fun k => r k * s k) (fun k => r k * s k) hb
    have h2 : sm n (fun k => led k * led k) = sm n (fun k => (b * b * (b * b)) * ((b * (r k * s k) - 2 * e k * sm n (fun j => e j * (r j * s j))) * (b * (r k * s k) - 2 * e k * sm n (fun j => e j * (r j * s j))))) := sm_congr fun k hk => by
      rw [l1 k hk]
      grind
    rw [h2, sm_mul, h]
    have h3 : sm n (fun k => r k * s k * (r k * s k)) = sm n (fun k => r k * r k * (s k * s k)) := sm_congr fun k _ => by grind
    rw [h3]
    grind
/-! ### means and spreads, whatever they are multiplied by -/
theorem div_eq {a b c d : Int} (hb : b ≠ 0) (hd : d ≠ 0) (h : a * d = c * b) : Rat.divInt a b = Rat.divInt c d := (Rat.divInt_eq_divInt_iff hb hd).mpr h
theorem scaled {l w s u o f S k x y : Int} (x0 : x ≠ 0) (l0 : l ≠ 0) (u0 : u ≠ 0) (o0 : o ≠ 0) (k0 : k ≠ 0) (A : x * x * l = y * y * o) (B : k * (x * x) * w = u * (y * y) * f) (C : k * k * (x * x) * s = u * u * (y * y) * S) :
    meanQ l w s u = Rat.divInt f (k * o) ∧ spreadQ l w s u = Rat.divInt (S * o - f * f) (k * k * o * o) := by
  have xx : x * x ≠ 0 := Int.mul_ne_zero x0 x0
  refine ⟨div_eq (Int.mul_ne_zero u0 l0) (Int.mul_ne_zero k0 o0) ?_, div_eq (Int.mul_ne_zero (Int.mul_ne_zero (Int.mul_ne_zero u0 u0) l0) l0) (Int.mul_ne_zero (Int.mul_ne_zero (Int.mul_ne_zero k0 k0) o0) o0) ?_⟩
  · refine Int.eq_of_mul_eq_mul_left xx ?_
    have e1 : x * x * (w * (k * o)) = (k * (x * x) * w) * o := by grind
    have e2 : x * x * (f * (u * l)) = f * u * (x * x * l) := by grind
    rw [e1, e2, B, A]
    grind
  · refine Int.eq_of_mul_eq_mul_left (Int.mul_ne_zero xx xx) ?_
    have e1 : x * x * (x * x) * ((s * l - w * w) * (k * k * o * o)) = ((k * k * (x * x) * s) * (x * x * l) - (k * (x * x) * w) * (k * (x * x) * w)) * (o * o) := by grind
    have e2 : x * x * (x * x) * ((S * o - f * f) * (u * u * l * l)) = (S * o - f * f) * (u * u) * ((x * x * l) * (x * x * l)) := by grind
    rw [e1, e2, A, B, C]
    grind
/-! ### own sums of shares -/
theorem div_add {a c d : Int} (h : d ≠ 0) : Rat.divInt a d + Rat.divInt c d = Rat.divInt (a + c) d := by
  rw [Rat.divInt_add_divInt _ _ h h, ← Int.add_mul, Rat.divInt_mul_right h]
theorem div_sub {a c d : Int} (h : d ≠ 0) : Rat.divInt a d - Rat.divInt c d = Rat.divInt (a - c) d := by
  rw [Rat.divInt_sub_divInt _ _ h h, ← Int.sub_mul, Rat.divInt_mul_right h]
/-- the first sums -/
def shM (x y : Nat → Rat) : Nat → Rat
  | 0 => Rat.divInt 0 1
  | k + 1 => shM x y k + x k * y k
def shS (x y : Nat → Rat) (m : Rat) : Nat → Rat
  | 0 => Rat.divInt 0 1
  | k + 1 => shS x y m k + (x k - m) * (x k - m) * y k
theorem shM_eq {z S : Int} {r p : Nat → Int} (z0 : z ≠ 0) (S0 : S ≠ 0) : ∀ n, shM (fun k => Rat.divInt (r k) z) (fun k => Rat.divInt (p k) S) n = Rat.divInt (sm n fun k => r k * p k) (z * S)
  | 0 => by
    show Rat.divInt 0 1 = _
    rw [sm_zero, Rat.zero_divInt, Rat.zero_divInt]
  | n + 1 => by
    show shM _ _ n + Rat.divInt (r n) z * Rat.divInt (p n) S = _
    rw [shM_eq z0 S0 n, Rat.divInt_mul_divInt, div_add (Int.mul_ne_zero z0 S0), sm_succ]
theorem shS_eq {z S R : Int} {r p : Nat → Int} (z0 : z ≠ 0) (S0 : S ≠ 0) : ∀ n, shS (fun k => Rat.divInt (r k) z) (fun k => Rat.divInt (p k) S) (Rat.divInt R (z * S)) n = Rat.divInt (sm n fun k => (r k * S - R) * (r k * S - R) * p k) (z * S * (z * S) * S)
  | 0 => by
    show Rat.divInt 0 1 = _
    rw [sm_zero, Rat.zero_divInt, Rat.zero_divInt]
  | n + 1 => by
    show shS _ _ _ n + (Rat.divInt (r n) z - Rat.divInt R (z * S)) * (Rat.divInt (r n) z - Rat.divInt R (z * S)) * Rat.divInt (p n) S = _
    have zS := Int.mul_ne_zero z0 S0
    have e1 : Rat.divInt (r n) z = Rat.divInt (r n * S) (z * S) := (Rat.divInt_mul_right S0).symm
    rw [shS_eq z0 S0 n, e1, div_sub zS, Rat.divInt_mul_divInt, Rat.divInt_mul_divInt, div_add (Int.mul_ne_zero (Int.mul_ne_zero zS zS) S0), sm_succ]
theorem shared_sums {n : Nat} {r p : Nat → Int} {S R : Int} (hS : sm n p = S) (hR : sm n (fun k => r k * p k) = R) : sm n (fun k => (r k * S - R) * (r k * S - R) * p k) = S * (S * sm n (fun k => r k * r k * p k) - R * R) := by
  have h : sm n (fun k => (r k * S - R) * (r k * S - R) * p k) = sm n (fun k => 1 * ((S * S) * (r k * r k * p k) + (-2 * S * R) * (r k * p k)) + (R * R) * p k) := sm_congr fun k _ => by grind
  rw [h, sm_lin, sm_lin, hS, hR]
  grind
/-- the planted moments -/
theorem planted_moments {n : Nat} {b z S R T own first LL k : Int} {r p : Nat → Int} (z0 : z ≠ 0) (S0 : S ≠ 0) (b0 : b ≠ 0) (hS : sm n p = S) (hR : sm n (fun k => r k * p k) = R) (hT : sm n (fun k => r k * r k * p k) = T)
    (ho : own = b * b * S) (hf : first = b * b * b * b * R) (hl : LL = b * b * b * b * b * b * T) (hk : k = z * (b * b)) :
    Rat.divInt first (k * own) = shM (fun k => Rat.divInt (r k) z) (fun k => Rat.divInt (p k) S) n ∧
    Rat.divInt (LL * own - first * first) (k * k * own * own) = shS (fun k => Rat.divInt (r k) z) (fun k => Rat.divInt (p k) S) (shM (fun k => Rat.divInt (r k) z) (fun k => Rat.divInt (p k) S) n) n := by
  have bb := Int.mul_ne_zero b0 b0
  have k0 : k ≠ 0 := by rw [hk]; exact Int.mul_ne_zero z0 bb
  have o0 : own ≠ 0 := by rw [ho]; exact Int.mul_ne_zero bb S0
  have zS := Int.mul_ne_zero z0 S0
  refine ⟨?_, ?_⟩
  · rw [shM_eq z0 S0, hR]
    refine div_eq (Int.mul_ne_zero k0 o0) zS ?_
    rw [hf, ho, hk]
    grind
  · rw [shM_eq z0 S0, hR, shS_eq z0 S0, shared_sums hS hR, hT]
    refine div_eq (Int.mul_ne_zero (Int.mul_ne_zero (Int.mul_ne_zero k0 k0) o0) o0) (Int.mul_ne_zero (Int.mul_ne_zero zS zS) S0) ?_
    rw [hf, ho, hk, hl]
    grind
end V3
namespace V3
open PySem.Spec PySem L2 PyProof.Rows RZ GxR
/-! ### the told table as a value -/
def frDD (x : Rat) : D := .tup [.int x.num, .int (x.den : Int)]
def toldDs (M : List (List Int)) (z : Int) : List D := M.map fun r => .tup (r.map fun c => frDD (Rat.divInt c z))
theorem conv_told (M : List (List Int)) (z : Int) : conv (toldP M z) = .tup (toldDs M z) := by
  show D.tup (convs (M.map (rowP z))) = _
  rw [convs_map, List.map_map]
  unfold toldDs
  congr 1
  apply List.map_congr_left
  intro r _
  show D.tup (convs (r.map fun c => frd (Rat.divInt c z))) = _
  rw [convs_map, List.map_map]
  rfl
theorem toldDs_len (M : List (List Int)) (z : Int) : (toldDs M z).length = M.length := List.length_map _
theorem fracB_frDD (x : Rat) : fracB (frDD x) = true := by
  show (decide _ && decide _) = true
  have h1 : (0 : Int) < (x.den : Int) := by
    have := x.den_pos
    omega
  have h2 : Int.gcd x.num (x.den : Int) = 1 := by
    unfold Int.gcd
    rw [Int.natAbs_natCast]
    exact x.reduced
  rw [decide_eq_true h1, decide_eq_true h2]
  rfl
theorem told_tab {M : List (List Int)} {n b : Nat} {z : Int} (sy : Sy n b M) (n1 : 1 ≤ n) (n5 : n ≤ 5) : tabB (.tup (toldDs M z)) = true := by
  have len : (toldDs M z).length = n := by rw [toldDs_len, sy.len]
  have rows : (toldDs M z).all (rowB n) = true := by
    rw [List.all_eq_true]
    intro d hd
    obtain ⟨r, hm, rfl⟩ := List.mem_map.mp hd
    show (decide _ && List.all _ _) = true
    rw [Bool.and_eq_true]
    refine ⟨decide_eq_true (by rw [List.length_map, (sy.row r hm).1]), ?_⟩
    show (r.map fun c => frDD (Rat.divInt c z)).all fracB = true
    rw [List.all_eq_true]
    intro d hd
    obtain ⟨c, _, rfl⟩ := List.mem_map.mp hd
    exact fracB_frDD _
  have cell : ∀ i j, i < n → j < n → cellD (toldDs M z) i j = (frDD (Rat.divInt ((M.getD i []).getD j 0) z)).pair := fun i j hi hj => by
    have hl : i < M.length := by rw [sy.len]; exact hi
    obtain ⟨g1, g2⟩ := getMx sy.len hi
    have lr := (sy.row _ g2).1
    have e1 : (toldDs M z).getD i .oth = .tup ((M.getD i []).map fun c => frDD (Rat.divInt c z)) := by
      (rw [List.getD_eq_getElem?_getD])
      unfold toldDs
      rw [List.getElem?_map, g1]
      rfl
    unfold cellD
    rw [e1]
    show (((M.getD i []).map fun c => frDD (Rat.divInt c z)).getD j .oth).pair = _
    congr 1
    have hj2 : j < (M.getD i []).length := by rw [lr]; exact hj
    rw [List.getD_eq_getElem?_getD, List.getElem?_map, List.getElem?_eq_getElem hj2, getD_of hj2]
    rfl
  have sym : symB (toldDs M z) = true := by
    unfold symB
    rw [len, List.all_eq_true]
    intro i hi
    rw [List.all_eq_true]
    intro j hj
    (have hi' := List.mem_range.mp hi)
    (have hj' := List.mem_range.mp hj)
    refine decide_eq_true ?_
    rw [cell i j hi' (by omega), cell j i (by omega) hi', sy.sym i j hi' (by omega)]
  show (decide _ && decide _ && _ && _) = true
  rw [len, rows, sym, decide_eq_true n1, decide_eq_true n5]
  rfl
/-! ### told rows as pairs -/
def prT (z : Int) (c : Int) : Int × Int := ((Rat.divInt c z).num, ((Rat.divInt c z).den : Int))
def rowT (r : List Int) (z : Int) : List (Int × Int) := r.map (prT z)
def rowsT (M : List (List Int)) (z : Int) : List (List (Int × Int)) := M.map fun r => rowT r z
theorem rowT_d (r : List Int) (z : Int) : rowD (rowT r z) = .tuple (r.map fun c => frd (Rat.divInt c z)) := by
  unfold rowD rowT
  rw [List.map_map]
  rfl
theorem rowsT_d (M : List (List Int)) (z : Int) : rowsD (rowsT M z) = toldP M z := by
  unfold rowsD rowsT toldP
  rw [List.map_map]
  congr 1
  apply List.map_congr_left
  intro r _
  exact rowT_d r z
theorem prT_dvd {z c : Int} (h : 0 < z) : (prT z c).2 ∣ z := by
  show ((Rat.divInt c z).den : Int) ∣ z
  rw [dden h]
  have h2 : (Int.gcd c z : Int) ∣ z := Int.gcd_dvd_right ..
  exact ⟨(Int.gcd c z : Int), (Int.ediv_mul_cancel h2).symm⟩
theorem prT_pos (z c : Int) : 0 < (prT z c).2 := rden_pos _
theorem prT_eq {z c : Int} (h : 0 < z) : (prT z c).1 * z = c * (prT z c).2 := by
  show (Rat.divInt c z).num * z = c * ((Rat.divInt c z).den : Int)
  rw [dden h, dnum h]
  have h1 : (Int.gcd c z : Int) ∣ c := Int.gcd_dvd_left ..
  have h2 : (Int.gcd c z : Int) ∣ z := Int.gcd_dvd_right ..
  have g0 := gcdP (n := c) h
  obtain ⟨x, hx⟩ := h1
  obtain ⟨y, hy⟩ := h2
  generalize (Int.gcd c z : Int) = g at *
  have e1 : c / g = x := by rw [hx]; exact Int.mul_ediv_cancel_left x (by omega)
  have e2 : z / g = y := by rw [hy]; exact Int.mul_ediv_cancel_left y (by omega)
  rw [e1, e2, hx, hy]
  grind
theorem prT_whole {z c u : Int} (h : 0 < z) (d : (prT z c).2 ∣ u) : z * ((prT z c).1 * (u / (prT z c).2)) = u * c := by
  obtain ⟨t, ht⟩ := d
  have p0 := prT_pos z c
  have e := prT_eq (z := z) (c := c) h
  generalize prT z c = q at *
  have e1 : u / q.2 = t := by rw [ht]; exact Int.mul_ediv_cancel_left t (by omega)
  rw [e1, ht]
  have : z * (q.1 * t) = (q.1 * z) * t := by grind
  rw [this, e]
  grind
theorem lcm_dvd_all {m : Nat} {rows : List (List (Int × Int))} (h : ∀ r ∈ rows, ∀ q ∈ r, q.2.natAbs ∣ m) : lcmAll rows ∣ m := by
  have row : ∀ (r : List (Int × Int)) (u : Nat), u ∣ m → (∀ q ∈ r, q.2.natAbs ∣ m) → lcmRow u r ∣ m := fun r => by
    induction r with
    | nil => exact fun u h _ => h
    | cons q t ih => exact fun u h k => ih (Nat.lcm u q.2.natAbs) (Nat.lcm_dvd h (k q List.mem_cons_self)) fun x hx => k x (List.mem_cons_of_mem _ hx)
  have all : ∀ (rs : List (List (Int × Int))) (u : Nat), u ∣ m → (∀ r ∈ rs, ∀ q ∈ r, q.2.natAbs ∣ m) → rs.foldl lcmRow u ∣ m := fun rs => by
    induction rs with
    | nil => exact fun u h _ => h
    | cons r t ih => exact fun u h k => ih _ (row r u h (k r List.mem_cons_self)) fun x hx => k x (List.mem_cons_of_mem _ hx)
  exact all rows 1 (Nat.one_dvd m) h
theorem rowsT_lcm {M : List (List Int)} {z : Int} (h : 0 < z) : lcmAll (rowsT M z) ∣ z.natAbs := lcm_dvd_all fun r hr q hq => by
  obtain ⟨r', _, rfl⟩ := List.mem_map.mp hr
  obtain ⟨c, _, rfl⟩ := List.mem_map.mp hq
  exact Int.natAbs_dvd_natAbs.mpr (prT_dvd h)
theorem rowsT_le {M : List (List Int)} {z : Int} (h : 0 < z) : lcmAll (rowsT M z) ≤ z.natAbs := Nat.le_of_dvd (by omega) (rowsT_lcm h)
theorem rowsT_pos {M : List (List Int)} {z : Int} : 0 < lcmAll (rowsT M z) := lcmAll_pos _ fun r hr q hq => by
  obtain ⟨r', _, rfl⟩ := List.mem_map.mp hr
  obtain ⟨c, _, rfl⟩ := List.mem_map.mp hq
  exact prT_pos z c
theorem rowsT_mem {M : List (List Int)} {z c : Int} {r : List Int} (hr : r ∈ M) (hc : c ∈ r) : (prT z c).2 ∣ ((lcmAll (rowsT M z) : Nat) : Int) := by
  have h := lcmAll_mem (rows := rowsT M z) (r := rowT r z) (List.mem_map.mpr ⟨r, hr, rfl⟩) (q := prT z c) (List.mem_map.mpr ⟨c, hc, rfl⟩)
  have h2 := Int.natCast_dvd_natCast.mpr h
  rw [Int.natAbs_of_nonneg (Int.le_of_lt (prT_pos z c))] at h2
  exact h2
/-- told rows in whole numbers -/
theorem whole_get {M : List (List Int)} {z : Int} {r : List Int} (h : 0 < z) (hr : r ∈ M) (i : Nat) : z * (wholeRow (lcmAll (rowsT M z) : Nat) (rowT r z)).getD i 0 = (lcmAll (rowsT M z) : Nat) * r.getD i 0 := by
  unfold wholeRow rowT
  rw [List.map_map, List.getD_eq_getElem?_getD, List.getElem?_map, List.getD_eq_getElem?_getD]
  cases e : r[i]? with
  | none => simp
  | some c => exact prT_whole h (rowsT_mem hr (List.mem_of_getElem? e))
theorem whole_lt {M : List (List Int)} {z : Int} {b k : Nat} (h : 0 < z) (hz : z.natAbs < 2 ^ k) (hM : ∀ r ∈ M, ∀ x ∈ r, x.natAbs < 2 ^ b) : ∀ r ∈ rowsT M z, ∀ x ∈ wholeRow (lcmAll (rowsT M z) : Nat) r, x.natAbs < 2 ^ (b + k) := fun r hr x hx => by
  obtain ⟨r', hr', rfl⟩ := List.mem_map.mp hr
  obtain ⟨q, hq, rfl⟩ := List.mem_map.mp hx
  obtain ⟨c, hc, rfl⟩ := List.mem_map.mp hq
  have e := prT_whole h (rowsT_mem (z := z) hr' hc)
  have l := rowsT_le (M := M) h
  generalize (prT z c).1 * ((lcmAll (rowsT M z) : Nat) / (prT z c).2) = t at e ⊢
  have h1 : z.natAbs * t.natAbs = lcmAll (rowsT M z) * c.natAbs := by
    rw [← Int.natAbs_mul, e, Int.natAbs_mul, Int.natAbs_natCast]
  have h2 : z.natAbs * t.natAbs ≤ z.natAbs * c.natAbs := by
    rw [h1]
    exact Nat.mul_le_mul_right _ l
  have h3 : t.natAbs ≤ c.natAbs := Nat.le_of_mul_le_mul_left h2 (by omega)
  exact Nat.lt_of_le_of_lt h3 (Nat.lt_of_lt_of_le (hM r' hr' c hc) (pw (by omega)))
theorem prT_sf {z c : Int} {b k : Nat} (h : 0 < z) (hz : z.natAbs < 2 ^ k) (hc : c.natAbs < 2 ^ b) (l : b + k ≤ 4000) : Sf (prT z c) := by
  have bq := bq_div h (Nat.lt_of_lt_of_le hc (pw (show b ≤ 4000 by omega))) (Nat.lt_of_lt_of_le hz (pw (show k ≤ 4000 by omega)))
  exact ⟨prT_pos z c, bq.n, natI bq.d⟩
/-- the moments of a told row of a told table -/
theorem moments {M : List (List Int)} {way : List Int} {n : Nat} {z ov y : Int} (hl : M.length = n) (hr : ∀ r ∈ M, r.length = n) (hw : way.length = n) (z0 : 0 < z) (ov0 : 0 < ov) (y0 : y ≠ 0) (o0 : 0 < dotL way way)
    {zs : List Int} {c : Int} (c0 : 0 < c) (lp : 0 < dotZ zs zs) (ez : wholeRow (lcmAll [rowT (way.map (y * ·)) ov] : Nat) (rowT (way.map (y * ·)) ov) = zs.map (fun z => c * z)) :
    meanQ (dotZ zs zs) (dotZ zs (ledZ (rowsT M z) zs)) (dotZ (ledZ (rowsT M z) zs) (ledZ (rowsT M z) zs)) (lcmAll (rowsT M z) : Nat) = Rat.divInt (dotL way (ledR M way)) (z * dotL way way) ∧
    spreadQ (dotZ zs zs) (dotZ zs (ledZ (rowsT M z) zs)) (dotZ (ledZ (rowsT M z) zs) (ledZ (rowsT M z) zs)) (lcmAll (rowsT M z) : Nat) = Rat.divInt (dotL (ledR M way) (ledR M way) * dotL way way - dotL way (ledR M way) * dotL way (ledR M way)) (z * z * dotL way way * dotL way way) := by
  have lz : zs.length = n := by
    have := congrArg List.length ez
    unfold wholeRow rowT at this
    rw [List.length_map, List.length_map, List.length_map, List.length_map, hw] at this
    exact this.symm
  have sc : ∀ i, c * ov * zs.getD i 0 = (lcmAll (rowsT [way.map (y * ·)] ov) : Nat) * y * way.getD i 0 := fun i => by
    have h := whole_get (M := [way.map (y * ·)]) ov0 (List.mem_singleton.mpr rfl) i
    have h2 : (way.map (y * ·)).getD i 0 = y * way.getD i 0 := by
      rw [List.getD_eq_getElem?_getD, List.getElem?_map, List.getD_eq_getElem?_getD]
      cases way[i]? <;> simp
    have h3 : (wholeRow (lcmAll (rowsT [way.map (y * ·)] ov) : Nat) (rowT (way.map (y * ·)) ov)).getD i 0 = c * zs.getD i 0 := by
      have e : rowsT [way.map (y * ·)] ov = [rowT (way.map (y * ·)) ov] := rfl
      rw [e, ez, List.getD_eq_getElem?_getD, List.getElem?_map, List.getD_eq_getElem?_getD]
      cases zs[i]? <;> simp
    rw [h2, h3] at h
    grind
  have up : 0 < (((lcmAll (rowsT [way.map (y * ·)] ov)) : Nat) : Int) := by
    have := rowsT_pos (M := [way.map (y * ·)]) (z := ov)
    omega
  have u0 : 0 < (((lcmAll (rowsT M z)) : Nat) : Int) := by
    have := rowsT_pos (M := M) (z := z)
    omega
  generalize (((lcmAll (rowsT [way.map (y * ·)] ov)) : Nat) : Int) = L at sc up
  have x0 : c * ov ≠ 0 := Int.mul_ne_zero (by omega) (by omega)
  have ll : (ledZ (rowsT M z) zs).length = n := by unfold ledZ rowsT; rw [List.length_map, List.length_map, hl]
  have lr : (ledR M way).length = n := by unfold ledR; rw [List.length_map, hl]
  have led : ∀ i, i < n → z * (c * ov) * (ledZ (rowsT M z) zs).getD i 0 = (lcmAll (rowsT M z) : Nat) * (L * y) * (ledR M way).getD i 0 := fun i hi => by
    obtain ⟨g1, g2⟩ := getMx hl hi
    have e1 : (ledZ (rowsT M z) zs).getD i 0 = dotZ (wholeRow (lcmAll (rowsT M z) : Nat) (rowT (M.getD i []) z)) zs := by
      unfold ledZ
      rw [List.getD_eq_getElem?_getD, List.getElem?_map]
      have : (rowsT M z)[i]? = some (rowT (M.getD i []) z) := by
        unfold rowsT
        rw [List.getElem?_map, g1]
        rfl
      rw [this]
      rfl
    have e2 : (ledR M way).getD i 0 = dotL (M.getD i []) way := by
      unfold ledR
      rw [List.getD_eq_getElem?_getD, List.getElem?_map, g1]
      rfl
    have lw : (wholeRow (lcmAll (rowsT M z) : Nat) (rowT (M.getD i []) z)).length = n := by
      unfold wholeRow rowT
      rw [List.length_map, List.length_map, hr _ g2]
    rw [e1, e2, dotZ_sm lw lz, dotL_sm, hr _ g2, ← sm_mul, ← sm_mul]
    refine sm_congr fun k _ => ?_
    have h1 := whole_get (M := M) z0 g2 k
    have h2 := sc k
    grind
  generalize (((lcmAll (rowsT M z)) : Nat) : Int) = u at led u0 ⊢
  have d1 : dotZ zs zs = sm n fun k => zs.getD k 0 * zs.getD k 0 := dotZ_sm lz lz
  have d2 : dotZ zs (ledZ (rowsT M z) zs) = sm n fun k => zs.getD k 0 * (ledZ (rowsT M z) zs).getD k 0 := dotZ_sm lz ll
  have d3 : dotZ (ledZ (rowsT M z) zs) (ledZ (rowsT M z) zs) = sm n fun k => (ledZ (rowsT M z) zs).getD k 0 * (ledZ (rowsT M z) zs).getD k 0 := dotZ_sm ll ll
  have f1 : dotL way way = sm n fun k => way.getD k 0 * way.getD k 0 := by rw [dotL_sm, hw]
  have f2 : dotL way (ledR M way) = sm n fun k => way.getD k 0 * (ledR M way).getD k 0 := by rw [dotL_sm, hw]
  have f3 : dotL (ledR M way) (ledR M way) = sm n fun k => (ledR M way).getD k 0 * (ledR M way).getD k 0 := by rw [dotL_sm, lr]
  refine scaled (x := c * ov) (y := L * y) x0 (by omega) (by omega) (by omega) (by omega) ?_ ?_ ?_
  · rw [d1, f1, ← sm_mul, ← sm_mul]
    refine sm_congr fun k _ => ?_
    have h := sc k
    have : c * ov * (c * ov) * (zs.getD k 0 * zs.getD k 0) = (c * ov * zs.getD k 0) * (c * ov * zs.getD k 0) := by grind
    rw [this, h]
    grind
  · rw [d2, f2, ← sm_mul, ← sm_mul]
    refine sm_congr fun k hk => ?_
    have h := sc k
    have h2 := led k hk
    have : z * (c * ov * (c * ov)) * (zs.getD k 0 * (ledZ (rowsT M z) zs).getD k 0) = (c * ov * zs.getD k 0) * (z * (c * ov) * (ledZ (rowsT M z) zs).getD k 0) := by grind
    rw [this, h, h2]
    grind
  · rw [d3, f3, ← sm_mul, ← sm_mul]
    refine sm_congr fun k hk => ?_
    have h2 := led k hk
    have : z * z * (c * ov * (c * ov)) * ((ledZ (rowsT M z) zs).getD k 0 * (ledZ (rowsT M z) zs).getD k 0) = (z * (c * ov) * (ledZ (rowsT M z) zs).getD k 0) * (z * (c * ov) * (ledZ (rowsT M z) zs).getD k 0) := by grind
    rw [this, h2]
    grind
end V3
namespace V3
open PySem.Spec PySem L2 PyProof.Rows RZ GxR
def lessM (n : Nat) (M : List (List Int)) (z : Int) (m : Rat) : List (List Int) := (List.range n).map fun i => (List.range n).map fun j => (M.getD i []).getD j 0 * (m.den : Int) - (if i = j then m.num * z else 0)
theorem at_mx {H H' : Hp} {p : Addr} {ps : List Addr} {M : List (List Int)} {n i : Nat} (h : Mx H p ps M) (l : M.length = n) (hi : i < n) : ∃ q, (ps.map V.ref)[i]? = some (.ref q) ∧ H q = some (.lst ((M.getD i []).map V.int)) := by
  have hl : i < ps.length := by
    have := h.len
    omega
  refine ⟨ps[i], by rw [List.getElem?_map, List.getElem?_eq_getElem hl]; rfl, h.row i _ _ (List.getElem?_eq_getElem hl) (getMx l hi).1⟩
theorem at_int {xs : List Int} {i : Nat} (h : i < xs.length) : atI (xs.map V.int) ((0 : Int) + (i : Int)) = some (.int (xs.getD i 0)) := at_of (Int.zero_add _) (by
  rw [List.getElem?_map, List.getElem?_eq_getElem h, getD_of h]
  rfl)
section
variable {mg : Str → Option Value} {base : Heap} {K : PySem.W.Frag} {P : Program} {w : World}
abbrev s__law_less : Stmt := topS 44
abbrev N__law_less : List Str := ["rows", "scale", "number", "size", "i", "j"]
theorem sc__law_less : FnScope N__law_less ["rows", "scale", "number"] (defScope s__law_less) := ⟨rfl, rfl, rfl, by decide +kernel, rfl, by decide +kernel, by decide +kernel⟩
def spLess (K : PySem.W.Frag) : Sp := fun vs H Q _ => ∃ (p : Addr) (z : Int) (v : V) (ps : List Addr) (M : List (List Int)) (n : Nat) (m : Rat), vs = [.ref p, .int z, v] ∧ Mx H p ps M ∧ Bn n 90 M ∧ n ≤ 5 ∧ z.natAbs < 2 ^ 60 ∧ DpT K H v (frd m) ∧ Bq 1000 m ∧
  ∀ H' r rs, Same H H' → H r = none → Mx H' r rs (lessM n M z m) → Q (.ref r) H'
theorem ok_less (T : Gs K mg) (F : At K mg "_law_less" s__law_less) : Df P w K mg base "_law_less" 1 ["rows", "scale", "number"] (spLess K) := by
  have sc := sc__law_less
  refine Df.mk' F sc (fun vs H Q E h => ?_) (fun _ _ _ _ _ _ us hl => match us, hl with | [_, _, _], _ => rfl) (fun f cdv A outer s H vs Q E hr h => ?_)
  · obtain ⟨p, z, v, ps, M, n, m, rfl, _⟩ := h
    rfl
  · obtain ⟨p, z, v, ps, M, n, m, rfl, mx, bn, n5, bz, dv, bq, q⟩ := h
    refine ⟨_, (pss_cons (ps_set (i := 3) sc.nd rfl (.inr rfl) (pe_callB call_len_seq (by rfl) T.len PySem.boot_len (pa_cons (pv 0) pa_nil))) (pss_one (ps_ret (pe_lc (own := [("i", 4)]) (g := gName 4) rfl sc.nd (pi_range1 rfl T.range (pa_cons (pv 3) pa_nil)) (blkOk_by (own := [("i", 4)]) (N := N__law_less) (sc := defScope s__law_less) (by decide +kernel)) (fun _ _ _ _ _ => (pg_name (i := 4) sc.nd rfl (.inr rfl))) (fun _ _ _ _ _ => pts_nil) (fun _ _ _ _ _ => (pe_lc (own := [("j", 5)]) (g := gName 5) rfl sc.nd (pi_range1 rfl T.range (pa_cons (pv 3) pa_nil)) (blkOk_by (own := [("j", 5)]) (N := N__law_less) (sc := ({ kind := .function, names := [(".0", .local), ("i", .cell), ("range", .globalImplicit), ("number", .cell), ("rows", .cell), ("scale", .cell), ("size", .cell)], isGenerator := false, isCoroutine := false } : Scope)) (by decide +kernel)) (fun _ _ _ _ _ => (pg_name (i := 5) sc.nd rfl (.inl rfl))) (fun _ _ _ _ _ => pts_nil) (fun _ _ _ _ _ => (pe_op op_sub (pe_op op_mulW (pe_ix (ixLK (K := K) rfl) (pe_ix (ixLK (K := K) rfl) (pv 0) (pv 4) (fun _ _ => rfl)) (pv 5) (fun _ _ => rfl)) (pe_ix (ixTK (K := K) rfl) (pv 2) pe_int (fun _ _ => rfl))) (pe_ifExp (pt_cmpR op_eq (pv 4) (pv 5) (nomark _)) (pe_op op_mulW (pe_ix (ixTK (K := K) rfl) (pv 2) pe_int (fun _ _ => rfl)) (pv 1)) pe_int))))))))), ?_⟩
    have lps : (ps.map V.ref).length = n := by rw [List.length_map, mx.len, bn.len]
    obtain ⟨pn, rfl, hn⟩ := fqT dv
    have hn' : ∀ {H' : Hp}, Same H H' → SqT K H' pn [.int m.num, .int (m.den : Int)] := fun s => by
      obtain ⟨p', e, h⟩ := fqT (fqSame dv s)
      cases e
      exact h
    refine ⟨_, rfl, _, _, rfl, .inl (SqL.of mx.at_), ?_⟩
    refine ⟨_, rfl, _, rfl, by omega, by omega, fun D hD => lc_range (lo := 0) (n := _) (fun i H' => Same H H' ∧ ∃ us, Grow H H' D us ((List.range i).map fun i => (List.range n).map fun j => (M.getD i []).getD j 0 * (m.den : Int) - (if i = j then m.num * z else 0)))
      ⟨same_upd hD, [], Grow.start hD⟩ ?_ ?_⟩
    · rintro i H1 hi ⟨sm, us, g⟩
      have hi' : i < n := by omega
      obtain ⟨qi, ha, hq⟩ := at_mx (H' := H) mx bn.len hi'
      obtain ⟨g1, g2⟩ := getMx bn.len hi'
      have lr := (bn.row _ g2).1
      refine ⟨rfl, yesIf ?_⟩
      refine ⟨_, rfl, _, rfl, by omega, by omega, fun D2 hD2 => lc_range (lo := 0) (n := _) (fun j H' => Same H1 H' ∧ H' D2 = some (.lst (((List.range j).map fun j => (M.getD i []).getD j 0 * (m.den : Int) - (if i = j then m.num * z else 0)).map V.int)))
        ⟨same_upd hD2, upd_same⟩ ?_ ?_⟩
      · rintro j H2 hj ⟨sm2, hz⟩
        have hj' : j < n := by omega
        have s2 := sm.trans sm2
        refine ⟨rfl, yesIf ?_⟩
        refine ⟨_, rfl, _, rfl, p, _, _, _, rfl, rfl, SqL.of (s2 _ _ mx.at_), at_of (Int.zero_add _) ha, ?_⟩
        refine ⟨_, rfl, _, _, _, _, rfl, rfl, SqL.of (s2 _ _ hq), at_int (by omega), ?_⟩
        have b1 := getD_lt (i := j) (bn.row _ g2).2
        refine ⟨_, rfl, pn, _, _, _, rfl, rfl, hn' s2, at21, ?_⟩
        refine ⟨_, _, rfl, rfl, wide_mul b1 (natI bq.d) (by decide) (by decide) (by decide), ?_⟩
        have fin : ∀ x : Int, x = (if i = j then m.num * z else 0) → ∃ acc, H2 D2 = some (.lst acc) ∧ acc.length < sizeLine ∧ Same H1 (upd H2 D2 (.lst (acc ++ [.int ((M.getD i []).getD j 0 * (m.den : Int) - x)]))) ∧ (upd H2 D2 (.lst (acc ++ [.int ((M.getD i []).getD j 0 * (m.den : Int) - x)]))) D2 = some (.lst (((List.range (j + 1)).map fun j => (M.getD i []).getD j 0 * (m.den : Int) - (if i = j then m.num * z else 0)).map V.int)) := fun x e => by
          refine ⟨_, hz, small1000 (by rw [List.length_map, List.length_map, List.length_range]; omega), same_updN sm2 hD2, ?_⟩
          rw [upd_same, List.range_succ, List.map_append, List.map_append, e]
          rfl
        refine ⟨_, rfl, _, rfl, rfl, _, rfl, if2 (fun e => ?_) (fun e => ?_)⟩
        · have eij : m.num * z = (if i = j then m.num * z else 0) := by
            rw [if_pos]
            have := of_decide_eq_true e
            injection this with this
            omega
          refine ⟨_, rfl, pn, _, _, _, rfl, rfl, hn' s2, at20, ?_⟩
          refine ⟨_, rfl, _, _, rfl, rfl, wide_mul bq.n bz (by decide) (by decide) (by decide), ?_⟩
          refine ⟨_, _, rfl, rfl, ?_⟩
          exact fin _ eij
        · have eij : (0 : Int) = (if i = j then m.num * z else 0) := by
            rw [if_neg]
            intro z
            have := of_decide_eq_false e
            exact this (by rw [z])
          refine ⟨_, _, rfl, rfl, ?_⟩
          exact fin _ eij
      · rintro H2 ⟨sm2, hz⟩
        have en : (((ps.map V.ref).length : Nat) : Int).toNat = n := by omega
        rw [en] at hz
        refine ⟨_, sm2 _ _ g.mx.at_, small1000 (by rw [List.length_map, g.mx.len, List.length_map, List.length_range]; omega), same_updN (sm.trans sm2) hD, us ++ [D2], ?_⟩
        rw [List.range_succ, List.map_append]
        exact g.snoc (fun b o e => sm2 b o e) (fun b o _ e => sm b o e) hD2 hz hD
    · rintro H1 ⟨sm, us, g⟩
      have en : (((ps.map V.ref).length : Nat) : Int).toNat = n := by omega
      rw [en] at g
      exact q H1 D us sm hD g.mx
abbrev s__law_row : Stmt := topS 48
abbrev N__law_row : List Str := ["well", "size", "row", "turn"]
theorem sc__law_row : FnScope N__law_row ["well", "size"] (defScope s__law_row) := ⟨rfl, rfl, rfl, by decide +kernel, rfl, by decide +kernel, by decide +kernel⟩
theorem dot_one_pos {xs : List Int} {i : Nat} (h0 : i < xs.length) (h1 : xs.getD i 0 = 1) : 0 < dotL xs xs := by
  unfold dotL
  have := mem_le_sum ((List.range xs.length).map fun k => xs.getD k 0 * xs.getD k 0) (fun x hx => by
    obtain ⟨k, _, rfl⟩ := List.mem_map.mp hx
    exact sq_nonneg' _) (xs.getD i 0 * xs.getD i 0) (List.mem_map.mpr ⟨i, List.mem_range.mpr h0, rfl⟩)
  rw [h1] at this
  omega
def spRow : Sp := fun vs H Q _ => ∃ (a : Addr) (n k : Nat), vs = [.ref a, .int n] ∧ Well H a k ∧ k ≤ 900000 ∧ 1 ≤ n ∧ n ≤ 5 ∧ ∀ H' p xs, But a H H' → Well H' a (k + 6) → H' p = some (.lst (xs.map V.int)) → H p = none → xs.length = n → (∀ x ∈ xs, x.natAbs < 2 ^ 2) → 0 < dotL xs xs → Q (.ref p) H'
theorem ok_row (T : Gs K mg) (D__law_draw : Df P w K mg base "_law_draw" 1 ["well", "size"] spDraw) (D__law_dot : Df P w K mg base "_law_dot" 1 ["one", "two"] spDot) (F : At K mg "_law_row" s__law_row) : Df P w K mg base "_law_row" 2 ["well", "size"] spRow := by
  have sc := sc__law_row
  refine Df.mk' F sc (fun vs H Q E h => ?_) (fun _ _ _ _ _ _ us hl => match us, hl with | [_, _], _ => rfl) (fun f cdv A outer s H vs Q E hr h => ?_)
  · obtain ⟨a, n, k, rfl, _⟩ := h
    rfl
  · obtain ⟨a, n, k, rfl, hw, kl, n1, n5, q⟩ := h
    refine ⟨_, (pss_cons (ps_setLc (i := 2) (own := [("turn", 3)]) (g := gName 3) rfl sc.nd rfl rfl (sw_true rfl rfl rfl (by decide +kernel)) (pi_range1 rfl T.range (pa_cons (pv 1) pa_nil)) (blkOk_by (own := [("turn", 3)]) (N := N__law_row) (sc := defScope s__law_row) (by decide +kernel)) (fun _ _ _ _ _ => (pg_name (i := 3) sc.nd rfl (.inl rfl))) (fun _ _ _ _ _ => pts_nil) (fun _ _ _ _ _ => (pe_op op_sub (pe_fn D__law_draw (by decide) hr (pa_cons (pv 0) (pa_cons pe_int pa_nil))) pe_int))) (pss_cons (ps_if (pt_cmpR op_eq (pe_fn D__law_dot (by decide) hr (pa_cons (pv 2) (pa_cons (pv 2) pa_nil))) pe_int (nomark _)) (pss_one (ps_asg pe_int (pg_sub (pv 2) (pe_fn D__law_draw (by decide) hr (pa_cons (pv 0) (pa_cons (pv 1) pa_nil))) set_list))) pss_nil) (pss_one (ps_ret (pv 2))))), ?_⟩
    refine ⟨_, rfl, _, rfl, by omega, by omega, fun D hD => lc_range (lo := 0) (n := _) (fun i H' => But a H H' ∧ Well H' a (k + i) ∧ ∃ zs : List Int, H' D = some (.lst (zs.map V.int)) ∧ zs.length = i ∧ ∀ z ∈ zs, z.natAbs < 2 ^ 2)
      ⟨Same.but (same_upd hD), hw.same (same_upd hD), [], upd_same, rfl, fun z hz => by cases hz⟩ ?_ ?_⟩
    · rintro i H1 hi ⟨b1, w1, zs, hz, lz, kz⟩
      have hi' : i < n := by omega
      refine ⟨rfl, yesIf ?_⟩
      refine ⟨_, rfl, a, _, k + i, rfl, w1, by omega, by decide, by decide, fun H2 d b2 w2 d0 dl => ?_⟩
      refine ⟨_, _, rfl, rfl, ?_⟩
      have hz2 := b2 _ _ (Ne.symm (hw.ne hD)) hz
      refine ⟨_, hz2, small1000 (by rw [List.length_map]; omega), (b1.trans b2).updN hD, w2.upd (hw.ne hD), zs ++ [d - 3], ?_, by rw [List.length_append, lz]; rfl, fun y hy => ?_⟩
      · rw [upd_same, List.map_append]
        rfl
      · rcases List.mem_append.mp hy with h | h
        · exact kz y h
        · rw [List.mem_singleton.mp h]
          omega
    · rintro H1 ⟨b1, w1, zs, hz, lz, kz⟩
      have lz' : zs.length = n := by omega
      have w1 := w1.mono (l := k + 5) (by omega)
      refine ⟨_, rfl, _, rfl, D, D, zs, zs, 2, 2, rfl, hz, hz, rfl, by omega, by decide, by decide, kz, kz, fun H2 s2 => ?_⟩
      refine ⟨rfl, _, rfl, if2 (fun e => ?_) (fun e => ?_)⟩
      · refine ⟨_, rfl, _, rfl, _, rfl, a, _, _, rfl, w1.same s2, by omega, by omega, by omega, fun H3 d b3 w3 d0 dl => ?_⟩
        obtain ⟨i, rfl⟩ : ∃ i : Nat, d = (i : Int) := ⟨d.toNat, by omega⟩
        have hz3 := b3 _ _ (Ne.symm (hw.ne hD)) (s2 _ _ hz)
        refine ⟨D, _, _, i, rfl, rfl, hz3, ixNat rfl (by rw [List.length_map]; omega), ?_⟩
        refine ⟨_, rfl, ?_⟩
        have hz4 : (upd H3 D (.lst ((zs.map V.int).set i (.int 1)))) D = some (.lst ((zs.set i 1).map V.int)) := by rw [upd_same, List.map_set]
        refine q _ D (zs.set i 1) ((b1.trans ((Same.but s2).trans b3)).updN hD) (w3.upd (hw.ne hD)) hz4 hD (by rw [List.length_set]; exact lz') (fun z hz' => ?_) ?_
        · rcases List.mem_or_eq_of_mem_set hz' with h | h
          · exact kz z h
          · rw [h]
            decide
        · refine dot_one_pos (i := i) (by rw [List.length_set]; omega) ?_
          rw [List.getD_eq_getElem?_getD, List.getElem?_set_self (by omega)]
          rfl
      · refine ⟨_, rfl, ?_⟩
        refine q _ D zs (b1.trans (Same.but s2)) ((w1.same s2).mono (by omega)) (s2 _ _ hz) hD lz' kz ?_
        have z1 : dotL zs zs ≠ 0 := fun z => by
          have := of_decide_eq_false e
          exact this (by rw [z])
        have := dot_self_nn zs
        omega
abbrev s__law_moments : Stmt := topS 49
abbrev N__law_moments : List Str := ["rows", "scale", "way", "led", "own", "first", "row"]
theorem sc__law_moments : FnScope N__law_moments ["rows", "scale", "way"] (defScope s__law_moments) := ⟨rfl, rfl, rfl, by decide +kernel, rfl, by decide +kernel, by decide +kernel⟩
def meanM (M : List (List Int)) (way : List Int) (z : Int) : Rat := Rat.divInt (dotL way (ledR M way)) (z * dotL way way)
def spreadM (M : List (List Int)) (way : List Int) (z : Int) : Rat := Rat.divInt (dotL (ledR M way) (ledR M way) * dotL way way - dotL way (ledR M way) * dotL way (ledR M way)) (z * z * dotL way way * dotL way way)
def spMoments (K : PySem.W.Frag) : Sp := fun vs H Q _ => ∃ (p : Addr) (z : Int) (pw : Addr) (ps : List Addr) (M : List (List Int)) (n : Nat) (way : List Int), vs = [.ref p, .int z, .ref pw] ∧ Mx H p ps M ∧ Bn n 90 M ∧ n ≤ 5 ∧ 0 < z ∧ z.natAbs < 2 ^ 60 ∧ H pw = some (.lst (way.map V.int)) ∧ way.length = n ∧ (∀ x ∈ way, x.natAbs < 2 ^ 30) ∧ 0 < dotL way way ∧
  ∀ H' r v1 v2, Same H H' → H' r = some (.tup [v1, v2]) → DpT K H' v1 (frd (meanM M way z)) → DpT K H' v2 (frd (spreadM M way z)) → Bq 200 (meanM M way z) → Bq 400 (spreadM M way z) → Q (.ref r) H'
theorem ok_moments (T : Gs K mg) (D__law_dot : Df P w K mg base "_law_dot" 1 ["one", "two"] spDot) (D__law_lowest : Df P w K mg base "_law_lowest" 2 ["upper", "lower"] spFrac) (F : At K mg "_law_moments" s__law_moments) : Df P w K mg base "_law_moments" 3 ["rows", "scale", "way"] (spMoments K) := by
  have sc := sc__law_moments
  refine Df.mk' F sc (fun vs H Q E h => ?_) (fun _ _ _ _ _ _ us hl => match us, hl with | [_, _, _], _ => rfl) (fun f cdv A outer s H vs Q E hr h => ?_)
  · obtain ⟨p, z, pw, ps, M, n, way, rfl, _⟩ := h
    rfl
  · obtain ⟨p, z, pw', ps, M, n, way, rfl, mx, bn, n5, z0, bz, hway, lw, bw, o0, q⟩ := h
    refine ⟨_, (pss_cons (ps_par (i := 3) (j := 4) rfl sc.nd rfl rfl (by decide) rfl rfl (pa_cons (pe_lc (own := [("row", 6)]) (g := gName 6) rfl sc.nd (pi_list (pv 0)) (blkOk_by (own := [("row", 6)]) (N := N__law_moments) (sc := defScope s__law_moments) (by decide +kernel)) (fun _ _ _ _ _ => (pg_name (i := 6) sc.nd rfl (.inl rfl))) (fun _ _ _ _ _ => pts_nil) (fun _ _ _ _ _ => (pe_fn D__law_dot (by decide) hr (pa_cons (pv 6) (pa_cons (pv 2) pa_nil))))) (pa_cons (pe_fn D__law_dot (by decide) hr (pa_cons (pv 2) (pa_cons (pv 2) pa_nil))) pa_nil)) (by rfl)) (pss_cons (ps_set (i := 5) sc.nd rfl (.inl rfl) (pe_fn D__law_dot (by decide) hr (pa_cons (pv 2) (pa_cons (pv 3) pa_nil)))) (pss_one (ps_ret (pe_tup (pa_cons (pe_fn D__law_lowest (by decide) hr (pa_cons (pv 5) (pa_cons (pe_op op_mulW (pv 1) (pv 4)) pa_nil))) (pa_cons (pe_fn D__law_lowest (by decide) hr (pa_cons (pe_op op_sub (pe_op op_mulW (pe_fn D__law_dot (by decide) hr (pa_cons (pv 3) (pa_cons (pv 3) pa_nil))) (pv 4)) (pe_op op_mulW (pv 5) (pv 5))) (pa_cons (pe_op op_mulW (pe_op op_mulW (pe_op op_mulW (pv 1) (pv 1)) (pv 4)) (pv 4)) pa_nil))) pa_nil))))))), ?_⟩
    have lps : (ps.map V.ref).length = n := by rw [List.length_map, mx.len, bn.len]
    have bL : ∀ x ∈ ledR M way, x.natAbs < 2 ^ 124 := fun x hx' => by
      obtain ⟨g, hg, rfl⟩ := List.mem_map.mp hx'
      exact dot_lt (b := 90) (c := 30) (by rw [(bn.row g hg).1]; omega) (bn.row g hg).2 bw
    have lL : (ledR M way).length = n := by unfold ledR; rw [List.length_map, bn.len]
    refine ⟨_, rfl, p, rfl, ⟨_, SqL.of mx.at_⟩, fun D hD => lc_list (K := K) (a := p) (xs := ps.map V.ref) (fun i H' => Same H H' ∧ H' D = some (.lst (((M.take i).map fun g => dotL g way).map V.int)))
      ⟨same_upd hD, upd_same⟩ (fun i H' _ h => SqL.of (h.1 _ _ mx.at_)) ?_ ?_⟩
    · rintro i x H1 hi ⟨sm, hz⟩
      obtain ⟨qr, nr, rfl, hqj, hgj, hqr⟩ := mxRow mx hi
      have hil : i < (ps.map V.ref).length := (List.getElem?_eq_some_iff.mp hi).1
      have mr := List.mem_of_getElem? hgj
      refine ⟨rfl, yesIf ?_⟩
      refine ⟨_, rfl, _, rfl, qr, pw', nr, way, 90, 30, rfl, sm _ _ hqr, sm _ _ hway, by rw [(bn.row nr mr).1, lw], by rw [(bn.row nr mr).1]; omega, by decide, by decide, (bn.row nr mr).2, bw, fun H3 s3 => ?_⟩
      refine ⟨_, s3 _ _ hz, small1000 (by rw [List.length_map, List.length_map, List.length_take]; omega), same_updN (sm.trans s3) hD, ?_⟩
      rw [upd_same, take_more hgj, List.map_append, List.map_append]
      rfl
    · rintro H1 ⟨sm, hz⟩
      have e : (M.take (ps.map V.ref).length) = M := by rw [lps, ← bn.len, List.take_length]
      rw [e] at hz
      have hz : H1 D = some (.lst ((ledR M way).map V.int)) := hz
      refine ⟨_, rfl, _, rfl, pw', pw', way, way, 30, 30, rfl, sm _ _ hway, sm _ _ hway, rfl, by omega, by decide, by decide, bw, bw, fun H2 s2 => ?_⟩
      refine ⟨_, _, rfl, ?_⟩
      have sm2 := sm.trans s2
      refine ⟨_, rfl, _, rfl, pw', D, way, ledR M way, 30, 124, rfl, sm2 _ _ hway, s2 _ _ hz, by rw [lw, lL], by omega, by decide, by decide, bw, bL, fun H3 s3 => ?_⟩
      have sm3 := sm2.trans s3
      have bo : (dotL way way).natAbs < 2 ^ 64 := dot_lt (by omega) bw bw
      have bf : (dotL way (ledR M way)).natAbs < 2 ^ 158 := dot_lt (by omega) bw bL
      have bl : (dotL (ledR M way) (ledR M way)).natAbs < 2 ^ 252 := dot_lt (by omega) bL bL
      have m1 := mulI bz bo
      have m2 := mulI bz bz
      have m3 := mulI m2 bo
      have m4 := mulI m3 bo
      have m5 := mulI bl bo
      have m6 := mulI bf bf
      have p1 := Int.mul_pos z0 o0
      have p2 := Int.mul_pos (Int.mul_pos (Int.mul_pos z0 z0) o0) o0
      have q1 : Bq 200 (meanM M way z) := bq_div p1 (Nat.lt_of_lt_of_le bf (pw (by decide))) (Nat.lt_of_lt_of_le m1 (pw (by decide)))
      have q2 : Bq 400 (spreadM M way z) := bq_div p2 (Nat.lt_of_lt_of_le (sub_lt_pw (a := 316) m5 m6) (pw (by decide))) (Nat.lt_of_lt_of_le m4 (pw (by decide)))
      refine ⟨_, rfl, _, rfl, _, rfl, _, _, rfl, rfl, wide_mul bz bo (by decide) (by decide) (by decide), _, _, rfl, p1, Nat.lt_of_lt_of_le m1 (pw (by decide)), fun H4 p4 s4 h4 => ?_⟩
      have sm4 := sm3.trans s4
      have hz4 := s4 _ _ (s3 _ _ (s2 _ _ hz))
      refine ⟨_, rfl, _, rfl, D, D, ledR M way, ledR M way, 124, 124, rfl, hz4, hz4, rfl, by omega, by decide, by decide, bL, bL, fun H5 s5 => ?_⟩
      refine ⟨_, rfl, _, _, rfl, rfl, wide_mul bl bo (by decide) (by decide) (by decide), ?_⟩
      refine ⟨_, rfl, _, rfl, _, _, rfl, rfl, wide_mul bf bf (by decide) (by decide) (by decide), ?_⟩
      refine ⟨_, _, rfl, rfl, ?_⟩
      refine ⟨_, rfl, _, rfl, _, _, rfl, rfl, wide_mul bz bz (by decide) (by decide) (by decide), ?_⟩
      refine ⟨_, rfl, _, _, rfl, rfl, wide_mul m2 bo (by decide) (by decide) (by decide), ?_⟩
      refine ⟨_, rfl, _, _, rfl, rfl, wide_mul m3 bo (by decide) (by decide) (by decide), ?_⟩
      refine ⟨_, _, rfl, p2, Nat.lt_of_lt_of_le m4 (pw (by decide)), fun H6 p6 s6 h6 => ?_⟩
      refine ⟨by show 2 ≤ sizeLine; decide, fun p7 hp7 => ?_⟩
      have s7 := same_upd (o := .tup [.ref p4, .ref p6]) hp7
      exact q _ p7 _ _ ((sm4.trans s5).trans (s6.trans s7)) upd_same (fqSame (fqO h4) (s5.trans (s6.trans s7))) (fqSame (fqO h6) s7) q1 q2
end
end V3
namespace V3
open PySem.Spec PySem L2 PyProof.Rows RZ GxR
theorem sum_bd10 : ∀ (ns : List Int), (∀ z ∈ ns, 0 ≤ z ∧ z < 1024) → 0 ≤ ns.sum ∧ ns.sum ≤ 1023 * ns.length
  | [], _ => by simp
  | x :: r, h => by
    have h1 := h x List.mem_cons_self
    have h2 := sum_bd10 r fun y hy => h y (List.mem_cons_of_mem _ hy)
    (rw [List.sum_cons, List.length_cons])
    omega
theorem div00 : Rat.divInt 0 1 = 0 := by rw [Rat.zero_divInt]
theorem bq00 (b : Nat) (hb : 1 ≤ b) : Bq b (Rat.divInt 0 1) := Bq.mono (a := 1) ⟨by rw [div00]; decide +kernel, by rw [div00]; decide +kernel⟩ hb
section
variable {mg : Str → Option Value} {base : Heap} {K : PySem.W.Frag} {P : Program} {w : World}
abbrev s__law_shared : Stmt := topS 50
abbrev N__law_shared : List Str := ["roots", "parts", "whole", "mean", "spread", "k", "gap"]
theorem sc__law_shared : FnScope N__law_shared ["roots", "parts"] (defScope s__law_shared) := ⟨rfl, rfl, rfl, by decide +kernel, rfl, by decide +kernel, by decide +kernel⟩
def shx (qs : List Rat) (k : Nat) : Rat := qs.getD k 0
def shy (ns : List Int) (k : Nat) : Rat := Rat.divInt (ns.getD k 0) ns.sum
def spLShared (K : PySem.W.Frag) : Sp := fun vs H Q _ => ∃ (pr pp : Addr) (us : List V) (qs : List Rat) (ns : List Int), vs = [.ref pr, .ref pp] ∧ H pr = some (.lst us) ∧ DpTAll K H us (qs.map frd) ∧ qs.length ≤ 5 ∧ (∀ q ∈ qs, Bq 10 q) ∧
  H pp = some (.lst (ns.map V.int)) ∧ ns.length = qs.length ∧ (∀ z ∈ ns, 0 ≤ z ∧ z < 1024) ∧ 0 < ns.sum ∧
  ∀ H' p v1 v2, Same H H' → H' p = some (.tup [v1, v2]) → DpT K H' v1 (frd (shM (shx qs) (shy ns) qs.length)) → DpT K H' v2 (frd (shS (shx qs) (shy ns) (shM (shx qs) (shy ns) qs.length) qs.length)) → Bq 1900 (shM (shx qs) (shy ns) qs.length) → Bq 1900 (shS (shx qs) (shy ns) (shM (shx qs) (shy ns) qs.length) qs.length) → Q (.ref p) H'
theorem ok_shared2 (T : Gs K mg) (D__law_lowest : Df P w K mg base "_law_lowest" 2 ["upper", "lower"] spFrac) (D__law_plus : Df P w K mg base "_law_plus" 3 ["one", "two"] (spR2 K (· + ·) fun _ => True)) (D__law_minus : Df P w K mg base "_law_minus" 3 ["one", "two"] (spR2 K (· - ·) fun _ => True))
    (D__law_times : Df P w K mg base "_law_times" 3 ["one", "two"] (spR2 K (· * ·) fun _ => True)) (F : At K mg "_law_shared" s__law_shared) : Df P w K mg base "_law_shared" 4 ["roots", "parts"] (spLShared K) := by
  have sc := sc__law_shared
  refine Df.mk' F sc (fun vs H Q E h => ?_) (fun _ _ _ _ _ _ us hl => match us, hl with | [_, _], _ => rfl) (fun f cdv A outer s H vs Q E hr h => ?_)
  · obtain ⟨a, pr, us, qs, ns, rfl, _⟩ := h
    rfl
  · obtain ⟨pr, pp, us, qs, ns, rfl, hp, hd, l5, kq, hpp, ln, kn, W0, q⟩ := h
    refine ⟨_, (pss_cons (ps_par3 (i := 2) (j := 3) (l := 4) rfl sc.nd rfl rfl rfl (by decide) (by decide) (by decide) rfl rfl rfl (pa_cons (pe_callB (cr_sum rfl) (by rfl) T.sum (by decide +kernel) (pa_cons (pv 1) pa_nil)) (pa_cons (pe_tup (pa_cons pe_int (pa_cons pe_int pa_nil))) (pa_cons (pe_tup (pa_cons pe_int (pa_cons pe_int pa_nil))) pa_nil))) (by rfl)) (pss_cons (ps_for PassesOwn.never rfl (pi_range1 rfl T.range (pa_cons (pe_callB call_len_seq (by rfl) T.len PySem.boot_len (pa_cons (pv 0) pa_nil)) pa_nil)) (pg_name (i := 5) sc.nd rfl (.inl rfl)) (pss_one (ps_set (i := 3) sc.nd rfl (.inl rfl) (pe_fn D__law_plus (by decide) hr (pa_cons (pv 3) (pa_cons (pe_fn D__law_times (by decide) hr (pa_cons (pe_ix ix_list (pv 0) (pv 5) (fun _ _ => rfl)) (pa_cons (pe_fn D__law_lowest (by decide) hr (pa_cons (pe_ix ix_list (pv 1) (pv 5) (fun _ _ => rfl)) (pa_cons (pv 2) pa_nil))) pa_nil))) pa_nil)))))) (pss_cons (ps_for PassesOwn.never rfl (pi_range1 rfl T.range (pa_cons (pe_callB call_len_seq (by rfl) T.len PySem.boot_len (pa_cons (pv 0) pa_nil)) pa_nil)) (pg_name (i := 5) sc.nd rfl (.inl rfl)) (pss_cons (ps_set (i := 6) sc.nd rfl (.inl rfl) (pe_fn D__law_minus (by decide) hr (pa_cons (pe_ix ix_list (pv 0) (pv 5) (fun _ _ => rfl)) (pa_cons (pv 3) pa_nil)))) (pss_one (ps_set (i := 4) sc.nd rfl (.inl rfl) (pe_fn D__law_plus (by decide) hr (pa_cons (pv 4) (pa_cons (pe_fn D__law_times (by decide) hr (pa_cons (pe_fn D__law_times (by decide) hr (pa_cons (pv 6) (pa_cons (pv 6) pa_nil))) (pa_cons (pe_fn D__law_lowest (by decide) hr (pa_cons (pe_ix ix_list (pv 1) (pv 5) (fun _ _ => rfl)) (pa_cons (pv 2) pa_nil))) pa_nil))) pa_nil))))))) (pss_one (ps_ret (pe_tup (pa_cons (pv 3) (pa_cons (pv 4) pa_nil)))))))), ?_⟩
    have Wb := sum_bd10 ns kn
    have lu : us.length = qs.length := fqLen hd
    have share : ∀ z ∈ ns, Bq 13 (Rat.divInt z ns.sum) := fun z hz => by
      have := kn z hz
      exact bq_div W0 (by omega) (by omega)
    refine ⟨_, rfl, pp, ns, rfl, SqL.of hpp, ?_⟩
    refine ⟨by show 2 ≤ sizeLine; decide, fun p1 hp1 => ?_⟩
    have t1 : Same H (upd H p1 (.tup [.int 0, .int 1])) := same_upd hp1
    refine ⟨by show 2 ≤ sizeLine; decide, fun p2 hp2 => ?_⟩
    have t2 : Same (upd H p1 (.tup [.int 0, .int 1])) (upd (upd H p1 (.tup [.int 0, .int 1])) p2 (.tup [.int 0, .int 1])) := same_upd hp2
    have z1 : DpT K (upd (upd H p1 (.tup [.int 0, .int 1])) p2 (.tup [.int 0, .int 1])) (.ref p1) (frd (Rat.divInt 0 1)) := fqI (t2 _ _ upd_same) (by rw [div00]; rfl) (by rw [div00]; rfl)
    have z2 : DpT K (upd (upd H p1 (.tup [.int 0, .int 1])) p2 (.tup [.int 0, .int 1])) (.ref p2) (frd (Rat.divInt 0 1)) := fqI upd_same (by rw [div00]; rfl) (by rw [div00]; rfl)
    have t12 := t1.trans t2
    generalize hH2 : upd (upd H p1 (.tup [.int 0, .int 1])) p2 (.tup [.int 0, .int 1]) = H2 at z1 z2 t12
    refine ⟨_, _, _, rfl, ?_⟩
    have gW : ∀ (i : Nat), i < us.length → shy ns i = Rat.divInt (ns.getD i 0) ns.sum ∧ ns.getD i 0 ∈ ns ∧ atI (ns.map V.int) ((0 : Int) + (i : Int)) = some (.int (ns.getD i 0)) := fun i hi => by
      have hi2 : i < ns.length := by omega
      refine ⟨rfl, ?_, at_int hi2⟩
      rw [getD_of hi2]
      exact List.getElem_mem hi2
    have gQ : ∀ {Hx : Hp}, Same H Hx → ∀ (i : Nat), i < us.length → ∃ v, atI us ((0 : Int) + (i : Int)) = some v ∧ DpT K Hx v (frd (shx qs i)) ∧ Bq 10 (shx qs i) := fun sm i hi => by
      have hi2 : i < qs.length := by omega
      have e : shx qs i = qs[i] := by
        unfold shx
        rw [List.getD_eq_getElem?_getD, List.getElem?_eq_getElem hi2]
        rfl
      obtain ⟨v, hv, dv⟩ := fqGet hd (List.getElem?_eq_getElem hi2)
      rw [e]
      refine ⟨v, ?_, fqSame dv sm, kq _ (List.getElem_mem hi2)⟩
      rw [Int.zero_add]
      exact atI_nat hv
    have sz9 : ns.sum.natAbs < 2 ^ 9000 := lt9000 (by omega) (by omega)
    -- the mean
    refine ⟨_, rfl, pr, _, rfl, .inl (SqL.of (t12 _ _ hp)), ?_⟩
    refine ⟨_, rfl, by omega, by omega, for_range (lo := 0) (n := _) (fun i σ H' => ∃ (vm : V) (y5 y6 : Option V), σ = [some (.ref pr), some (.ref pp), some (.int ns.sum), some vm, some (.ref p2), y5, y6] ∧ Same H2 H' ∧ DpT K H' vm (frd (shM (shx qs) (shy ns) i)) ∧ Bq (1 + 24 * i) (shM (shx qs) (shy ns) i))
      ⟨_, _, _, rfl, Same.refl _, z1, bq00 _ (by decide)⟩ ?_ ?_⟩
    · rintro i σ H3 hi ⟨vm, y5, y6, rfl, sm, dm, km⟩
      have hi' : i < us.length := by omega
      have sH := t12.trans sm
      obtain ⟨v, hv, dv, k1⟩ := gQ sH i hi'
      obtain ⟨ey, hzm, hza⟩ := gW i hi'
      have k2 := share _ hzm
      refine ⟨_, rfl, _, rfl, _, rfl, pr, us, _, v, rfl, rfl, SqL.of (sH _ _ hp), hv, ?_⟩
      refine ⟨_, rfl, _, rfl, pp, _, _, _, rfl, rfl, SqL.of (sH _ _ hpp), hza, ?_⟩
      refine ⟨_, rfl, _, _, rfl, W0, sz9, fun H4 p4 s4 h4 => ?_⟩
      rw [← ey] at k2 h4
      have k12 : Bq 23 (shx qs i * shy ns i) := k1.mul k2 (by decide)
      refine ⟨_, _, _, _, rfl, fqSame dv s4, fqO h4, k1.mono (by decide), k2.mono (by decide), .intro, fun H5 p5 s5 h5 => ?_⟩
      refine ⟨_, _, _, _, rfl, fqSame dm (s4.trans s5), fqO h5, km.mono (by omega), k12.mono (by decide), .intro, fun H6 p6 s6 h6 => ?_⟩
      exact ⟨_, _, _, rfl, sm.trans ((s4.trans s5).trans s6), fqO h6, km.add k12 (by omega)⟩
    rintro σ H3 ⟨vm, y5, y6, rfl, sm, dm, km⟩
    have el : ((us.length : Nat) : Int).toNat = qs.length := by omega
    rw [el] at dm km
    have bm : Bq 121 (shM (shx qs) (shy ns) qs.length) := km.mono (by omega)
    generalize em : shM (shx qs) (shy ns) qs.length = m at dm bm q
    have sH3 := t12.trans sm
    have z3 : DpT K H3 (.ref p2) (frd (Rat.divInt 0 1)) := fqSame z2 sm
    -- the spread
    refine ⟨_, rfl, pr, _, rfl, .inl (SqL.of (sH3 _ _ hp)), ?_⟩
    refine ⟨_, rfl, by omega, by omega, for_range (lo := 0) (n := _) (fun i σ H' => ∃ (vs : V) (y5 y6 : Option V), σ = [some (.ref pr), some (.ref pp), some (.int ns.sum), some vm, some vs, y5, y6] ∧ Same H3 H' ∧ DpT K H' vs (frd (shS (shx qs) (shy ns) m i)) ∧ Bq (1 + 278 * i) (shS (shx qs) (shy ns) m i))
      ⟨_, _, _, rfl, Same.refl _, z3, bq00 _ (by decide)⟩ ?_ ?_⟩
    · rintro i σ H4 hi ⟨vs, y5, y6, rfl, sm4, ds, ks⟩
      have hi' : i < us.length := by omega
      have sH := sH3.trans sm4
      obtain ⟨v, hv, dv, k1⟩ := gQ sH i hi'
      obtain ⟨ey, hzm, hza⟩ := gW i hi'
      have k2 := share _ hzm
      rw [← ey] at k2
      have bg : Bq 132 (shx qs i - m) := k1.sub bm (by decide)
      have bgg : Bq 264 ((shx qs i - m) * (shx qs i - m)) := bg.mul bg (by decide)
      have bgs : Bq 277 ((shx qs i - m) * (shx qs i - m) * shy ns i) := bgg.mul k2 (by decide)
      refine ⟨_, rfl, _, rfl, pr, us, _, v, rfl, rfl, SqL.of (sH _ _ hp), hv, ?_⟩
      refine ⟨_, rfl, _, _, _, m, rfl, dv, fqSame dm sm4, k1.mono (by decide), bm.mono (by decide), .intro, fun H5 p5 s5 h5 => ?_⟩
      refine ⟨_, rfl, _, rfl, _, rfl, _, _, shx qs i - m, shx qs i - m, rfl, fqO h5, fqO h5, bg.mono (by decide), bg.mono (by decide), .intro, fun H6 p6 s6 h6 => ?_⟩
      have s46 := s5.trans s6
      refine ⟨_, rfl, _, rfl, pp, _, _, _, rfl, rfl, SqL.of (s46 _ _ (sH _ _ hpp)), hza, ?_⟩
      refine ⟨_, rfl, _, _, rfl, W0, sz9, fun H7 p7 s7 h7 => ?_⟩
      rw [← ey] at h7
      refine ⟨_, _, _, _, rfl, fqSame (fqO h6) s7, fqO h7, bgg.mono (by decide), k2.mono (by decide), .intro, fun H8 p8 s8 h8 => ?_⟩
      refine ⟨_, _, _, _, rfl, fqSame ds ((s46.trans s7).trans s8), fqO h8, ks.mono (by omega), bgs.mono (by decide), .intro, fun H9 p9 s9 h9 => ?_⟩
      exact ⟨_, _, _, rfl, sm4.trans (((s46.trans s7).trans s8).trans s9), fqO h9, ks.add bgs (by omega)⟩
    · rintro σ H4 ⟨vs, y5, y6, rfl, sm4, ds, ks⟩
      rw [el] at ds ks
      refine ⟨_, rfl, _, rfl, by show 2 ≤ sizeLine; decide, fun p hp' => ?_⟩
      have s5 := same_upd (o := .tup [vm, vs]) hp'
      exact q _ p vm vs ((sH3.trans sm4).trans s5) upd_same (fqSame dm (sm4.trans s5)) (fqSame ds s5) (bm.mono (by decide)) (ks.mono (by omega))
end
end V3
namespace V3
open PySem.Spec PySem L2 PyProof.Rows RZ GxR
/-! ### shown texts -/
theorem strOk_of (s : String) : PyData.strOk (Str.ofString s) = true := by
  unfold PyData.strOk
  rw [Str.ofString_eq_toList, Array.all_eq_true_iff_forall_mem]
  intro c hc
  rw [Array.mem_def] at hc
  obtain ⟨x, _, rfl⟩ := List.mem_map.mp hc
  have hv : x.toNat < 0x110000 := by
    have := x.valid
    have e : x.toNat = x.val.toNat := rfl
    rw [e]
    rcases this with h | h
    · have h : x.val.toNat < 0xd800 := h
      omega
    · exact h.2
  exact decide_eq_true hv
theorem strOk_app {a b : Str} (ha : PyData.strOk a = true) (hb : PyData.strOk b = true) : PyData.strOk (a ++ b) = true := by
  unfold PyData.strOk at *
  rw [Str.cps_append, Array.all_append, ha, hb]
  rfl
theorem strOk_frd (x : Rat) : PyData.strOk (frd x).shown = true := by
  show PyData.strOk ((Str.ofString "(" ++ (Str.ofString (toString x.num) ++ Str.ofString ", " ++ Str.ofString (toString (x.den : Int)))) ++ Str.ofString ")") = true
  exact strOk_app (strOk_app (strOk_of _) (strOk_app (strOk_app (strOk_of _) (strOk_of _)) (strOk_of _))) (strOk_of _)
/-! ### where the spread is 0 -/
theorem div_zero_iff {a b : Int} (h : b ≠ 0) : Rat.divInt a b = 0 ↔ a = 0 := by
  constructor
  · intro e
    rw [← div00, Rat.divInt_eq_divInt_iff h (by decide)] at e
    omega
  · intro e
    rw [e, Rat.zero_divInt]
theorem led_sm {M : List (List Int)} {way : List Int} {n i : Nat} (hl : M.length = n) (hr : ∀ r ∈ M, r.length = n) (hi : i < n) : (ledR M way).getD i 0 = sm n fun j => (M.getD i []).getD j 0 * way.getD j 0 := by
  obtain ⟨g1, g2⟩ := getMx hl hi
  unfold ledR
  rw [List.getD_eq_getElem?_getD, List.getElem?_map, g1]
  show dotL (M.getD i []) way = _
  rw [dotL_sm, hr _ g2]
theorem less_dot {M : List (List Int)} {way : List Int} {n : Nat} {z : Int} {m : Rat} {i : Nat} (hl : M.length = n) (hr : ∀ r ∈ M, r.length = n) (hi : i < n) :
    dotL ((List.range n).map fun j => (M.getD i []).getD j 0 * (m.den : Int) - (if i = j then m.num * z else 0)) way = (m.den : Int) * (ledR M way).getD i 0 - m.num * z * way.getD i 0 := by
  rw [led_sm hl hr hi, dotL_sm, List.length_map, List.length_range]
  have h : sm n (fun k => ((List.range n).map fun j => (M.getD i []).getD j 0 * (m.den : Int) - (if i = j then m.num * z else 0)).getD k 0 * way.getD k 0) =
      sm n (fun k => (m.den : Int) * ((M.getD i []).getD k 0 * way.getD k 0) + (-1) * ((if i = k then m.num * z else 0) * way.getD k 0)) := sm_congr fun k hk => by
    rw [getD_range _ _ hk]
    grind
  rw [h, sm_lin, sm_alone n i (m.num * z) _ hi]
  grind
theorem stays_iff {M : List (List Int)} {way : List Int} {n : Nat} {z : Int} (hl : M.length = n) (hr : ∀ r ∈ M, r.length = n) (hw : way.length = n) (z0 : 0 < z) (o0 : 0 < dotL way way) :
    (∀ line ∈ lessM n M z (meanM M way z), dotL line way = 0) ↔ spreadM M way z = 0 := by
  have lr : (ledR M way).length = n := by unfold ledR; rw [List.length_map, hl]
  have f1 : dotL way way = sm n fun k => way.getD k 0 * way.getD k 0 := by rw [dotL_sm, hw]
  have f2 : dotL way (ledR M way) = sm n fun k => way.getD k 0 * (ledR M way).getD k 0 := by rw [dotL_sm, hw]
  have f3 : dotL (ledR M way) (ledR M way) = sm n fun k => (ledR M way).getD k 0 * (ledR M way).getD k 0 := by rw [dotL_sm, lr]
  have t : (meanM M way z).num * (z * dotL way way) = dotL way (ledR M way) * ((meanM M way z).den : Int) := prT_eq (Int.mul_pos z0 o0)
  have d0 : 0 < ((meanM M way z).den : Int) := rden_pos _
  have lines : (∀ line ∈ lessM n M z (meanM M way z), dotL line way = 0) ↔ ∀ i, i < n → ((meanM M way z).den : Int) * (ledR M way).getD i 0 - (meanM M way z).num * z * way.getD i 0 = 0 := by
    constructor
    · intro h i hi
      rw [← less_dot hl hr hi]
      exact h _ (List.mem_map.mpr ⟨i, List.mem_range.mpr hi, rfl⟩)
    · intro h line hm
      obtain ⟨i, hi, rfl⟩ := List.mem_map.mp hm
      have hi := List.mem_range.mp hi
      rw [less_dot hl hr hi]
      exact h i hi
  rw [lines]
  unfold spreadM
  rw [div_zero_iff (by
    have := Int.mul_pos (Int.mul_pos (Int.mul_pos z0 z0) o0) o0
    omega)]
  generalize (meanM M way z).num = u at t ⊢
  generalize ((meanM M way z).den : Int) = d at t d0 ⊢
  have key : sm n (fun k => (d * (ledR M way).getD k 0 - u * z * way.getD k 0) * (d * (ledR M way).getD k 0 - u * z * way.getD k 0)) = d * d * dotL (ledR M way) (ledR M way) - 2 * d * (u * z) * dotL way (ledR M way) + (u * z) * (u * z) * dotL way way := by
    rw [f1, f2, f3]
    have h : sm n (fun k => (d * (ledR M way).getD k 0 - u * z * way.getD k 0) * (d * (ledR M way).getD k 0 - u * z * way.getD k 0)) = sm n (fun k => 1 * ((d * d) * ((ledR M way).getD k 0 * (ledR M way).getD k 0) + (-2 * d * (u * z)) * (way.getD k 0 * (ledR M way).getD k 0)) + ((u * z) * (u * z)) * (way.getD k 0 * way.getD k 0)) := sm_congr fun k _ => by grind
    rw [h, sm_lin, sm_lin]
    grind
  constructor
  · intro h
    have k0 : sm n (fun k => (d * (ledR M way).getD k 0 - u * z * way.getD k 0) * (d * (ledR M way).getD k 0 - u * z * way.getD k 0)) = 0 := by
      have : sm n (fun k => (d * (ledR M way).getD k 0 - u * z * way.getD k 0) * (d * (ledR M way).getD k 0 - u * z * way.getD k 0)) = sm n (fun k => 0 * 0) := sm_congr fun k hk => by rw [h k hk]
      rw [this, sm_mul]
      simp
    rw [k0] at key
    have e : d * d * (dotL (ledR M way) (ledR M way) * dotL way way - dotL way (ledR M way) * dotL way (ledR M way)) = 0 := by
      generalize dotL (ledR M way) (ledR M way) = S at *
      generalize dotL way (ledR M way) = f at *
      generalize dotL way way = o at *
      have e1 : (d * d * S - 2 * d * (u * z) * f + (u * z) * (u * z) * o) * o = 0 := by rw [← key]; simp
      have e2 : u * z * o = f * d := by grind
      have e3 : (d * d * S - 2 * d * (u * z) * f + (u * z) * (u * z) * o) * o = d * d * (S * o) - 2 * d * f * (u * z * o) + (u * z * o) * (u * z * o) := by grind
      rw [e3, e2] at e1
      grind
    rcases Int.mul_eq_zero.mp e with h | h
    · rcases Int.mul_eq_zero.mp h with h | h <;> omega
    · exact h
  · intro e
    have k0 : sm n (fun k => (d * (ledR M way).getD k 0 - u * z * way.getD k 0) * (d * (ledR M way).getD k 0 - u * z * way.getD k 0)) = 0 := by
      rw [key]
      generalize dotL (ledR M way) (ledR M way) = S at *
      generalize dotL way (ledR M way) = f at *
      generalize dotL way way = o at *
      have e2 : u * z * o = f * d := by grind
      have e3 : (d * d * S - 2 * d * (u * z) * f + (u * z) * (u * z) * o) * o = d * d * (S * o) - 2 * d * f * (u * z * o) + (u * z * o) * (u * z * o) := by grind
      have e4 : S * o = f * f := by omega
      have e5 : (d * d * S - 2 * d * (u * z) * f + (u * z) * (u * z) * o) * o = 0 := by
        rw [e3, e2, e4]
        grind
      rcases Int.mul_eq_zero.mp e5 with h | h
      · exact h
      · omega
    exact sm_sq0 k0
/-! ### what is asked of a told table and a told row -/
theorem prT_nz {z c : Int} (h : 0 < z) (c0 : c ≠ 0) : (prT z c).1 ≠ 0 := fun e => by
  have h1 := prT_eq (z := z) (c := c) h
  have h2 := prT_pos z c
  rw [e, Int.zero_mul] at h1
  rcases Int.mul_eq_zero.mp h1.symm with h | h
  · exact c0 h
  · omega
theorem prT_one (c : Int) : prT 1 c = (c, 1) := by
  have e : Int.gcd c 1 = 1 := by
    rw [Int.gcd_one_right]
  have h1 : (Rat.divInt c 1).num = c := by
    rw [dnum (by decide), e]
    exact Int.ediv_one c
  have h2 : ((Rat.divInt c 1).den : Int) = 1 := by
    rw [dden (by decide), e]
    rfl
  show ((Rat.divInt c 1).num, ((Rat.divInt c 1).den : Int)) = _
  rw [h1, h2]
theorem fitT {K : PySem.W.Frag} {TT : List Addr} {H : Hp} {v u : V} {M : List (List Int)} {way : List Int} {n : Nat} {z ov : Int} (dv : DpT K H v (toldP M z)) (sy : Sy n 90 M) (n1 : 1 ≤ n) (n5 : n ≤ 5) (z0 : 0 < z) (zb : z.natAbs < 2 ^ 60)
    (du : DpT K H u (rowD (rowT way ov))) (lw : way.length = n) (bw : ∀ x ∈ way, x.natAbs < 2 ^ 40) (ov0 : 0 < ov) (ovb : ov.natAbs < 2 ^ 60) (nz : ∃ x ∈ way, x ≠ 0) (t : Tabs TT H) : Fit K TT H v u (rowsT M z) (rowT way ov) 200 := by
  have one : lcmAll [rowT way ov] = lcmAll (rowsT [way] ov) := rfl
  refine { dv := by rw [rowsT_d]; exact dv, ok := ?_, du := du, okr := ?_, nz := ?_, l1 := ?_, l2 := ?_, sr := ?_, sq := ?_, lr := ?_, lq := ?_, b0 := by decide, b9 := by decide, br := ?_, bq := ?_, tabs := t }
  · rw [rowsT_d, conv_told]
    exact told_tab sy n1 n5
  · rw [rowT_d]
    show rowB _ (D.tup (convs (way.map fun c => frd (Rat.divInt c ov)))) = true
    rw [convs_map, List.map_map]
    show (decide _ && List.all _ _) = true
    rw [Bool.and_eq_true]
    refine ⟨decide_eq_true ?_, ?_⟩
    · unfold rowsT
      rw [List.length_map, List.length_map, lw, sy.len]
    · rw [List.all_eq_true]
      intro d hd
      obtain ⟨c, _, rfl⟩ := List.mem_map.mp hd
      exact fracB_frDD _
  · obtain ⟨x, hx, x0⟩ := nz
    rw [List.any_eq_true]
    exact ⟨prT ov x, List.mem_map.mpr ⟨x, hx, rfl⟩, by simpa using prT_nz ov0 x0⟩
  · unfold rowsT
    rw [List.length_map, sy.len]
    omega
  · unfold rowT
    rw [List.length_map]
    omega
  · intro r hr
    obtain ⟨r', hr', rfl⟩ := List.mem_map.mp hr
    refine ⟨by unfold rowT; rw [List.length_map, (sy.row r' hr').1]; omega, fun q hq => ?_⟩
    obtain ⟨c, hc, rfl⟩ := List.mem_map.mp hq
    exact prT_sf z0 zb ((sy.row r' hr').2 c hc) (by decide)
  · intro q hq
    obtain ⟨c, hc, rfl⟩ := List.mem_map.mp hq
    exact prT_sf ov0 ovb (bw c hc) (by decide)
  · exact Nat.lt_of_le_of_lt (rowsT_le z0) (Nat.lt_of_lt_of_le zb (pw (by decide)))
  · rw [one]
    exact Nat.lt_of_le_of_lt (rowsT_le ov0) (Nat.lt_of_lt_of_le ovb (pw (by decide)))
  · intro r hr x hx
    exact Nat.lt_of_lt_of_le (whole_lt z0 zb (fun r hr => (sy.row r hr).2) r hr x hx) (pw (by decide))
  · intro x hx
    rw [one] at hx
    exact Nat.lt_of_lt_of_le (whole_lt (M := [way]) (b := 40) ov0 ovb (fun r hr => by rw [List.mem_singleton.mp hr]; exact bw) (rowT way ov) (List.mem_singleton.mpr rfl) x hx) (pw (by decide))
theorem dot_nz {way : List Int} (h : 0 < dotL way way) : ∃ x ∈ way, x ≠ 0 := by
  apply Classical.byContradiction
  intro hn
  have e : dotL way way = 0 := by
    rw [dotL_sm]
    have : sm way.length (fun k => way.getD k 0 * way.getD k 0) = sm way.length (fun k => 0 * 0) := sm_congr fun k hk => by
      have hz : way.getD k 0 = 0 := Classical.byContradiction fun z => hn ⟨way.getD k 0, by rw [getD_of hk]; exact List.getElem_mem hk, z⟩
      rw [hz]
    rw [this, sm_mul]
    simp
  omega
/-! ### planted -/
def wayP (W : List (List Int)) (shares : List Int) : List Int := (List.range shares.length).map fun k => dotL shares (W.map fun line => line.getD k 0)
theorem sum_sm (xs : List Int) : xs.sum = sm xs.length fun k => xs.getD k 0 := by
  have e : (List.range xs.length).map (fun k => xs.getD k 0) = xs := by
    (apply List.ext_getElem (by simp))
    intro i h1 h2
    rw [List.getElem_map, List.getElem_range, getD_of h2]
  unfold sm
  rw [e]
theorem planted_list {e roots shares : List Int} {n : Nat} {scale by' : Int} (he : e.length = n) (hr : roots.length = n) (hs : shares.length = n) (b0 : 0 < dotL e e) (z0 : 0 < scale) (hby : by' = dotL e e * dotL e e) (s0 : 0 < dotL shares shares) :
    0 < dotL (wayP (mirM e) shares) (wayP (mirM e) shares) ∧
    meanM (framedM (mirM e) (alongM roots)) (wayP (mirM e) shares) (scale * by') = shM (shx (roots.map fun c => Rat.divInt c scale)) (shy (shares.map fun x => x * x)) n ∧
    spreadM (framedM (mirM e) (alongM roots)) (wayP (mirM e) shares) (scale * by') = shS (shx (roots.map fun c => Rat.divInt c scale)) (shy (shares.map fun x => x * x)) (shM (shx (roots.map fun c => Rat.divInt c scale)) (shy (shares.map fun x => x * x)) n) n := by
  have Wrow : ∀ i, i < n → (mirM e).getD i [] = mirR e i := fun i hi => by
    unfold mirM
    rw [getD_range _ _ (by omega)]
  have Wcell : ∀ i j, i < n → j < n → (mirR e i).getD j 0 = wf (dotL e e) (fun k => e.getD k 0) i j := fun i j hi hj => by
    unfold mirR
    rw [getD_range _ _ (by omega)]
    rfl
  have Wl : (mirM e).length = n := by simp [mirM, he]
  have lF : (framedM (mirM e) (alongM roots)).length = n := by simp [framedM, Wl]
  have lFr : ∀ r ∈ framedM (mirM e) (alongM roots), r.length = n := fun r hr => by
    obtain ⟨w, _, rfl⟩ := List.mem_map.mp hr
    simp [Wl]
  have lway : (wayP (mirM e) shares).length = n := by simp [wayP, hs]
  have wayk : ∀ k, k < n → (wayP (mirM e) shares).getD k 0 = sm n fun i => shares.getD i 0 * wf (dotL e e) (fun k => e.getD k 0) i k := fun k hk => by
    unfold wayP
    rw [getD_range _ _ (by omega), dotL_sm, hs]
    refine sm_congr fun i hi => ?_
    rw [getD_map' (fun line : List Int => line.getD k 0) [] 0 (by omega), Wrow i hi, Wcell i k hi hk]
  have cell : ∀ i j, i < n → j < n → ((framedM (mirM e) (alongM roots)).getD i []).getD j 0 = sm n fun k => wf (dotL e e) (fun k => e.getD k 0) i k * (roots.getD k 0 * wf (dotL e e) (fun k => e.getD k 0) j k) := fun i j hi hj => by
    unfold framedM
    rw [getD_map' _ [] [] (by omega), getD_map' (fun w2 => dotL ((mirM e).getD i []) (ledR (alongM roots) w2)) [] 0 (by omega), Wrow i hi, Wrow j hj, dotL_sm]
    have l1 : (mirR e i).length = n := by simp [mirR, he]
    rw [l1]
    refine sm_congr fun k hk => ?_
    have l2 : (ledR (alongM roots) (mirR e j)).getD k 0 = roots.getD k 0 * (mirR e j).getD k 0 := by
      unfold ledR
      rw [getD_map' (fun g => dotL g (mirR e j)) [] 0 (by rw [along_len]; omega)]
      have : (alongM roots).getD k [] = aloneR roots k := by
        unfold alongM
        rw [getD_range _ _ (by omega)]
      rw [this, dot_alone (by omega) (by simp [mirR, he, hr])]
    rw [l2, Wcell i k hi hk, Wcell j k hj hk]
  have led : ∀ i, i < n → (ledR (framedM (mirM e) (alongM roots)) (wayP (mirM e) shares)).getD i 0 = sm n (fun j => sm n (fun k => wf (dotL e e) (fun k => e.getD k 0) i k * (roots.getD k 0 * wf (dotL e e) (fun k => e.getD k 0) j k)) * (wayP (mirM e) shares).getD j 0) := fun i hi => by
    rw [led_sm lF lFr hi]
    exact sm_congr fun j hj => by rw [cell i j hi hj]
  have lled : (ledR (framedM (mirM e) (alongM roots)) (wayP (mirM e) shares)).length = n := by simp [ledR, lF]
  obtain ⟨p1, p2, p3⟩ := planted n (dotL e e) (fun k => e.getD k 0) (fun k => roots.getD k 0) (fun k => shares.getD k 0) (by rw [dotL_sm, he]) (fun k => (wayP (mirM e) shares).getD k 0) (fun i => (ledR (framedM (mirM e) (alongM roots)) (wayP (mirM e) shares)).getD i 0) wayk led
  have d1 : dotL (wayP (mirM e) shares) (wayP (mirM e) shares) = _ := (by rw [dotL_sm, lway] : _ = sm n fun k => (wayP (mirM e) shares).getD k 0 * (wayP (mirM e) shares).getD k 0).trans p1
  have d2 : dotL (wayP (mirM e) shares) (ledR (framedM (mirM e) (alongM roots)) (wayP (mirM e) shares)) = _ := (by rw [dotL_sm, lway] : _ = sm n fun k => (wayP (mirM e) shares).getD k 0 * (ledR (framedM (mirM e) (alongM roots)) (wayP (mirM e) shares)).getD k 0).trans p2
  have d3 : dotL (ledR (framedM (mirM e) (alongM roots)) (wayP (mirM e) shares)) (ledR (framedM (mirM e) (alongM roots)) (wayP (mirM e) shares)) = _ := (by rw [dotL_sm, lled] : _ = sm n fun k => (ledR (framedM (mirM e) (alongM roots)) (wayP (mirM e) shares)).getD k 0 * (ledR (framedM (mirM e) (alongM roots)) (wayP (mirM e) shares)).getD k 0).trans p3
  have es : dotL shares shares = sm n fun k => shares.getD k 0 * shares.getD k 0 := by rw [dotL_sm, hs]
  rw [es] at s0
  have ex : shx (roots.map fun c => Rat.divInt c scale) = fun k => Rat.divInt (roots.getD k 0) scale := by
    funext k
    unfold shx
    rw [List.getD_eq_getElem?_getD, List.getElem?_map, List.getD_eq_getElem?_getD]
    cases roots[k]? with
    | none =>
      show (0 : Rat) = Rat.divInt 0 scale
      rw [Rat.zero_divInt]
    | some c => rfl
  have esum : (shares.map fun x => x * x).sum = sm n fun k => shares.getD k 0 * shares.getD k 0 := by
    rw [sum_sm, List.length_map, hs]
    refine sm_congr fun k hk => ?_
    rw [getD_map' (fun x : Int => x * x) 0 0 (by omega)]
  have ey : shy (shares.map fun x => x * x) = fun k => Rat.divInt (shares.getD k 0 * shares.getD k 0) (sm n fun k => shares.getD k 0 * shares.getD k 0) := by
    funext k
    unfold shy
    rw [esum, List.getD_eq_getElem?_getD, List.getElem?_map, List.getD_eq_getElem?_getD]
    cases shares[k]? with
    | none => rfl
    | some c => rfl
  rw [ex, ey]
  have bb := Int.mul_pos b0 b0
  refine ⟨by rw [d1]; exact Int.mul_pos bb s0, ?_⟩
  exact planted_moments (p := fun k => shares.getD k 0 * shares.getD k 0) (b := dotL e e) (by omega) (by omega) (by omega) rfl rfl rfl d1 d2 d3 (by rw [hby])
end V3
set_option maxHeartbeats 16000000
namespace V3
open PySem.Spec PySem L2 PyProof.Rows RZ GxR
/-- all but the well and the tables stands -/
def BW (a : Addr) (TT : List Addr) (H H' : Hp) : Prop := ∀ b o, b ≠ a → b ∉ TT → H b = some o → H' b = some o
theorem BW.trans {a : Addr} {TT : List Addr} {H H1 H2 : Hp} (x : BW a TT H H1) (y : BW a TT H1 H2) : BW a TT H H2 := fun b o h1 h2 e => y b o h1 h2 (x b o h1 h2 e)
theorem But.bw {a : Addr} {TT : List Addr} {H H' : Hp} (x : But a H H') : BW a TT H H' := fun b o h1 _ e => x b o h1 e
theorem B3.bw {a : Addr} {TT : List Addr} {H H' : Hp} (x : B3 TT H H') : BW a TT H H' := fun b o _ h2 e => x b o h2 e
theorem Same.bw {a : Addr} {TT : List Addr} {H H' : Hp} (x : Same H H') : BW a TT H H' := fun b o _ _ e => x b o e
/-- the well and the tables -/
structure Sd (a : Addr) (TT : List Addr) (k : Nat) (H : Hp) : Prop where
  w : Well H a k
  t : Tabs TT H
section
variable {a : Addr} {TT : List Addr} {k k' : Nat} {H H' : Hp}
theorem Sd.same (d : Sd a TT k H) (s : Same H H') : Sd a TT k H' := ⟨d.w.same s, d.t.same s⟩
theorem Sd.na (d : Sd a TT k H) {p : Addr} (hp : p ∈ TT) : p ≠ a := fun e => by
  obtain ⟨ps, hq, _⟩ := d.t p hp
  obtain ⟨xs, hx⟩ := d.w.lst
  rw [e, hx] at hq
  cases hq
theorem Sd.but (d : Sd a TT k H) (b : But a H H') (w : Well H' a k') : Sd a TT k' H' := ⟨w, fun p hp => by
  obtain ⟨ps, hq, x⟩ := d.t p hp
  exact ⟨ps, b _ _ (d.na hp) hq, x⟩⟩
theorem Sd.b3 (d : Sd a TT k H) (b : B3 TT H H') (t : Tabs TT H') : Sd a TT k H' := ⟨by
  obtain ⟨x, y, z, e, r⟩ := d.w
  exact ⟨x, y, z, b _ _ (fun h => d.na h rfl) e, r⟩, t⟩
theorem Sd.mono (d : Sd a TT k H) (h : k ≤ k') : Sd a TT k' H := ⟨d.w.mono h, d.t⟩
/-- a place beside the well and the tables -/
structure Off (a : Addr) (TT : List Addr) (D : Addr) : Prop where
  w : D ≠ a
  t : D ∉ TT
theorem Sd.off (d : Sd a TT k H) {D : Addr} (h : H D = none) : Off a TT D := ⟨Ne.symm (d.w.ne h), fun hp => by
  obtain ⟨ps, hq, _⟩ := d.t D hp
  rw [h] at hq
  cases hq⟩
theorem BW.at (b : BW a TT H H') {D : Addr} {o : HO} (f : Off a TT D) (e : H D = some o) : H' D = some o := b D o f.w f.t e
theorem Sd.kt (d : Sd a TT k H) (b : BW a TT H H') : KeepT H H' := by
  refine ⟨fun c xs e => b c _ (fun z => ?_) (fun z => ?_) e, fun c o u e => b c _ (fun z => ?_) (fun z => ?_) e⟩
  · obtain ⟨xs, hx⟩ := d.w.lst
    rw [z, hx] at e
    cases e
  · obtain ⟨ps, hq, _⟩ := d.t c z
    rw [e] at hq
    cases hq
  · obtain ⟨xs, hx⟩ := d.w.lst
    rw [z, hx] at e
    cases e
  · obtain ⟨ps, hq, _⟩ := d.t c z
    rw [e] at hq
    cases hq
theorem Sd.offL (d : Sd a TT k H) {D : Addr} {xs : List V} (e : H D = some (.lst xs)) (n : a ≠ D) : Off a TT D := ⟨Ne.symm n, fun hp => by
  obtain ⟨ps, hq, _⟩ := d.t D hp
  rw [e] at hq
  cases hq⟩
theorem Mx.bw {p : Addr} {ps : List Addr} {M : List (List Int)} (h : Mx H p ps M) (b : BW a TT H H') (f : Off a TT p) (g : ∀ x ∈ ps, Off a TT x) : Mx H' p ps M :=
  ⟨b.at f h.at_, h.out, h.nd, h.len, fun i q r h1 h2 => b.at (g q (List.mem_of_getElem? h1)) (h.row i q r h1 h2)⟩
theorem Sd.offMx (d : Sd a TT k H) {p : Addr} {ps : List Addr} {M : List (List Int)} (h : Mx H p ps M) (n : a ≠ p) (m : ∀ x ∈ ps, a ≠ x) : Off a TT p ∧ ∀ x ∈ ps, Off a TT x := ⟨d.offL h.at_ n, fun x hx => by
  obtain ⟨i, hi⟩ := List.getElem?_of_mem hx
  have hl : i < M.length := by
    (have := (List.getElem?_eq_some_iff.mp hi).1)
    rw [h.len] at this
    exact this
  exact d.offL (h.row i x _ hi (List.getElem?_eq_getElem hl)) (m x hx)⟩
end
theorem fun_keep {K : PySem.W.Frag} {H H' : Hp} {v : V} {d : PyData} (s : Same H H') (h : DpT K H v d) : DpT K H' v d := DpT.keep (Same.kt s) h
theorem mkP {H : Hp} {p : Addr} {o : HO} (h : H p = none) : ∃ H', upd H p o = H' ∧ Same H H' ∧ H' p = some o := ⟨_, rfl, same_upd h, upd_same⟩
/-- one more fraction in a list -/
theorem frStep {K : PySem.W.Frag} {H1 H2 H3 : Hp} {D p3 : Addr} {ys : List V} {f : Int → Rat} {r : List Int} {j : Nat} {c : Int} (hD : H1 D = none) (sm2 : Same H1 H2) (hy : H2 D = some (.lst ys)) (ay : DpTAll K H2 ys ((r.take j).map fun c => frd (f c))) (hc : r[j]? = some c) (l : r.length ≤ 100) (s3 : Same H2 H3) (h3 : H3 p3 = some (frO (f c))) :
    ∃ acc, H3 D = some (.lst acc) ∧ acc.length < sizeLine ∧ Same H1 (upd H3 D (.lst (acc ++ [.ref p3]))) ∧ ∃ ys', (upd H3 D (.lst (acc ++ [.ref p3]))) D = some (.lst ys') ∧ DpTAll K (upd H3 D (.lst (acc ++ [.ref p3]))) ys' ((r.take (j + 1)).map fun c => frd (f c)) := by
  have ly : ys.length ≤ 100 := by
    rw [dtAll_len ay, List.length_map, List.length_take]
    omega
  have hy3 := s3 _ _ hy
  refine ⟨ys, hy3, small1000 (by omega), same_updN (sm2.trans s3) hD, ys ++ [.ref p3], upd_same, ?_⟩
  rw [take_more hc, List.map_append]
  exact dtAll_app ((ay.keep (Same.kt s3)).keep (kt_lst hy3)) (.cons (DpT.keep (kt_lst hy3) (fqO h3)) .nil)
/-- lines at their places -/
inductive LsA (H : Hp) : List V → List (List Int) → Prop
  | nil : LsA H [] []
  | cons {q : Addr} {r : List Int} {vs : List V} {ls : List (List Int)} : H q = some (.lst (r.map V.int)) → LsA H vs ls → LsA H (.ref q :: vs) (r :: ls)
theorem LsA.keep {H H' : Hp} {vs : List V} {ls : List (List Int)} (h : LsA H vs ls) (D : Addr) (nd : ∀ q, V.ref q ∈ vs → q ≠ D) (s : ∀ b o, b ≠ D → H b = some o → H' b = some o) : LsA H' vs ls := by
  induction h with
  | nil => exact .nil
  | cons e _ ih => exact .cons (s _ _ (nd _ List.mem_cons_self) e) (ih fun q hq => nd q (List.mem_cons_of_mem _ hq))
theorem LsA.snoc {H : Hp} {vs : List V} {ls : List (List Int)} {q : Addr} {r : List Int} (h : LsA H vs ls) (e : H q = some (.lst (r.map V.int))) : LsA H (vs ++ [.ref q]) (ls ++ [r]) := by
  induction h with
  | nil => exact .cons e .nil
  | cons e2 _ ih => exact .cons e2 ih
theorem LsA.len {H : Hp} {vs : List V} {ls : List (List Int)} (h : LsA H vs ls) : vs.length = ls.length := by
  induction h with
  | nil => rfl
  | cons _ _ ih =>
    (rw [List.length_cons, List.length_cons])
    rw [ih]
def lineD (r : List Int) : PyData := .list (r.map PyData.int)
theorem dpInts {K : PySem.W.Frag} {H : Hp} : ∀ r : List Int, DpAll K H (r.map V.int) (r.map PyData.int)
  | [] => .nil
  | x :: r => .cons (.int x) (dpInts r)
theorem LsA.dp {K : PySem.W.Frag} {H : Hp} {vs : List V} {ls : List (List Int)} (h : LsA H vs ls) : DpAll K H vs (ls.map lineD) := by
  induction h with
  | nil => exact .nil
  | cons e _ ih => exact .cons (.lst (SqL.of e) (dpInts _)) ih
theorem shaped_lines (ls : List (List Int)) : SeqAt.shaped (.list (ls.map lineD)) = true := by
  have c1 : ∀ r : List Int, PyData.canLayAll0 (r.map PyData.int) = true := fun r => by
    induction r with
    | nil => rfl
    | cons a r ih => simp only [List.map_cons, PyData.canLayAll0, PyData.canLay0, ih, Bool.and_self]
  have d1 : ∀ r : List Int, PyData.depthAll (r.map PyData.int) = 0 := fun r => by
    induction r with
    | nil => rfl
    | cons a r ih =>
      rw [List.map_cons, PyData.depthAll, ih]
      rfl
  have h1 : ∀ qs : List (List Int), PyData.canLayAll0 (qs.map lineD) = true := fun qs => by
    induction qs with
    | nil => rfl
    | cons a r ih => simp only [List.map_cons, PyData.canLayAll0, PyData.canLay0, lineD, c1, ih, Bool.and_self]
  have h2 : ∀ qs : List (List Int), PyData.depthAll (qs.map lineD) ≤ 1 := fun qs => by
    induction qs with
    | nil => exact Nat.zero_le _
    | cons a r ih =>
      have e : PyData.depth (lineD a) = 1 := by
        show PyData.depth (.list (a.map PyData.int)) = 1
        rw [PyData.depth, d1]
      rw [List.map_cons, PyData.depthAll, e]
      omega
  have := h2 ls
  unfold SeqAt.shaped
  rw [Bool.and_eq_true, decide_eq_true_eq, PyData.depth]
  exact ⟨by rw [PyData.canLay0]; exact h1 ls, by omega⟩
theorem moments1 {M : List (List Int)} {way : List Int} {n : Nat} {z ov : Int} (hl : M.length = n) (hr : ∀ r ∈ M, r.length = n) (hw : way.length = n) (z0 : 0 < z) (ov0 : 0 < ov) (o0 : 0 < dotL way way)
    (zs : List Int) (c : Int) (c0 : 0 < c) (lp : 0 < dotZ zs zs) (ez : wholeRow (lcmAll [rowT way ov] : Nat) (rowT way ov) = zs.map (fun z => c * z)) :
    meanQ (dotZ zs zs) (dotZ zs (ledZ (rowsT M z) zs)) (dotZ (ledZ (rowsT M z) zs) (ledZ (rowsT M z) zs)) (lcmAll (rowsT M z) : Nat) = meanM M way z ∧
    spreadQ (dotZ zs zs) (dotZ zs (ledZ (rowsT M z) zs)) (dotZ (ledZ (rowsT M z) zs) (ledZ (rowsT M z) zs)) (lcmAll (rowsT M z) : Nat) = spreadM M way z := by
  have e : way.map ((1 : Int) * ·) = way := by
    rw [List.map_congr_left (g := id) (fun x _ => Int.one_mul x), List.map_id]
  exact moments (y := 1) hl hr hw z0 ov0 (by decide) o0 c0 lp (by rw [e]; exact ez)
theorem sq_sum (xs : List Int) : (xs.map fun x => x * x).sum = dotL xs xs := by
  rw [sum_sm, List.length_map, dotL_sm]
  refine sm_congr fun k hk => ?_
  rw [getD_map' (fun x : Int => x * x) 0 0 hk]
theorem dot_at_pos {xs : List Int} {i : Nat} (h0 : i < xs.length) (h1 : xs.getD i 0 ≠ 0) : 0 < dotL xs xs := by
  have h2 := dot_self_nn xs
  have h3 : dotL xs xs ≠ 0 := fun e => h1 (sm_sq0 (n := xs.length) (f := fun k => xs.getD k 0) e i h0)
  omega
theorem Sy.bn {n b : Nat} {M : List (List Int)} (h : Sy n b M) : Bn n b M := ⟨h.len, h.row⟩
end V3
namespace V3
open PySem.Spec PySem L2 PyProof.Rows RZ GxR
section
variable {mg : Str → Option Value} {base : Heap} {K : PySem.W.Frag} {P : Program} {w : World}
abbrev s__law_right : Stmt := topS 52
abbrev N__law_right : List Str := ["well", "rows", "scale", "roots", "size", "table", "way", "over", "mean", "spread", "stays", "led", "by", "shares", "turn", "k", "line", "root", "share", "cell"]
theorem sc__law_right : FnScope N__law_right ["well"] (defScope s__law_right) := ⟨rfl, rfl, rfl, by decide +kernel, rfl, by decide +kernel, by decide +kernel⟩
theorem ok_right_c (T : Gs K mg) {TT : List Addr} (D__law_lowest : Df P w K mg base "_law_lowest" 2 ["upper", "lower"] spFrac) (D__law_dot : Df P w K mg base "_law_dot" 1 ["one", "two"] spDot) (D__law_told : Df P w K mg base "_law_told" 3 ["rows", "scale"] (spTold K))
    (D__law_shared : Df P w K mg base "_law_shared" 4 ["roots", "parts"] (spLShared K)) (D__law_told_right : Dg P w K mg base "_law_told_right" 10 ["table", "row", "mean", "spread"] (spToldRight K TT))
    {f : Addr} {cdv : Value} {A : Around} {outer : List Env} {s0 : Shared} {H0 : Hp} {E : XK} (hr : Room 10 (A.deeper (envOfC "_law_right" (defScope s__law_right) s0.heap.objs.size f cdv))) (hg : A.guards = some []) :
    ∃ t, PSs (cxOf CX0 P w K mg base N__law_right "_law_right" (defScope s__law_right) f cdv A outer s0 H0 E).nox ((defBody s__law_right).drop 12) t ∧
      ∀ (Q : VK) (Hs : Hp) (a r9 Dr pm pS : Addr) (rs9 ps7 : List Addr) (roots sh e : List Int) (m k : Nat) (mi sc2 zz : Int) (y5 y6 y7 y8 y9 y10 y14 y15 y16 y17 y18 y19 : Option V), Sd a TT k Hs → mi = (m : Int) → 1 ≤ m → m ≤ 5 → 1 ≤ sc2 → sc2 ≤ 3 → e.length = m → 0 < dotL e e → zz = dotL e e * dotL e e → zz.natAbs < 2 ^ 40 →
        Mx Hs pm ps7 (mirM e) → Bn m 20 (mirM e) → Mx Hs r9 rs9 (framedM (mirM e) (alongM roots)) → Sy m 90 (framedM (mirM e) (alongM roots)) → Hs Dr = some (.lst (roots.map V.int)) → roots.length = m → (∀ z ∈ roots, z.natAbs < 2 ^ 3) →
        Hs pS = some (.lst (sh.map V.int)) → sh.length = m → (∀ z ∈ sh, z.natAbs < 2 ^ 2) → 0 < dotL sh sh → (∀ H', BW a TT Hs H' → Tabs TT H' → Q (.bl true) H') →
        t { nx := fun _ H' => Q .non H', rt := Q } [some (.ref a), some (.ref r9), some (.int sc2), some (.ref Dr), some (.int mi), y5, y6, y7, y8, y9, y10, some (.ref pm), some (.int zz), some (.ref pS), y14, y15, y16, y17, y18, y19] Hs := by
  have sc := sc__law_right
  refine ⟨_, (pss_cons (ps_set (i := 6) sc.nd rfl (.inr rfl) (pe_lc (own := [("k", 15)]) (g := gName 15) rfl sc.nd (pi_range1 rfl T.range (pa_cons (pv 4) pa_nil)) (blkOk_by (own := [("k", 15)]) (N := N__law_right) (sc := defScope s__law_right) (by decide +kernel)) (fun _ _ _ _ _ => (pg_name (i := 15) sc.nd rfl (.inr rfl))) (fun _ _ _ _ _ => pts_nil) (fun _ _ _ _ _ => (pe_fn D__law_dot (by decide) hr (pa_cons (pv 13) (pa_cons (pe_lc (own := [("line", 16)]) (g := gName 16) rfl sc.nd (pi_listK (K := K) rfl (pv 11)) (blkOk_by (own := [("line", 16)]) (N := N__law_right) (sc := ({ kind := .function, names := [(".0", .local), ("k", .cell), ("_law_dot", .globalImplicit), ("led", .cell), ("shares", .cell)], isGenerator := false, isCoroutine := false } : Scope)) (by decide +kernel)) (fun _ _ _ _ _ => (pg_name (i := 16) sc.nd rfl (.inl rfl))) (fun _ _ _ _ _ => pts_nil) (fun _ _ _ _ _ => (pe_ix (ixLK (K := K) rfl) (pv 16) (pv 15) (fun _ _ => rfl)))) pa_nil)))))) (pss_cons (ps_asg (pe_fn D__law_shared (by decide) hr (pa_cons (pe_lc (own := [("root", 17)]) (g := gName 17) rfl sc.nd (pi_list (pv 3)) (blkOk_by (own := [("root", 17)]) (N := N__law_right) (sc := defScope s__law_right) (by decide +kernel)) (fun _ _ _ _ _ => (pg_name (i := 17) sc.nd rfl (.inl rfl))) (fun _ _ _ _ _ => pts_nil) (fun _ _ _ _ _ => (pe_fn D__law_lowest (by decide) hr (pa_cons (pv 17) (pa_cons (pv 2) pa_nil))))) (pa_cons (pe_lc (own := [("share", 18)]) (g := gName 18) rfl sc.nd (pi_list (pv 13)) (blkOk_by (own := [("share", 18)]) (N := N__law_right) (sc := defScope s__law_right) (by decide +kernel)) (fun _ _ _ _ _ => (pg_name (i := 18) sc.nd rfl (.inl rfl))) (fun _ _ _ _ _ => pts_nil) (fun _ _ _ _ _ => (pe_op op_mulW (pv 18) (pv 18)))) pa_nil))) (pg_tup rfl (pgs_cons (pg_name (i := 8) sc.nd rfl (.inl rfl)) (pgs_cons (pg_name (i := 9) sc.nd rfl (.inl rfl)) pgs_nil)))) (pss_one (ps_ret (pe_fng D__law_told_right (by decide) hr hg (pa_cons (pe_fn D__law_told (by decide) hr (pa_cons (pv 1) (pa_cons (pe_op op_mulW (pv 2) (pv 12)) pa_nil))) (pa_cons (pe_callTy call_tuple_of (by rfl) T.tuple_ (by decide +kernel) (pa_cons (pe_lc (own := [("cell", 19)]) (g := gName 19) rfl sc.nd (pi_list (pv 6)) (blkOk_by (own := [("cell", 19)]) (N := N__law_right) (sc := defScope s__law_right) (by decide +kernel)) (fun _ _ _ _ _ => (pg_name (i := 19) sc.nd rfl (.inl rfl))) (fun _ _ _ _ _ => pts_nil) (fun _ _ _ _ _ => (pe_tup (pa_cons (pv 19) (pa_cons pe_int pa_nil))))) pa_nil)) (pa_cons (pv 8) (pa_cons (pv 9) pa_nil))))))))), ?_⟩
  intro Q Hs a r9 Dr pm pS rs9 ps7 roots sh e m k mi sc2 zz y5 y6 y7 y8 y9 y10 y14 y15 y16 y17 y18 y19 sds hmi m1 m5 sc1 sc3 he e0 hzz bzz m7 bM m9 sy9 hroots lroots kroots hS lS kS oS q
  have lM : (mirM e).length = m := bM.len
  have lps7 : (ps7.map V.ref).length = m := by rw [List.length_map, m7.len, lM]
  -- the row of the planted shares
  refine ⟨_, rfl, _, rfl, by omega, by omega, fun Dw hDw => lc_range (lo := 0) (n := _) (fun i H' => Same Hs H' ∧ H' Dw = some (.lst (((List.range i).map fun k => dotL sh ((mirM e).map fun line => line.getD k 0)).map V.int)))
    ⟨same_upd hDw, upd_same⟩ ?_ ?_⟩
  · rintro i H1 hi ⟨sm, hz⟩
    have him : i < m := by omega
    refine ⟨rfl, yesIf ?_⟩
    refine ⟨_, rfl, _, rfl, pm, rfl, ⟨_, SqL.of (sm _ _ m7.at_)⟩, fun D2 hD2 => lc_list (K := K) (a := pm) (xs := ps7.map V.ref) (fun j H' => Same H1 H' ∧ H' D2 = some (.lst ((((mirM e).take j).map fun line => line.getD i 0).map V.int)))
      ⟨same_upd hD2, upd_same⟩ (fun j H' _ h => SqL.of (h.1 _ _ (sm _ _ m7.at_))) ?_ ?_⟩
    · rintro j y H2 hj ⟨sm2, hz2⟩
      obtain ⟨qr, nr, rfl, hqj, hgj, hqr⟩ := mxRow m7 hj
      have hjl : j < (ps7.map V.ref).length := (List.getElem?_eq_some_iff.mp hj).1
      have mr := List.mem_of_getElem? hgj
      refine ⟨rfl, yesIf ?_⟩
      refine ⟨_, rfl, _, rfl, qr, _, _, _, rfl, rfl, SqL.of (sm2 _ _ (sm _ _ hqr)), at_int (by rw [(bM.row nr mr).1]; exact him), ?_⟩
      refine ⟨_, hz2, small1000 (by rw [List.length_map, List.length_map, List.length_take]; omega), same_updN sm2 hD2, ?_⟩
      rw [upd_same, take_more hgj, List.map_append, List.map_append]
      rfl
    · rintro H2 ⟨sm2, hz2⟩
      have e2 : (mirM e).take (ps7.map V.ref).length = mirM e := by rw [lps7, ← lM, List.take_length]
      rw [e2] at hz2
      have bcol : ∀ x ∈ (mirM e).map fun line => line.getD i 0, x.natAbs < 2 ^ 20 := fun x hx => by
        obtain ⟨r, hr2, rfl⟩ := List.mem_map.mp hx
        exact getD_lt (bM.row r hr2).2
      refine ⟨pS, D2, sh, _, 2, 20, rfl, sm2 _ _ (sm _ _ hS), hz2, by rw [List.length_map, lS, lM], by omega, by decide, by decide, kS, bcol, fun H3 s3 => ?_⟩
      refine ⟨_, s3 _ _ (sm2 _ _ hz), small1000 (by rw [List.length_map, List.length_map, List.length_range]; omega), same_updN ((sm.trans sm2).trans s3) hDw, ?_⟩
      rw [upd_same, List.range_succ, List.map_append, List.map_append]
      rfl
  rintro H1 ⟨sm1, hw1⟩
  have ew : ((List.range (mi.toNat)).map fun k => dotL sh ((mirM e).map fun line => line.getD k 0)) = wayP (mirM e) sh := by
    unfold wayP
    rw [lS]
    have : mi.toNat = m := by omega
    rw [this]
  have hw1 : H1 Dw = some (.lst ((wayP (mirM e) sh).map V.int)) := by rw [← ew]; exact hw1
  have lway : (wayP (mirM e) sh).length = m := by simp [wayP, lS]
  have bway : ∀ x ∈ wayP (mirM e) sh, x.natAbs < 2 ^ 26 := fun x hx => by
    obtain ⟨k, _, rfl⟩ := List.mem_map.mp hx
    exact dot_lt (b := 2) (c := 20) (by omega) kS fun x hx => by
      obtain ⟨r, hr2, rfl⟩ := List.mem_map.mp hx
      exact getD_lt (bM.row r hr2).2
  obtain ⟨pl1, pl2, pl3⟩ := planted_list (scale := sc2) he lroots lS e0 (by omega) hzz oS
  generalize hway : wayP (mirM e) sh = way at hw1 lway bway pl1 pl2 pl3
  generalize hF : framedM (mirM e) (alongM roots) = F at m9 sy9 pl2 pl3
  -- roots and shares
  have hr1 := sm1 _ _ hroots
  refine ⟨_, rfl, Dr, rfl, ⟨_, SqL.of hr1⟩, fun Dq hDq => lc_list (K := K) (a := Dr) (xs := roots.map V.int) (fun j H' => Same H1 H' ∧ ∃ ys, H' Dq = some (.lst ys) ∧ DpTAll K H' ys ((roots.take j).map fun c => frd (Rat.divInt c sc2)))
    ⟨same_upd hDq, [], upd_same, .nil⟩ (fun j H' _ h => SqL.of (h.1 _ _ hr1)) ?_ ?_⟩
  · rintro j y H2 hj ⟨sm2, ys, hy, ay⟩
    rw [List.getElem?_map] at hj
    obtain ⟨c, hc, rfl⟩ := Option.map_eq_some_iff.mp hj
    refine ⟨rfl, yesIf ?_⟩
    refine ⟨_, rfl, _, rfl, c, sc2, rfl, by omega, lt9000 (by omega) (by omega), fun H3 p3 s3 h3 => ?_⟩
    exact frStep (f := fun c => Rat.divInt c sc2) hDq sm2 hy ay hc (by omega) s3 h3
  rintro H2 ⟨sm2, us, hu, au⟩
  rw [List.length_map, List.take_length] at au
  have hS2 := sm2 _ _ (sm1 _ _ hS)
  refine ⟨_, rfl, pS, rfl, ⟨_, SqL.of hS2⟩, fun Dp hDp => lc_list (K := K) (a := pS) (xs := sh.map V.int) (fun j H' => Same H2 H' ∧ H' Dp = some (.lst (((sh.take j).map fun x => x * x).map V.int)))
    ⟨same_upd hDp, upd_same⟩ (fun j H' _ h => SqL.of (h.1 _ _ hS2)) ?_ ?_⟩
  · rintro j y H3 hj ⟨sm3, hz⟩
    rw [List.getElem?_map] at hj
    obtain ⟨c, hc, rfl⟩ := Option.map_eq_some_iff.mp hj
    have bc := kS c (List.mem_of_getElem? hc)
    refine ⟨rfl, yesIf ?_⟩
    refine ⟨_, rfl, _, rfl, _, _, rfl, rfl, wide_mul (a := 2) (b := 2) bc bc (by decide) (by decide) (by decide), ?_⟩
    refine ⟨_, hz, small1000 (by rw [List.length_map, List.length_map, List.length_take]; omega), same_updN sm3 hDp, ?_⟩
    rw [upd_same, take_more hc, List.map_append, List.map_append]
    rfl
  rintro H3 ⟨sm3, hp3⟩
  rw [List.length_map, List.take_length] at hp3
  have eq3 : roots.map (fun c => frd (Rat.divInt c sc2)) = (roots.map fun c => Rat.divInt c sc2).map frd := by rw [List.map_map]; rfl
  rw [eq3] at au
  refine ⟨Dq, Dp, us, roots.map fun c => Rat.divInt c sc2, sh.map fun x => x * x, rfl, sm3 _ _ hu, au.keep (Same.kt sm3), by rw [List.length_map]; omega, fun x hx => ?_, hp3, by rw [List.length_map, List.length_map, lroots, lS], fun x hx => ?_, by rw [sq_sum]; exact oS, fun H4 r4 v1 v2 s4 h4 d1 d2 q1 q2 => ?_⟩
  · obtain ⟨c, hc, rfl⟩ := List.mem_map.mp hx
    have := kroots c hc
    exact bq_div (by omega) (by omega) (by omega)
  · obtain ⟨c, hc, rfl⟩ := List.mem_map.mp hx
    have := kS c hc
    have c3 : c = -3 ∨ c = -2 ∨ c = -1 ∨ c = 0 ∨ c = 1 ∨ c = 2 ∨ c = 3 := by omega
    rcases c3 with rfl | rfl | rfl | rfl | rfl | rfl | rfl <;> decide
  rw [List.length_map, lroots] at d1 d2 q1 q2
  rw [← pl2] at d1 d2 q1 q2
  rw [pl2, ← pl3] at d2 q2
  refine ⟨r4, _, rfl, SqT.of h4, rfl, _, _, rfl, _, _, rfl, rfl, ?_⟩
  have s14 := sm2.trans (sm3.trans s4)
  have m94 := m9.same (sm1.trans s14)
  -- told right
  have zb : (sc2 * zz).natAbs < 2 ^ 60 := Nat.lt_of_lt_of_le (mulI (a := 2) (b := 40) (by omega) bzz) (V3.pw (by decide))
  have zz0 : 0 < zz := by
    rw [hzz]
    exact Int.mul_pos e0 e0
  have z0 : 0 < sc2 * zz := Int.mul_pos (by omega) zz0
  refine ⟨_, rfl, _, rfl, _, rfl, _, _, rfl, rfl, wide_mul (a := 2) (b := 40) (by omega) bzz (by decide) (by decide) (by decide), ?_⟩
  refine ⟨r9, rs9, F, sc2 * zz, rfl, m94, by rw [sy9.len]; omega, fun r hr2 => by rw [(sy9.row r hr2).1]; omega, z0, Nat.lt_of_lt_of_le zb (V3.pw (by decide)), fun H5 l s5 dl => ?_⟩
  have hw5 := (s14.trans s5) _ _ hw1
  refine ⟨_, rfl, Dw, rfl, ⟨_, SqL.of hw5⟩, fun D hD => lc_list (K := K) (a := Dw) (xs := way.map V.int) (fun j H' => Same H5 H' ∧ ∃ ys, H' D = some (.lst ys) ∧ DpTAll K H' ys ((way.take j).map fun c => frd (Rat.divInt c 1)))
    ⟨same_upd hD, [], upd_same, .nil⟩ (fun j H' _ h => SqL.of (h.1 _ _ hw5)) ?_ ?_⟩
  · rintro j y H6 hj ⟨sm6, ys, hy, ay⟩
    rw [List.getElem?_map] at hj
    obtain ⟨c, hc, rfl⟩ := Option.map_eq_some_iff.mp hj
    refine ⟨rfl, yesIf ?_⟩
    refine ⟨_, rfl, by show 2 ≤ sizeLine; decide, fun p7 hp7 => ?_⟩
    have e1 : frO (Rat.divInt c 1) = .tup [.int c, .int 1] := by
      have h := prT_one c
      show HO.tup [.int (prT 1 c).1, .int (prT 1 c).2] = _
      rw [h]
    exact frStep (f := fun c => Rat.divInt c 1) hD sm6 hy ay hc (by omega) (same_upd hp7) (by rw [upd_same, e1])
  rintro H6 ⟨sm6, ys, hy, ay⟩
  rw [List.length_map, List.take_length] at ay
  refine ⟨D, ys, rfl, .inl ⟨SqL.of hy, fun lq hlq => ?_⟩⟩
  obtain ⟨H7, e7, s7, a7⟩ := mkP (o := .tup ys) hlq
  rw [e7]
  have s57 := sm6.trans s7
  have dq7 : DpT K H7 (.ref lq) (rowD (rowT way 1)) := by
    rw [rowT_d]
    exact .tup (SqT.of a7) (ay.keep (Same.kt s7))
  have sall : Same Hs H7 := sm1.trans (s14.trans (s5.trans s57))
  have sd7 := sds.same sall
  have s47 := s5.trans s57
  have fit7 : Fit K TT H7 (.ref l) (.ref lq) (rowsT F (sc2 * zz)) (rowT way 1) 200 := fitT (fun_keep s57 dl) sy9 m1 m5 z0 zb dq7 lway (fun x hx => Nat.lt_of_lt_of_le (bway x hx) (V3.pw (by decide))) (by decide) (by decide) (dot_nz pl1) sd7.t
  refine ⟨_, rfl, _, rfl, _, _, _, _, _, _, 200, meanM F way (sc2 * zz), spreadM F way (sc2 * zz), rfl, fit7, fqSame d1 s47, fqSame d2 s47, q1, q2, strOk_frd _, strOk_frd _, fun zs c c0 lp ez => moments1 sy9.len (fun r hr2 => (sy9.row r hr2).1) lway z0 (by decide) pl1 zs c c0 lp ez, fun H9 b9 t9 => ?_⟩
  exact q H9 ((Same.bw sall).trans b9.bw) t9
end
end V3
namespace V3
open PySem.Spec PySem L2 PyProof.Rows RZ GxR
section
variable {mg : Str → Option Value} {base : Heap} {K : PySem.W.Frag} {P : Program} {w : World}
theorem ok_right_b (T : Gs K mg) {TT : List Addr} (D__law_draw : Df P w K mg base "_law_draw" 1 ["well", "size"] spDraw) (D__law_pick : Df P w K mg base "_law_pick" 2 ["well", "some"] (spPick K)) (D__law_lowest : Df P w K mg base "_law_lowest" 2 ["upper", "lower"] spFrac)
    (D__law_dot : Df P w K mg base "_law_dot" 1 ["one", "two"] spDot) (D__law_framed : Df P w K mg base "_law_framed" 2 ["ways", "rows"] spFramed) (D__law_mirror : Df P w K mg base "_law_mirror" 3 ["well", "size"] spMirror)
    (D__law_along : Df P w K mg base "_law_along" 1 ["numbers"] spAlong) (D__law_told : Df P w K mg base "_law_told" 3 ["rows", "scale"] (spTold K)) (D__law_row : Df P w K mg base "_law_row" 2 ["well", "size"] spRow)
    (D__law_shared : Df P w K mg base "_law_shared" 4 ["roots", "parts"] (spLShared K)) (D__law_told_right : Dg P w K mg base "_law_told_right" 10 ["table", "row", "mean", "spread"] (spToldRight K TT))
    {f : Addr} {cdv : Value} {A : Around} {outer : List Env} {s0 : Shared} {H0 : Hp} {E : XK} (hr : Room 10 (A.deeper (envOfC "_law_right" (defScope s__law_right) s0.heap.objs.size f cdv))) (hg : A.guards = some []) :
    ∃ t, PSs (cxOf CX0 P w K mg base N__law_right "_law_right" (defScope s__law_right) f cdv A outer s0 H0 E).nox ((defBody s__law_right).drop 7) t ∧
      ∀ (Q : VK) (Hg : Hp) (a : Addr) (y1 y2 y3 y4 y5 y6 y7 y8 y9 y10 y11 y12 y13 y14 y15 y16 y17 y18 y19 : Option V), Sd a TT 67 Hg → (∀ H', BW a TT Hg H' → Tabs TT H' → Q (.bl true) H') →
        t { nx := fun _ H' => Q .non H', rt := Q } [some (.ref a), y1, y2, y3, y4, y5, y6, y7, y8, y9, y10, y11, y12, y13, y14, y15, y16, y17, y18, y19] Hg := by
  have sc := sc__law_right
  obtain ⟨tc, pc, hc⟩ := ok_right_c T D__law_lowest D__law_dot D__law_told D__law_shared D__law_told_right (outer := outer) (H0 := H0) (E := E) hr hg
  refine ⟨_, (pss_cons (ps_asg (pe_tup (pa_cons (pe_op op_add pe_int (pe_fn D__law_draw (by decide) hr (pa_cons (pv 0) (pa_cons pe_int pa_nil)))) (pa_cons (pe_fn D__law_pick (by decide) hr (pa_cons (pv 0) (pa_cons (pe_lst (pa_cons pe_int (pa_cons pe_int (pa_cons pe_int pa_nil)))) pa_nil))) pa_nil))) (pg_tup rfl (pgs_cons (pg_name (i := 4) sc.nd rfl (.inl rfl)) (pgs_cons (pg_name (i := 2) sc.nd rfl (.inr rfl)) pgs_nil)))) (pss_cons (ps_setLc (i := 3) (own := [("turn", 14)]) (g := gName 14) rfl sc.nd rfl rfl (sw_true rfl rfl rfl (by decide +kernel)) (pi_range1 rfl T.range (pa_cons (pv 4) pa_nil)) (blkOk_by (own := [("turn", 14)]) (N := N__law_right) (sc := defScope s__law_right) (by decide +kernel)) (fun _ _ _ _ _ => (pg_name (i := 14) sc.nd rfl (.inl rfl))) (fun _ _ _ _ _ => pts_nil) (fun _ _ _ _ _ => (pe_op op_sub (pe_fn D__law_draw (by decide) hr (pa_cons (pv 0) (pa_cons pe_int pa_nil))) pe_int))) (pss_cons (ps_asg (pe_fn D__law_mirror (by decide) hr (pa_cons (pv 0) (pa_cons (pv 4) pa_nil))) (pg_tup rfl (pgs_cons (pg_name (i := 11) sc.nd rfl (.inr rfl)) (pgs_cons (pg_name (i := 12) sc.nd rfl (.inl rfl)) pgs_nil)))) (pss_cons (ps_asg (pe_tup (pa_cons (pe_fn D__law_framed (by decide) hr (pa_cons (pv 11) (pa_cons (pe_fn D__law_along (by decide) hr (pa_cons (pv 3) pa_nil)) pa_nil))) (pa_cons (pe_fn D__law_row (by decide) hr (pa_cons (pv 0) (pa_cons (pv 4) pa_nil))) pa_nil))) (pg_tup rfl (pgs_cons (pg_name (i := 1) sc.nd rfl (.inl rfl)) (pgs_cons (pg_name (i := 13) sc.nd rfl (.inr rfl)) pgs_nil)))) (pss_cons (ps_if (pt_cmpR op_eq (pe_fn D__law_draw (by decide) hr (pa_cons (pv 0) (pa_cons pe_int pa_nil))) pe_int (nomark _)) (pss_cons (ps_set (i := 13) sc.nd rfl (.inr rfl) (pe_lc (own := [("k", 15)]) (g := gName 15) rfl sc.nd (pi_range1 rfl T.range (pa_cons (pv 4) pa_nil)) (blkOk_by (own := [("k", 15)]) (N := N__law_right) (sc := defScope s__law_right) (by decide +kernel)) (fun _ _ _ _ _ => (pg_name (i := 15) sc.nd rfl (.inl rfl))) (fun _ _ _ _ _ => pts_nil) (fun _ _ _ _ _ => (pe_ifExp (pt_cmpR op_eq (pv 15) pe_int (nomark _)) (pe_ix (ixLK (K := K) rfl) (pv 13) (pv 15) (fun _ _ => rfl)) pe_int)))) (pss_one (ps_asg pe_int (pg_sub (pv 13) pe_int set_list)))) pss_nil) pc))))), ?_⟩
  intro Q Hg a y1 y2 y3 y4 y5 y6 y7 y8 y9 y10 y11 y12 y13 y14 y15 y16 y17 y18 y19 sdg q
  -- the planted half
  refine ⟨_, rfl, a, _, _, rfl, sdg.w, by omega, by decide, by decide, fun Hh dn bh wh dn0 dnl => ?_⟩
  refine ⟨_, _, rfl, rfl, ?_⟩
  have sdh := sdg.but bh wh
  obtain ⟨m, hm⟩ : ∃ m : Nat, (1 : Int) + dn = m := ⟨(1 + dn).toNat, by omega⟩
  have m1 : 1 ≤ m := by omega
  have m5 : m ≤ 5 := by omega
  refine ⟨_, rfl, by show 3 ≤ sizeLine; decide, fun pl2 hpl2 => ?_⟩
  have sl2 : Same Hh (upd Hh pl2 (.lst (([1, 2, 3] : List Int).map V.int))) := same_upd hpl2
  refine ⟨a, pl2, ([1, 2, 3] : List Int).map V.int, _, rfl, (sdh.same sl2).w, by omega, upd_same, sdh.w.ne hpl2, by decide, by decide, fun Hi jx2 x2 bi wi hx2 => ?_⟩
  obtain ⟨sc2, rfl, hm2⟩ := mem6 hx2
  have bsc : 1 ≤ sc2 ∧ sc2 ≤ 3 := by
    (simp only [List.mem_cons, List.not_mem_nil, or_false] at hm2)
    omega
  have sdi := (sdh.same sl2).but bi wi
  refine ⟨by show 2 ≤ sizeLine; decide, fun pt2 hpt2 => ?_⟩
  obtain ⟨Hj, ej, sj, aj⟩ := mkP (o := .tup [.int (1 + dn), .int sc2]) hpt2
  rw [ej]
  refine ⟨pt2, _, rfl, SqT.of aj, rfl, _, _, rfl, _, _, rfl, rfl, ?_⟩
  have sdj := (sdi.same sj).mono (k' := 100) (by omega)
  have bw0j : BW a TT Hg Hj := (bh.bw.trans ((Same.bw sl2).trans (bi.bw.trans (Same.bw sj))))
  -- roots
  refine ⟨_, rfl, _, rfl, by omega, by omega, fun Dr hDr => lc_range (lo := 0) (n := _) (fun i H' => But a Hj H' ∧ Well H' a (100 + i) ∧ ∃ zs : List Int, H' Dr = some (.lst (zs.map V.int)) ∧ zs.length = i ∧ ∀ z ∈ zs, z.natAbs < 2 ^ 3)
    ⟨Same.but (same_upd hDr), sdj.w.same (same_upd hDr), [], upd_same, rfl, fun z hz => by cases hz⟩ ?_ ?_⟩
  · rintro i Hx hi ⟨b5, w5, zs, hz, lz, kz⟩
    have hi5 : i < 5 := by omega
    refine ⟨rfl, yesIf ?_⟩
    refine ⟨_, rfl, a, _, 100 + i, rfl, w5, by omega, by decide, by decide, fun Hy d by6 wy d0 dl => ?_⟩
    refine ⟨_, _, rfl, rfl, ?_⟩
    have hzy := by6 _ _ (Ne.symm (sdj.w.ne hDr)) hz
    refine ⟨_, hzy, small1000 (by rw [List.length_map]; omega), (b5.trans by6).updN hDr, wy.upd (sdj.w.ne hDr), zs ++ [d - 4], ?_, by rw [List.length_append, lz]; rfl, fun y hy => ?_⟩
    · rw [upd_same, List.map_append]
      rfl
    · rcases List.mem_append.mp hy with h | h
      · exact kz y h
      · rw [List.mem_singleton.mp h]
        omega
  rintro Hk ⟨bk, wk, roots, hroots, lroots, kroots⟩
  have lroots : roots.length = m := by omega
  have wk := wk.mono (l := 110) (by omega)
  have ndr : a ≠ Dr := sdj.w.ne hDr
  have sdk := sdj.but bk wk
  -- led, by
  refine ⟨_, rfl, _, rfl, a, m, 110, by show [V.ref a, V.int (1 + dn)] = _; rw [hm], wk, by omega, m1, m5, fun H7 p7 pm zz ps7 M7 b7 w7 h7 ne7 m7 bM nps bzz zz0 hex => ?_⟩
  obtain ⟨e, he, rfl, hzz, e0⟩ := hex
  refine ⟨p7, _, rfl, SqT.of h7, rfl, _, _, rfl, _, _, rfl, rfl, ?_⟩
  have hr7 := b7 _ _ (Ne.symm ndr) hroots
  refine ⟨_, rfl, _, rfl, Dr, roots, rfl, hr7, by omega, fun H8 p8 ps8 s8 hn8 m8 new8 => ?_⟩
  have bA : Bn m 3 (alongM roots) := ⟨by rw [along_len]; exact lroots, fun r hr2 => by
    obtain ⟨i, _, rfl⟩ := List.mem_map.mp hr2
    refine ⟨by rw [alone_len]; exact lroots, fun x hx' => ?_⟩
    obtain ⟨j, _, rfl⟩ := List.mem_map.mp hx'
    by_cases e : i = j
    · rw [if_pos e]
      exact getD_lt kroots
    · rw [if_neg e]
      exact Nat.two_pow_pos 3⟩
  refine ⟨pm, p8, ps7, ps8, mirM e, alongM roots, m, 20, 3, rfl, m7.same s8, m8, bM, bA, m5, by decide, by decide, fun H9' r9 rs9 s9' hn9 m9 new9 => ?_⟩
  have s79 := s8.trans s9'
  have w9 := w7.same s79
  have nr9 := (w7.same s8).ne hn9
  have nrs9 : ∀ x ∈ rs9, a ≠ x := fun x hx => (w7.same s8).ne (new9 x hx)
  have sy9 := framed_sym (c := 3) bM lroots kroots (by omega)
  have sy9 : Sy m 90 (framedM (mirM e) (alongM roots)) := ⟨sy9.len, fun r hr2 => ⟨(sy9.row r hr2).1, fun x hx' => Nat.lt_of_lt_of_le ((sy9.row r hr2).2 x hx') (V3.pw (by decide))⟩, sy9.sym⟩
  refine ⟨_, rfl, _, rfl, a, m, 115, by show [V.ref a, V.int (1 + dn)] = _; rw [hm], w9, by omega, m1, m5, fun H10 psh shares b10 w10 hsh npsh lsh bsh ssh => ?_⟩
  refine ⟨by show 2 ≤ sizeLine; decide, fun pt3 hpt3 => ?_⟩
  obtain ⟨H11, e11, s11, a11⟩ := mkP (o := .tup [.ref r9, .ref psh]) hpt3
  rw [e11]
  refine ⟨pt3, _, rfl, SqT.of a11, rfl, _, _, rfl, _, _, rfl, rfl, ?_⟩
  have w11 := w10.same s11
  refine ⟨_, rfl, a, _, _, rfl, w11, by omega, by decide, by decide, fun H12 d12 b12 w12 d120 d12l => ?_⟩
  have b912 : But a H9' H12 := b10.trans ((Same.but s11).trans b12)
  have m7x := (m7.same s79).but b912 ne7 w9 nps
  have m9x := m9.but b912 nr9 w9 nrs9
  have hr12 := b912 _ _ (Ne.symm ndr) (s79 _ _ hr7)
  have npsh' : psh ≠ a := Ne.symm (w9.ne npsh)
  have hsh12 := b12 _ _ npsh' (s11 _ _ hsh)
  have bw012 : BW a TT Hg H12 := bw0j.trans (bk.bw.trans (b7.bw.trans ((Same.bw s79).trans b912.bw)))
  have sd12 : Sd a TT _ H12 := ((sdk.but b7 w7).same s79).but b912 w12
  clear b10 w10 w11 a11 s11 b12 w12 h7 m7 m9 hr7 hsh hroots
  refine ⟨rfl, _, rfl, if2 (fun ee => ?cA) (fun ee => ?cB)⟩
  case' cA =>
    refine ⟨_, rfl, _, rfl, by omega, by omega, fun pS hpS => lc_range (lo := 0) (n := _) (fun i H' => Same H12 H' ∧ ∃ zs : List Int, H' pS = some (.lst (zs.map V.int)) ∧ zs.length = i ∧ ∀ z ∈ zs, z.natAbs < 2 ^ 2)
      ⟨same_upd hpS, [], upd_same, rfl, fun z hz => by cases hz⟩ ?_ ?_⟩
    · rintro i Hx hi ⟨smx, zs, hz, lz, kz⟩
      have him : i < m := by omega
      refine ⟨rfl, yesIf ?_⟩
      have fin : ∀ x : Int, x.natAbs < 2 ^ 2 → ∃ acc, Hx pS = some (.lst acc) ∧ acc.length < sizeLine ∧ Same H12 (upd Hx pS (.lst (acc ++ [.int x]))) ∧ ∃ zs : List Int, (upd Hx pS (.lst (acc ++ [.int x]))) pS = some (.lst (zs.map V.int)) ∧ zs.length = i + 1 ∧ ∀ z ∈ zs, z.natAbs < 2 ^ 2 := fun x bx => by
        refine ⟨_, hz, small1000 (by rw [List.length_map]; omega), same_updN smx hpS, zs ++ [x], ?_, by rw [List.length_append, lz]; rfl, fun y hy => ?_⟩
        · rw [upd_same, List.map_append]
          rfl
        · rcases List.mem_append.mp hy with h | h
          · exact kz y h
          · rw [List.mem_singleton.mp h]
            exact bx
      refine ⟨_, rfl, rfl, _, rfl, if2 (fun e => ?_) (fun e => ?_)⟩
      · refine ⟨_, rfl, _, rfl, psh, _, _, _, rfl, rfl, SqL.of (smx _ _ hsh12), at_int (by omega), ?_⟩
        exact fin _ (getD_lt bsh)
      · exact fin 0 (by decide)
    rintro Hx ⟨smx, zs, hz, lz, kz⟩
    have lz : zs.length = m := by omega
    refine ⟨_, rfl, pS, _, _, 0, rfl, rfl, hz, ixNat rfl (by rw [List.length_map]; omega), ?_⟩
    have s12x : Same H12 (upd Hx pS (.lst ((zs.map V.int).set 0 (.int 2)))) := same_updN smx hpS
    have hS : (upd Hx pS (.lst ((zs.map V.int).set 0 (.int 2)))) pS = some (.lst ((zs.set 0 2).map V.int)) := by rw [upd_same, List.map_set]
    have lS : (zs.set 0 2).length = m := by rw [List.length_set]; exact lz
    have kS : ∀ z ∈ zs.set 0 2, z.natAbs < 2 ^ 2 := fun z hz' => by
      rcases List.mem_or_eq_of_mem_set hz' with h | h
      · exact kz z h
      · rw [h]
        decide
    have oS : 0 < dotL (zs.set 0 2) (zs.set 0 2) := dot_at_pos (i := 0) (by omega) (by
      rw [List.getD_eq_getElem?_getD, List.getElem?_set_self (by omega)]
      decide)
    generalize upd Hx pS (.lst ((zs.map V.int).set 0 (.int 2))) = Hs at s12x hS
    generalize zs.set 0 2 = sh at hS lS kS oS
    clear hz lz kz smx
  case' cB =>
    obtain ⟨pS, epS⟩ : ∃ x, x = psh := ⟨psh, rfl⟩
    subst epS
    have s12x : Same H12 H12 := Same.refl _
    have hS := hsh12
    have lS := lsh
    have kS := bsh
    have oS := ssh
    generalize hHs : H12 = Hs at s12x hS
    have s12x : Same H12 Hs := by rw [hHs]; exact Same.refl _
    clear hHs
    generalize shares = sh at hS lS kS oS
  all_goals
    have m7x := m7x.same s12x
    have m9x := m9x.same s12x
    have hr12 := s12x _ _ hr12
    have sds := sd12.same s12x
    have bw0s := bw012.trans (Same.bw (a := a) (TT := TT) s12x)
    exact hc Q Hs a r9 Dr pm pS rs9 ps7 roots sh e m _ _ sc2 zz _ _ _ _ _ _ _ _ _ _ _ _ sds hm m1 m5 bsc.1 bsc.2 he e0 hzz bzz m7x bM m9x sy9 hr12 lroots kroots hS lS kS oS fun H' b t => q H' (bw0s.trans b) t
end
end V3
namespace V3
open PySem.Spec PySem L2 PyProof.Rows RZ GxR
section
variable {mg : Str → Option Value} {base : Heap} {K : PySem.W.Frag} {P : Program} {w : World}
def spRight (TT : List Addr) : Sp := fun vs H Q _ => ∃ a : Addr, vs = [.ref a] ∧ Well H a 0 ∧ Tabs TT H ∧ ∀ H', BW a TT H H' → Tabs TT H' → Q (.bl true) H'
theorem ok_right (T : Gs K mg) {TT : List Addr} (D__law_draw : Df P w K mg base "_law_draw" 1 ["well", "size"] spDraw) (D__law_pick : Df P w K mg base "_law_pick" 2 ["well", "some"] (spPick K)) (D__law_lowest : Df P w K mg base "_law_lowest" 2 ["upper", "lower"] spFrac)
    (D__law_dot : Df P w K mg base "_law_dot" 1 ["one", "two"] spDot) (D__law_framed : Df P w K mg base "_law_framed" 2 ["ways", "rows"] spFramed) (D__law_mirror : Df P w K mg base "_law_mirror" 3 ["well", "size"] spMirror)
    (D__law_along : Df P w K mg base "_law_along" 1 ["numbers"] spAlong) (D__law_told : Df P w K mg base "_law_told" 3 ["rows", "scale"] (spTold K)) (D__law_less : Df P w K mg base "_law_less" 1 ["rows", "scale", "number"] (spLess K))
    (D__law_world : Df P w K mg base "_law_world" 5 ["well"] spWorld) (D__law_row : Df P w K mg base "_law_row" 2 ["well", "size"] spRow) (D__law_moments : Df P w K mg base "_law_moments" 3 ["rows", "scale", "way"] (spMoments K))
    (D__law_shared : Df P w K mg base "_law_shared" 4 ["roots", "parts"] (spLShared K)) (D_spread_of : Df P w K mg base "spread_of" 9 ["table", "row"] (spMoment K TT spreadQ))
    (D__law_told_right : Dg P w K mg base "_law_told_right" 10 ["table", "row", "mean", "spread"] (spToldRight K TT)) (F : At K mg "_law_right" s__law_right) : Dg P w K mg base "_law_right" 11 ["well"] (spRight TT) := by
  have sc := sc__law_right
  refine Dg.mk' F sc (fun vs H Q E h => ?_) (fun _ _ _ _ _ _ us hl => match us, hl with | [_], _ => rfl) (fun f cdv A outer s0 H vs Q E hr hg h => ?_)
  · obtain ⟨a, rfl, _⟩ := h
    rfl
  · obtain ⟨a, rfl, hw, tab, q⟩ := h
    obtain ⟨tb, pb, hb⟩ := ok_right_b T D__law_draw D__law_pick D__law_lowest D__law_dot D__law_framed D__law_mirror D__law_along D__law_told D__law_row D__law_shared D__law_told_right (outer := outer) (H0 := H) (E := E) hr hg
    refine ⟨_, (pss_cons (ps_asg (pe_fn D__law_world (by decide) hr (pa_cons (pv 0) pa_nil)) (pg_tup rfl (pgs_cons (pg_name (i := 1) sc.nd rfl (.inl rfl)) (pgs_cons (pg_name (i := 2) sc.nd rfl (.inr rfl)) (pgs_cons (pg_name (i := 3) sc.nd rfl (.inl rfl)) pgs_nil))))) (pss_cons (ps_par (i := 4) (j := 5) rfl sc.nd rfl rfl (by decide) rfl rfl (pa_cons (pe_callB call_len_seq (by rfl) T.len PySem.boot_len (pa_cons (pv 1) pa_nil)) (pa_cons (pe_fn D__law_told (by decide) hr (pa_cons (pv 1) (pa_cons (pv 2) pa_nil))) pa_nil)) (by rfl)) (pss_cons (ps_asg (pe_tup (pa_cons (pe_fn D__law_row (by decide) hr (pa_cons (pv 0) (pa_cons (pv 4) pa_nil))) (pa_cons (pe_fn D__law_pick (by decide) hr (pa_cons (pv 0) (pa_cons (pe_lst (pa_cons pe_int (pa_cons pe_int (pa_cons pe_int (pa_cons pe_int pa_nil))))) pa_nil))) pa_nil))) (pg_tup rfl (pgs_cons (pg_name (i := 6) sc.nd rfl (.inr rfl)) (pgs_cons (pg_name (i := 7) sc.nd rfl (.inr rfl)) pgs_nil)))) (pss_cons (ps_asg (pe_fn D__law_moments (by decide) hr (pa_cons (pv 1) (pa_cons (pv 2) (pa_cons (pv 6) pa_nil)))) (pg_tup rfl (pgs_cons (pg_name (i := 8) sc.nd rfl (.inl rfl)) (pgs_cons (pg_name (i := 9) sc.nd rfl (.inl rfl)) pgs_nil)))) (pss_cons (ps_if (pt_not (pt_val (pe_fng D__law_told_right (by decide) hr hg (pa_cons (pv 5) (pa_cons (pe_callTy call_tuple_of (by rfl) T.tuple_ (by decide +kernel) (pa_cons (pe_lc (own := [("cell", 19)]) (g := gName 19) rfl sc.nd (pi_list (pv 6)) (blkOk_by (own := [("cell", 19)]) (N := N__law_right) (sc := defScope s__law_right) (by decide +kernel)) (fun _ _ _ _ _ => (pg_name (i := 19) sc.nd rfl (.inl rfl))) (fun _ _ _ _ _ => pts_nil) (fun _ _ _ _ _ => (pe_fn D__law_lowest (by decide) hr (pa_cons (pv 19) (pa_cons (pv 7) pa_nil))))) pa_nil)) (pa_cons (pv 8) (pa_cons (pv 9) pa_nil))))))) (pss_one (ps_ret pe_bl)) pss_nil) (pss_cons (ps_set (i := 10) sc.nd rfl (.inl rfl) (pe_cmpR (op_eqD hr.units) (pe_lc (own := [("line", 16)]) (g := gName 16) rfl sc.nd (pi_list (pe_fn D__law_less (by decide) hr (pa_cons (pv 1) (pa_cons (pv 2) (pa_cons (pv 8) pa_nil))))) (blkOk_by (own := [("line", 16)]) (N := N__law_right) (sc := defScope s__law_right) (by decide +kernel)) (fun _ _ _ _ _ => (pg_name (i := 16) sc.nd rfl (.inl rfl))) (fun _ _ _ _ _ => (pts_one (pt_cmpR op_ne (pe_fn D__law_dot (by decide) hr (pa_cons (pv 16) (pa_cons (pv 6) pa_nil))) pe_int (nomark _)))) (fun _ _ _ _ _ => (pv 16))) (pe_lst pa_nil) (nomark _))) (pss_cons (ps_if (PW.pt (pw_or (pt_cmpR op_ne (pv 10) (pe_cmpR (op_eqD hr.units) (pv 9) (pe_tup (pa_cons pe_int (pa_cons pe_int pa_nil))) (nomark _)) (nomark _)) (pw_or1 (pt_cmpR op_ne (pe_callB (call_reprD hg hr.units) (by rfl) T.repr (by decide +kernel) (pa_cons (pe_fn D_spread_of (by decide) hr (pa_cons (pv 5) (pa_cons (pe_callTy call_tuple_of (by rfl) T.tuple_ (by decide +kernel) (pa_cons (pe_lc (own := [("cell", 19)]) (g := gName 19) rfl sc.nd (pi_list (pv 6)) (blkOk_by (own := [("cell", 19)]) (N := N__law_right) (sc := defScope s__law_right) (by decide +kernel)) (fun _ _ _ _ _ => (pg_name (i := 19) sc.nd rfl (.inl rfl))) (fun _ _ _ _ _ => pts_nil) (fun _ _ _ _ _ => (pe_fn D__law_lowest (by decide) hr (pa_cons (pe_op op_mulW (pe_un un_neg pe_int) (pv 19)) (pa_cons pe_int pa_nil))))) pa_nil)) pa_nil))) pa_nil)) (pe_callB (call_reprD hg hr.units) (by rfl) T.repr (by decide +kernel) (pa_cons (pv 9) pa_nil)) (nomark _))))) (pss_one (ps_ret pe_bl)) pss_nil) pb))))))), ?_⟩
    have dep : ∀ x : Rat, (frd x).depth ≤ 60 := fun x => by
      show PyData.depth (.tuple [.int _, .int _]) ≤ 60
      simp [PyData.depth, PyData.depthAll]
    have sd0 : Sd a TT 0 H := ⟨hw, tab⟩
    refine ⟨_, rfl, a, 0, rfl, hw, by omega, fun H1 p1 r1 z pr rs M n b1 w1 h1 mx1 sy n1 n5 z0 zb ne1 nrs1 => ?_⟩
    have sd1 := sd0.but b1 w1
    obtain ⟨of1, ofs1⟩ := sd1.offMx mx1 ne1 nrs1
    refine ⟨p1, _, rfl, SqT.of h1, rfl, _, _, rfl, _, _, rfl, _, _, rfl, rfl, ?_⟩
    have hn : (((rs.map V.ref).length : Nat) : Int) = n := by rw [List.length_map, mx1.len, sy.len]
    have rl : ∀ r ∈ M, r.length = n := fun r hr => (sy.row r hr).1
    refine ⟨_, rfl, r1, _, rfl, .inl (SqL.of mx1.at_), ?_⟩
    refine ⟨_, rfl, _, rfl, r1, rs, M, z, rfl, mx1, by rw [sy.len]; omega, fun r hr => by rw [rl r hr]; omega, z0, Nat.lt_of_lt_of_le zb (pw (by decide)), fun H2 l s2 dl => ?_⟩
    refine ⟨_, _, rfl, ?_⟩
    have sd2 := sd1.same s2
    have mx2 := mx1.same s2
    -- a row, a number
    refine ⟨_, rfl, _, rfl, a, n, 60, by show [V.ref a, V.int _] = _; rw [hn], sd2.w, by omega, n1, n5, fun H3 pw way b3 w3 hway npw lway bway own => ?_⟩
    have sd3 := sd2.but b3 w3
    have ofw := sd2.off npw
    refine ⟨_, rfl, by show 4 ≤ sizeLine; decide, fun pl hpl => ?_⟩
    have s3 : Same H3 (upd H3 pl (.lst (([1, 1, 2, 3] : List Int).map V.int))) := same_upd hpl
    refine ⟨a, pl, ([1, 1, 2, 3] : List Int).map V.int, _, rfl, (sd3.same s3).w, by omega, upd_same, sd3.w.ne hpl, by decide, by decide, fun H4 jx x b4 w4 hx => ?_⟩
    obtain ⟨ov, rfl, hm⟩ := mem6 hx
    have bov : 1 ≤ ov ∧ ov ≤ 3 := by
      (simp only [List.mem_cons, List.not_mem_nil, or_false] at hm)
      omega
    have sd4 := (sd3.same s3).but b4 w4
    refine ⟨by show 2 ≤ sizeLine; decide, fun pt hpt => ?_⟩
    obtain ⟨H5, e5, s5, a5⟩ := mkP (o := .tup [.ref pw, .int ov]) hpt
    rw [e5]
    refine ⟨pt, _, rfl, SqT.of a5, rfl, _, _, rfl, _, _, rfl, rfl, ?_⟩
    have sd5 := sd4.same s5
    have bw25 : BW a TT H2 H5 := b3.bw.trans ((Same.bw s3).trans (b4.bw.trans (Same.bw s5)))
    have dl5 := DpT.keep (sd2.kt bw25) dl
    have mx5 := mx2.bw bw25 of1 ofs1
    have hway5 : H5 pw = some (.lst (way.map V.int)) := ((Same.bw s3).trans (b4.bw.trans (Same.bw (a := a) (TT := TT) s5))).at ofw hway
    have bw05 : BW a TT H H5 := b1.bw.trans ((Same.bw s2).trans bw25)
    have bway30 : ∀ x ∈ way, x.natAbs < 2 ^ 30 := fun x hx => Nat.lt_of_lt_of_le (bway x hx) (V3.pw (by decide))
    have bway40 : ∀ x ∈ way, x.natAbs < 2 ^ 40 := fun x hx => Nat.lt_of_lt_of_le (bway x hx) (V3.pw (by decide))
    -- moments
    refine ⟨_, rfl, _, rfl, _, rfl, r1, z, pw, rs, M, n, way, rfl, mx5, sy.bn, n5, z0, zb, hway5, lway, bway30, own, fun H6 r6 v1 v2 s6 h6 d1 d2 q1 q2 => ?_⟩
    refine ⟨r6, _, rfl, SqT.of h6, rfl, _, _, rfl, _, _, rfl, rfl, ?_⟩
    have sd6 := sd5.same s6
    have dl6 := fun_keep s6 dl5
    have hway6 := s6 _ _ hway5
    -- told right
    refine ⟨_, rfl, _, rfl, pw, rfl, ⟨_, SqL.of hway6⟩, fun D hD => lc_list (K := K) (a := pw) (xs := way.map V.int) (fun j H' => Same H6 H' ∧ ∃ ys, H' D = some (.lst ys) ∧ DpTAll K H' ys ((way.take j).map fun c => frd (Rat.divInt c ov)))
      ⟨same_upd hD, [], upd_same, .nil⟩ (fun j H' _ h => SqL.of (h.1 _ _ hway6)) ?_ ?_⟩
    · rintro j y H7 hj ⟨sm7, ys, hy, ay⟩
      rw [List.getElem?_map] at hj
      obtain ⟨c, hc, rfl⟩ := Option.map_eq_some_iff.mp hj
      refine ⟨rfl, yesIf ?_⟩
      refine ⟨_, rfl, _, rfl, c, ov, rfl, by omega, lt9000 (by omega) (by omega), fun H8 p8 s8 h8 => ?_⟩
      exact frStep (f := fun c => Rat.divInt c ov) hD sm7 hy ay hc (by omega) s8 h8
    rintro H7 ⟨sm7, ys, hy, ay⟩
    have e7 : way.take (way.map V.int).length = way := by rw [List.length_map, List.take_length]
    rw [e7] at ay
    refine ⟨D, ys, rfl, .inl ⟨SqL.of hy, fun lq hlq => ?_⟩⟩
    obtain ⟨H8, e8, s8, a8⟩ := mkP (o := .tup ys) hlq
    rw [e8]
    have s68 := sm7.trans s8
    have dq8 : DpT K H8 (.ref lq) (rowD (rowT way ov)) := by
      rw [rowT_d]
      exact .tup (SqT.of a8) (ay.keep (Same.kt s8))
    have sd8 := sd6.same s68
    have fit8 : Fit K TT H8 (.ref l) (.ref lq) (rowsT M z) (rowT way ov) 200 := fitT (fun_keep s68 dl6) sy n1 n5 z0 zb dq8 lway bway40 (by omega) (by omega) (dot_nz own) sd8.t
    refine ⟨_, rfl, _, rfl, _, _, _, _, _, _, 200, meanM M way z, spreadM M way z, rfl, fit8, fqSame d1 s68, fqSame d2 s68, q1.mono (by decide), q2.mono (by decide), strOk_frd _, strOk_frd _, fun zs c c0 lp ez => moments1 sy.len rl lway z0 (by omega) own zs c c0 lp ez, fun H9 b9 t9 => ⟨_, rfl, ifF rfl ?_⟩⟩
    have sd9 := sd8.b3 b9 t9
    have bw69 : BW a TT H6 H9 := (Same.bw s68).trans b9.bw
    have kt69 := sd6.kt bw69
    have d1 := DpT.keep kt69 d1
    have d2 := DpT.keep kt69 d2
    have dl9 := DpT.keep kt69 dl6
    have hway9 := bw69.at ofw hway6
    have mx9 := (mx5.same s6).bw bw69 of1 ofs1
    have bw09 := bw05.trans ((Same.bw s6).trans bw69)
    -- what stays
    refine ⟨_, rfl, _, rfl, _, rfl, r1, z, v1, rs, M, n, meanM M way z, rfl, mx9, sy.bn, n5, zb, d1, q1.mono (by decide), fun Ha ra rsa sa hna mxa => ?_⟩
    have hwaya := sa _ _ hway9
    have bLine : ∀ r ∈ lessM n M z (meanM M way z), r.length = n ∧ ∀ x ∈ r, x.natAbs < 2 ^ 300 := fun r hr => by
      obtain ⟨i, hi, rfl⟩ := List.mem_map.mp hr
      refine ⟨by rw [List.length_map, List.length_range], fun x hx => ?_⟩
      obtain ⟨j, hj, rfl⟩ := List.mem_map.mp hx
      have k1 := mulI (getD_lt (i := j) (sy.row _ (getMx sy.len (List.mem_range.mp hi)).2).2) (natI q1.d)
      have k2 := mulI q1.n zb
      refine Nat.lt_of_lt_of_le (sub_lt_pw (a := 290) k1 ?_) (V3.pw (by decide))
      split
      · exact Nat.lt_of_lt_of_le k2 (V3.pw (by decide))
      · exact Nat.two_pow_pos _
    have lla : (lessM n M z (meanM M way z)).length = n := by unfold lessM; rw [List.length_map, List.length_range]
    have lrsa : (rsa.map V.ref).length = n := by rw [List.length_map, mxa.len, lla]
    refine ⟨ra, rfl, ⟨_, SqL.of mxa.at_⟩, fun Db hDb => lc_list (K := K) (a := ra) (xs := rsa.map V.ref) (fun j H' => Same Ha H' ∧ ∃ ys, H' Db = some (.lst ys) ∧ LsA H' ys (((lessM n M z (meanM M way z)).take j).filter fun r => decide (dotL r way ≠ 0)) ∧ ys.length ≤ j ∧ ∀ u ∈ ys, u ∈ rsa.map V.ref)
      ⟨same_upd hDb, [], upd_same, .nil, Nat.le_refl 0, fun u hu => by cases hu⟩ (fun j H' _ h => SqL.of (h.1 _ _ mxa.at_)) ?_ ?_⟩
    · rintro j y Hb hj ⟨smb, ys, hy, ay, ly, my⟩
      obtain ⟨qr, nr, rfl, hqj, hgj, hqr⟩ := mxRow mxa hj
      have hjl : j < (rsa.map V.ref).length := (List.getElem?_eq_some_iff.mp hj).1
      have mr := List.mem_of_getElem? hgj
      refine ⟨rfl, ?_⟩
      refine ⟨_, rfl, _, rfl, qr, pw, nr, way, 300, 30, rfl, smb _ _ hqr, smb _ _ hwaya, by rw [(bLine nr mr).1, lway], by rw [(bLine nr mr).1]; omega, by decide, by decide, (bLine nr mr).2, bway30, fun Hc s_c => ?_⟩
      have hyc := s_c _ _ hy
      have nq : ∀ q, V.ref q ∈ ys → q ≠ Db := fun q hq e => by
        have := my _ hq
        obtain ⟨q2, hq2, e2⟩ := List.mem_map.mp this
        cases e2
        obtain ⟨i2, hi2⟩ := List.getElem?_of_mem hq2
        have hl2 : i2 < (lessM n M z (meanM M way z)).length := by
          have := (List.getElem?_eq_some_iff.mp hi2).1
          rw [mxa.len] at this
          exact this
        have := mxa.row i2 _ _ hi2 (List.getElem?_eq_getElem hl2)
        rw [e, hDb] at this
        cases this
      refine ⟨rfl, _, rfl, if2 (fun e => ?_) (fun e => ?_)⟩
      · have nz : dotL nr way ≠ 0 := fun z => by
          rw [z] at e
          exact absurd e (by decide)
        refine ⟨_, rfl, ys, hyc, small1000 (by omega), same_updN (smb.trans s_c) hDb, ys ++ [.ref qr], upd_same, ?_, by rw [List.length_append]; exact Nat.succ_le_succ ly, fun u hu => ?_⟩
        · rw [take_more hgj, List.filter_append, List.filter_cons_of_pos (by simpa using nz)]
          have nqr : qr ≠ Db := fun z => by
            rw [z, hDb] at hqr
            cases hqr
          refine LsA.snoc (ay.keep Db nq fun b o nb e => by rw [upd_ne nb]; exact s_c b o e) ?_
          rw [upd_ne nqr]
          exact s_c _ _ (smb _ _ hqr)
        · rcases List.mem_append.mp hu with h | h
          · exact my u h
          · rw [List.mem_singleton.mp h]
            exact List.mem_map.mpr ⟨qr, List.mem_of_getElem? hqj, rfl⟩
      · have zz : dotL nr way = 0 := Classical.byContradiction fun nz => by
          have e2 : (V.int (dotL nr way) = V.int 0) := by simpa using e
          injection e2 with e3
          exact nz e3
        refine ⟨smb.trans s_c, ys, hyc, ?_, by omega, my⟩
        rw [take_more hgj, List.filter_append, List.filter_cons_of_neg (by simpa using zz), List.filter_nil, List.append_nil]
        exact ay.keep Db nq fun b o _ e => s_c b o e
    rintro Hb ⟨smb, ys, hy, ay, ly, my⟩
    rw [lrsa, List.take_of_length_le (by omega)] at ay
    refine ⟨by show 0 ≤ sizeLine; decide, fun pe hpe => ?_⟩
    obtain ⟨Hc, ec, s_c, ac⟩ := mkP (o := .lst []) hpe
    rw [ec]
    have ayc : LsA Hc ys _ := ay.keep pe (fun q hq e => by
      have hh : ∀ (vs : List V) (ls : List (List Int)), LsA Hb vs ls → V.ref q ∈ vs → Hb q ≠ none := fun vs ls h => by
        induction h with
        | nil => exact fun h => by cases h
        | cons e _ ih =>
          intro hm
          rcases List.mem_cons.mp hm with h | h
          · cases h
            rw [e]
            exact fun z => by cases z
          · exact ih h
      exact hh _ _ ay hq (by rw [e]; exact hpe)) fun b o _ e => s_c b o e
    refine ⟨.list (((lessM n M z (meanM M way z)).filter fun r => decide (dotL r way ≠ 0)).map lineD), .list [], .lst (SqL.of (s_c _ _ hy)) ayc.dp, .lst (SqL.of ac) .nil, shaped_lines _, rfl, ?_⟩
    have estay : PyData.eqv (.list (((lessM n M z (meanM M way z)).filter fun r => decide (dotL r way ≠ 0)).map lineD)) (.list []) = decide (spreadM M way z = 0) := by
      rw [eqv_nil, decide_eq_decide, ← stays_iff sy.len rl lway z0 own, List.map_eq_nil_iff, List.filter_eq_nil_iff]
      constructor
      · intro h r hr
        have := h r hr
        simpa using this
      · intro h r hr
        have := h r hr
        simpa using this
    rw [estay]
    have s9c := sa.trans (smb.trans s_c)
    have d2c := fqSame d2 s9c
    have sdc := sd9.same s9c
    have dlc := fun_keep s9c dl9
    have hwayc := s9c _ _ hway9
    refine ⟨_, rfl, _, rfl, by show 2 ≤ sizeLine; decide, fun pz hpz => ?_⟩
    obtain ⟨Hd, ed, s_d, a_d⟩ := mkP (o := .tup [.int 0, .int 1]) hpz
    rw [ed]
    have dz : DpT K Hd (.ref pz) (frd 0) := fqI a_d rfl rfl
    refine ⟨frd (spreadM M way z), frd 0, (fqSame d2c s_d).dp, dz.dp, shaped_frd _, shaped_frd _, ?_⟩
    rw [eqv_frd]
    refine ⟨rfl, _, rfl, ifF (by simp) ?_⟩
    -- the row turned
    have hwayd := s_d _ _ hwayc
    refine ⟨_, rfl, _, rfl, pw, rfl, ⟨_, SqL.of hwayd⟩, fun D hD => lc_list (K := K) (a := pw) (xs := way.map V.int) (fun j H' => Same Hd H' ∧ ∃ ys, H' D = some (.lst ys) ∧ DpTAll K H' ys ((way.take j).map fun c => frd (Rat.divInt (-5 * c) 3)))
      ⟨same_upd hD, [], upd_same, .nil⟩ (fun j H' _ h => SqL.of (h.1 _ _ hwayd)) ?_ ?_⟩
    · rintro j y He hj ⟨sme, ys, hy, ay⟩
      rw [List.getElem?_map] at hj
      obtain ⟨c, hc, rfl⟩ := Option.map_eq_some_iff.mp hj
      have bc := bway c (List.mem_of_getElem? hc)
      refine ⟨rfl, yesIf ?_⟩
      refine ⟨_, rfl, _, rfl, _, _, rfl, rfl, wide_mul (a := 3) (b := 2) (by decide) bc (by decide) (by decide) (by decide), ?_⟩
      refine ⟨_, 3, rfl, by decide, lt9000 (by decide) (by decide), fun Hf pf sf hf => ?_⟩
      exact frStep (f := fun c => Rat.divInt (-5 * c) 3) hD sme hy ay hc (by omega) sf hf
    rintro He ⟨sme, ys2, hy2, ay2⟩
    rw [e7] at ay2
    refine ⟨_, ys2, rfl, .inl ⟨SqL.of hy2, fun lf hlf => ?_⟩⟩
    obtain ⟨Hf, ef, sf, af⟩ := mkP (o := .tup ys2) hlf
    rw [ef]
    have s9f := (s9c.trans s_d).trans (sme.trans sf)
    have dqf : DpT K Hf (.ref lf) (rowD (rowT (way.map ((-5 : Int) * ·)) 3)) := by
      rw [rowT_d, List.map_map]
      exact .tup (SqT.of af) (ay2.keep (Same.kt sf))
    have nz5 : ∃ x ∈ way.map ((-5 : Int) * ·), x ≠ 0 := by
      obtain ⟨x, hx, x0⟩ := dot_nz own
      exact ⟨-5 * x, List.mem_map.mpr ⟨x, hx, rfl⟩, by omega⟩
    have b540 : ∀ x ∈ way.map ((-5 : Int) * ·), x.natAbs < 2 ^ 40 := fun x hx => by
      (obtain ⟨y, hy, rfl⟩ := List.mem_map.mp hx)
      have := bway y hy
      exact Nat.lt_of_lt_of_le (mulI (a := 3) (b := 2) (by decide) this) (V3.pw (by decide))
    have sdf := sd9.same s9f
    have fitf : Fit K TT Hf (.ref l) (.ref lf) (rowsT M z) (rowT (way.map ((-5 : Int) * ·)) 3) 200 := fitT (fun_keep s9f dl9) sy n1 n5 z0 zb dqf (by rw [List.length_map]; exact lway) b540 (by decide) (by decide) nz5 sdf.t
    refine ⟨_, _, _, _, 200, rfl, fitf, fun Hg pg zs c bg tg c0 lp ez hpg => ?_⟩
    have espread := (moments (y := -5) (ov := 3) sy.len rl lway z0 (by decide) (by decide) own c0 lp ez).2
    rw [espread] at hpg
    have hpg : Hg pg = some (frO (spreadM M way z)) := hpg
    have sdg := sdf.b3 bg tg
    have bw9g : BW a TT H9 Hg := (Same.bw s9f).trans bg.bw
    have d2g := DpT.keep (sd9.kt bw9g) d2
    obtain ⟨ss1, ss2⟩ := shown_frd (q2.mono (b := 1900) (by decide))
    refine ⟨_, _, rfl, (fqO hpg).dp, rfl, ss1, rfl, dep _, ss2, ?_⟩
    refine ⟨_, rfl, _, _, rfl, d2g.dp, rfl, ss1, rfl, dep _, ss2, ?_⟩
    refine ⟨rfl, _, rfl, ifF (by simp) ?_⟩
    have bw0g := bw09.trans bw9g
    exact hb Q Hg a _ _ _ _ _ _ _ _ _ _ _ _ _ _ _ _ _ _ _ sdg fun H' b t => q H' (bw0g.trans b) t
end
end V3
set_option maxHeartbeats 8000000
namespace V3
open PySem.Spec PySem L2 PyProof.Rows RZ GxR
section
variable {mg : Str → Option Value} {base : Heap} {K : PySem.W.Frag} {P : Program} {w : World}
theorem Tabs.no {TT : List Addr} {H : Hp} {p : Addr} (t : Tabs TT H) (h : H p = none) : p ∉ TT := fun hp => by
  obtain ⟨ps, hq, _⟩ := t p hp
  rw [h] at hq
  cases hq
theorem Tabs.seq {TT : List Addr} {H H' : Hp} {a : Addr} {xs : List V} (t : Tabs TT H) (b : B3 TT H H') (h : SqL K H a xs) : SqL K H' a xs := by
  (rcases h with (h | ⟨o, h⟩) | h)
  · exact .inl (.inl (b _ _ (fun hp => by
      obtain ⟨ps, hq, _⟩ := t a hp
      rw [h] at hq
      cases hq) h))
  · exact .inl (.inr ⟨o, b _ _ (fun hp => by
      obtain ⟨ps, hq, _⟩ := t a hp
      rw [h] at hq
      cases hq) h⟩)
  · exact .inr h
abbrev s_law : Stmt := topS 53
abbrev N_law : List Str := ["script", "turn"]
theorem sc_law : FnScope N_law ["script"] (defScope s_law) := ⟨rfl, rfl, rfl, by decide +kernel, rfl, by decide +kernel, by decide +kernel⟩
def spLaw (K : PySem.W.Frag) (TT : List Addr) : Sp := fun vs H Q _ => ∃ (la : Addr) (ks : List Int), vs = [.ref la] ∧ SqL K H la (ks.map V.int) ∧ Tabs TT H ∧ ∀ H1, Q (.bl true) H1
theorem ok_law (T : Gs K mg) {TT : List Addr} (D__law_well : Df P w K mg base "_law_well" 1 ["script", "turn"] (spWell K)) (D__law_right : Dg P w K mg base "_law_right" 11 ["well"] (spRight TT)) (F : At K mg "law" s_law) : Dg P w K mg base "law" 12 ["script"] (spLaw K TT) := by
  have sc := sc_law
  refine Dg.mk' F sc (fun vs H Q E h => ?_) (fun _ _ _ _ _ _ us hl => match us, hl with | [_], _ => rfl) (fun f cdv A outer s0 H vs Q E hr hg h => ?_)
  · obtain ⟨a, ns, rfl, _⟩ := h
    rfl
  · obtain ⟨a, ns, rfl, ha, tab, q⟩ := h
    refine ⟨_, (pss_one (ps_ret (pe_callB (cr_all rfl) (by rfl) T.all (by decide +kernel) (pa_cons (pe_lc (own := [("turn", 1)]) (g := gName 1) rfl sc.nd (pi_range1 rfl T.range (pa_cons pe_int pa_nil)) (blkOk_by (own := [("turn", 1)]) (N := N_law) (sc := defScope s_law) (by decide +kernel)) (fun _ _ _ _ _ => (pg_name (i := 1) sc.nd rfl (.inl rfl))) (fun _ _ _ _ _ => pts_nil) (fun _ _ _ _ _ => (pe_fng D__law_right (by decide) hr hg (pa_cons (pe_fn D__law_well (by decide) hr (pa_cons (pv 0) (pa_cons (pv 1) pa_nil))) pa_nil)))) pa_nil)))), ?_⟩
    refine ⟨_, rfl, by decide, by decide, fun D hD => lc_range (lo := 0) (n := _) (fun i H' => B3 TT H H' ∧ Tabs TT H' ∧ ∃ bs : List Bool, H' D = some (.lst (bs.map V.bl)) ∧ bs.length = i ∧ bs.all id = true)
      ⟨Same.b3 (same_upd hD), tab.same (same_upd hD), [], upd_same, rfl, rfl⟩ ?_ ?_⟩
    · rintro i H1 hi ⟨b1, t1, bs, hbs, hbl, hba⟩
      have hi2 : i < 2 := hi
      refine ⟨rfl, yesIf ?_⟩
      refine ⟨_, rfl, _, rfl, a, ns, i, by rw [Int.zero_add], tab.seq b1 ha, fun H2 p s2 hp w2 => ?_⟩
      refine ⟨p, rfl, w2, t1.same s2, fun H3 b3 t3 => ?_⟩
      have dp : D ≠ p := fun z => by
        rw [← z, hbs] at hp
        cases hp
      have nD : D ∉ TT := tab.no hD
      have hbs3 := b3 _ _ dp nD (s2 _ _ hbs)
      refine ⟨_, hbs3, small1000 (by rw [List.length_map]; omega), ?_, fun p2 hp2 => ?_, bs ++ [true], ?_, by rw [List.length_append, hbl]; rfl, by rw [List.all_append, hba]; rfl⟩
      · intro bb o nb e
        rw [upd_ne (ne_of_none e hD)]
        have e1 := b1 _ _ nb e
        exact b3 _ _ (ne_of_none e1 hp) nb (s2 _ _ e1)
      · obtain ⟨ps, hq, x⟩ := t3 p2 hp2
        have ne : p2 ≠ D := fun z => nD (by rw [← z]; exact hp2)
        exact ⟨ps, by rw [upd_ne ne]; exact hq, x⟩
      · rw [upd_same, List.map_append]
        rfl
    · rintro H1 ⟨b1, t1, bs, hbs, hbl, hba⟩
      refine ⟨D, bs, rfl, SqL.of hbs, ?_⟩
      rw [hba]
      exact q H1
end
end V3
set_option maxHeartbeats 0
namespace V3
open PySem PySem.Spec PyProof.Rows L2 RZ GxR
def loose0 : List Str := ["RootError", "InvalidTable", "InvalidRow", "fraction", "shared_under", "whole_rows", "whole_row", "dot", "content", "shortened", "MOST_ROWS", "is_whole", "is_tuple_of", "is_fraction", "is_row", "first_unlike_fraction", "check_row", "is_table", "check_table", "check_tried", "mean_of", "spread_of", "products_of", "_law_well", "_law_draw", "_law_pick", "_law_common", "_law_lowest", "_law_plus", "_law_times"]
def loose1 : List Str := ["_law_dot", "_law_framed", "_law_even", "_law_mirror", "_law_along", "_law_told", "_law_less", "_law_plant", "_law_world", "_law_minus", "_law_row", "_law_moments", "_law_shared", "_law_told_right", "_law_right"]
def loose : List Str := loose0 ++ loose1
def dN (x : Str) (st : Stmt) : He.DefD := ⟨(x, none), x, x, defArgs st, defBody st, defScope st, [], []⟩
def fn0 : List He.DefD := [dN "fraction" (topS 6), dN "shared_under" (topS 7), dN "whole_rows" (topS 8), dN "whole_row" (topS 9), dN "dot" (topS 11), dN "content" (topS 12), dN "shortened" (topS 13), dN "is_whole" (topS 16), dN "is_tuple_of" (topS 17), dN "is_fraction" (topS 18), dN "is_row" (topS 19), dN "first_unlike_fraction" (topS 20), dN "check_row" (topS 21), dN "is_table" (topS 23), dN "check_table" (topS 24), dN "check_tried" (topS 26), dN "mean_of" (topS 27), dN "spread_of" (topS 28), dN "products_of" (topS 29), dN "_law_well" (topS 31), dN "_law_draw" (topS 32)]
def fa0 : List He.Fa := [.glo "fraction", .glo "shared_under", .glo "whole_rows", .glo "whole_row", .glo "dot", .glo "content", .glo "shortened", .glo "is_whole", .glo "is_tuple_of", .glo "is_fraction", .glo "is_row", .glo "first_unlike_fraction", .glo "check_row", .glo "is_table", .glo "check_table", .glo "check_tried", .glo "mean_of", .glo "spread_of", .glo "products_of", .glo "_law_well", .glo "_law_draw"]
def fn1 : List He.DefD := [dN "_law_pick" (topS 33), dN "_law_common" (topS 34), dN "_law_lowest" (topS 35), dN "_law_plus" (topS 36), dN "_law_times" (topS 37), dN "_law_dot" (topS 38), dN "_law_framed" (topS 39), dN "_law_even" (topS 40), dN "_law_mirror" (topS 41), dN "_law_along" (topS 42), dN "_law_told" (topS 43), dN "_law_less" (topS 44), dN "_law_plant" (topS 45), dN "_law_world" (topS 46), dN "_law_minus" (topS 47), dN "_law_row" (topS 48), dN "_law_moments" (topS 49), dN "_law_shared" (topS 50), dN "_law_told_right" (topS 51), dN "_law_right" (topS 52), dN "law" (topS 53)]
def fa1 : List He.Fa := [.glo "_law_pick", .glo "_law_common", .glo "_law_lowest", .glo "_law_plus", .glo "_law_times", .glo "_law_dot", .glo "_law_framed", .glo "_law_even", .glo "_law_mirror", .glo "_law_along", .glo "_law_told", .glo "_law_less", .glo "_law_plant", .glo "_law_world", .glo "_law_minus", .glo "_law_row", .glo "_law_moments", .glo "_law_shared", .glo "_law_told_right", .glo "_law_right", .glo "law"]
def fa2 : List He.Fa := [.free "type", .free "int", .free "tuple", .free "list", .free "len", .free "range", .free "enumerate", .free "zip", .free "sum", .free "abs", .free "any", .free "all", .free "repr", .int "MOST_ROWS" 5]
def fnA : List He.DefD := fn0 ++ fn1
def faA : List He.Fa := fa0 ++ (fa1 ++ fa2)
def tfA : List He.Defn := [("is_table", none), ("dot", none), ("check_tried", none)]
/-- a name of the module holds a pair of whole numbers -/
def pairIn (K : PySem.W.Frag) (p : Addr) (a b : Int) : Bool := (match K.lookup p with
  | some ⟨.type "tuple", _, .seq its _, _⟩ => (match its.toList with
    | [.int i _, .int j _] => decide (i = a) && decide (j = b)
    | _ => false)
  | _ => false)
def tupIn (K : PySem.W.Frag) (x : Str) (a b : Int) : Bool := (match PySem.W.nsIn K mainGlobals x with
  | some (some (.ref p)) => pairIn K p a b
  | _ => false)
theorem tupIn_ok {K : PySem.W.Frag} {x : Str} {a b : Int} (h : tupIn K x a b = true) : ∃ p, PySem.W.nsIn K mainGlobals x = some (some (.ref p)) ∧ ∀ H, SqT K H p [.int a, .int b] := by
  unfold tupIn at h
  split at h
  · rename_i p hp
    refine ⟨p, hp, fun H => ?_⟩
    unfold pairIn at h
    split at h
    · rename_i od its n osl hl
      split at h
      · rename_i i ti j tj hi
        obtain ⟨h1, h2⟩ := He.ba h
        have e1 : i = a := of_decide_eq_true h1
        have e2 : j = b := of_decide_eq_true h2
        subst e1 e2
        have hz : its.size = 2 := by
          have := congrArg List.length hi
          simpa using this
        refine .inr ⟨_, its, n, hl, rfl, rfl, by rw [hz]; show 2 ≤ sizeLine; decide, ?_⟩
        rw [hi]
        exact .cons ⟨ti, rfl⟩ (.cons ⟨tj, rfl⟩ .nil)
      · cases h
    · cases h
  · cases h
def exA (K : PySem.W.Frag) : Bool := (He.eqO (PySem.W.nsIn K mainGlobals "gcd") (some (some (.builtin "math.gcd"))) && (He.eqO (PySem.W.nsIn K mainGlobals "lcm") (some (some (.builtin "math.lcm"))) && ((!Nat.beq (He.cT K ("is_table", none)).2 (He.cT K ("dot", none)).2) && ((!Nat.beq (He.cT K ("is_table", none)).2 (He.cT K ("check_tried", none)).2) && ((!Nat.beq (He.cT K ("dot", none)).2 (He.cT K ("check_tried", none)).2) && true)))))
abbrev RR : PySem.W.OpenRow := PySem.W.OpenLaw.row PySem.Challenge.rw_rootsabove_k17_whole_means_and_spreads
abbrev hkR : PySem.W.Hook := He.hookX 4 faA fnA [] tfA exA
def obR (s : PySem.W.SharedT) : He.AlX := He.obsX 4 faA fnA [] tfA exA (HandSHeadRun.getT s)
theorem obR_eq (s : PySem.W.SharedT) : obR s = hkR.obs s.abs := He.obsX_eq (HandSHeadRun.getT_eq s)
abbrev qR : Program := PySem.W.view RR.prog [0, 53]
theorem runR (w : World) : HandSHeadRun.RunEqI RR qR hkR obR 20000 loose w := by
  delta HandSHeadRun.RunEqI
  kernel_rfl
end V3
namespace V3
open PySem PySem.Spec PyProof.Rows L2 RZ GxR
section
variable {w : World} {K : PySem.W.Frag} {h : Heap} {mg : Str → Option Value}
theorem atR (X : K.In h) (G : h.Ns mainGlobals mg) (c : He.SaysD faA fnA K) (i : Nat) (x : Str) (st : Stmt) (h1 : fnA[i]? = some (dN x st)) (h2 : faA[i]? = some (.glo x)) : At K mg x st := by
  obtain ⟨fd, F⟩ := c.def_ i (d := dN x st) h1
  have g := He.glo_ok X G (c.fact i (f := .glo x) h2)
  obtain ⟨oc, od, dV, kV, doc, pm, an, cdv, ct, osl, e, lk, cd, dv, kv⟩ := F.ex
  rcases dv with ⟨_, e2⟩ | ⟨e2, _⟩
  · subst e2
    exact ⟨⟨_, _, g, ⟨⟨oc, od, kV, doc, pm, an, cdv, ct, osl, e, lk, cd⟩, F.kp⟩⟩⟩
  · exact absurd rfl e2
theorem atCR (X : K.In h) (G : h.Ns mainGlobals mg) (c : He.SaysD faA fnA K) (i : Nat) (x : Str) (st : Stmt) (h1 : fnA[i]? = some (dN x st)) (h2 : faA[i]? = some (.glo x)) : AtC K mg x st (He.cT K (x, none)).1 := by
  obtain ⟨fd, F⟩ := c.def_ i (d := dN x st) h1
  have g := He.glo_ok X G (c.fact i (f := .glo x) h2)
  obtain ⟨oc, od, dV, kV, doc, pm, an, cdv, ct, osl, e, lk, cd, dv, kv⟩ := F.ex
  obtain ⟨cc, rfl⟩ := He.codeIn_ref cd
  have ec : He.codeOf K (x, none) = cc := He.codeOf_eq lk (by rw [e])
  rcases dv with ⟨_, e2⟩ | ⟨e2, _⟩
  · subst e2
    subst e
    have e3 : (He.cT K (x, none)).1 = cc := ec
    rw [e3]
    exact ⟨⟨_, oc, od, kV, doc, pm, an, ct, osl, g, lk, cd, F.kp⟩⟩
  · exact absurd rfl e2
theorem gsR (X : K.In h) (G : h.Ns mainGlobals mg) (c : He.SaysD faA fnA K) (ex : exA K = true) : Gs K mg := by
  obtain ⟨e1, ex⟩ := He.ba ex
  obtain ⟨e2, _⟩ := He.ba ex
  refine ⟨PySem.W.mg_of X G (He.eqO_ok e1), PySem.W.mg_of X G (He.eqO_ok e2), He.int_ok X G (c.fact 55 (f := .int "MOST_ROWS" 5) rfl), He.free_ok X G (c.fact 42 (f := .free "type") rfl), He.free_ok X G (c.fact 43 (f := .free "int") rfl), He.free_ok X G (c.fact 44 (f := .free "tuple") rfl), He.free_ok X G (c.fact 45 (f := .free "list") rfl), He.free_ok X G (c.fact 46 (f := .free "len") rfl), He.free_ok X G (c.fact 47 (f := .free "range") rfl), He.free_ok X G (c.fact 48 (f := .free "enumerate") rfl), He.free_ok X G (c.fact 49 (f := .free "zip") rfl), He.free_ok X G (c.fact 50 (f := .free "sum") rfl), He.free_ok X G (c.fact 51 (f := .free "abs") rfl), He.free_ok X G (c.fact 52 (f := .free "any") rfl), He.free_ok X G (c.fact 53 (f := .free "all") rfl), He.free_ok X G (c.fact 54 (f := .free "repr") rfl)⟩
end
def tabsA (K : PySem.W.Frag) : List Addr := (tfA.map (He.cT K)).map Prod.snd
theorem lawR {P : Program} {w : World} {K : PySem.W.Frag} {h base : Heap} {mg : Str → Option Value} (X : K.In h) (G : h.Ns mainGlobals mg) (c : He.SaysD faA fnA K) (ex : exA K = true)
    (TB : ∀ p ∈ tfA.map (He.cT K), TabB base mg p.1 p.2) : Dg P w K mg base "law" 12 ["script"] (spLaw K (tabsA K)) := by
  have T := gsR X G c ex
  have TB1 : TabB base mg (He.cT K ("is_table", none)).1 (He.cT K ("is_table", none)).2 := TB _ List.mem_cons_self
  have TB2 : TabB base mg (He.cT K ("dot", none)).1 (He.cT K ("dot", none)).2 := TB _ (List.mem_cons_of_mem _ List.mem_cons_self)
  have TB3 : TabB base mg (He.cT K ("check_tried", none)).1 (He.cT K ("check_tried", none)).2 := TB _ (List.mem_cons_of_mem _ (List.mem_cons_of_mem _ List.mem_cons_self))
  have m1 : (He.cT K ("is_table", none)).2 ∈ tabsA K := List.mem_cons_self
  have m2 : (He.cT K ("dot", none)).2 ∈ tabsA K := List.mem_cons_of_mem _ List.mem_cons_self
  have m3 : (He.cT K ("check_tried", none)).2 ∈ tabsA K := List.mem_cons_of_mem _ (List.mem_cons_of_mem _ List.mem_cons_self)
  have d_is_whole := ok_is_whole (P := P) (w := w) (base := base) (K := K) T (atR X G c 7 "is_whole" (topS 16) rfl rfl)
  have d_is_tuple_of := ok_is_tuple_of (P := P) (w := w) (base := base) (K := K) T (atR X G c 8 "is_tuple_of" (topS 17) rfl rfl)
  have d_is_fraction := ok_is_fraction (P := P) (w := w) (base := base) (K := K) T d_is_whole d_is_tuple_of (atR X G c 9 "is_fraction" (topS 18) rfl rfl)
  have d_first_unlike_fraction := ok_first (P := P) (w := w) (base := base) (K := K) T d_is_fraction (atR X G c 11 "first_unlike_fraction" (topS 20) rfl rfl)
  have d_is_row := ok_is_row (P := P) (w := w) (base := base) (K := K) d_is_tuple_of d_first_unlike_fraction (atR X G c 10 "is_row" (topS 19) rfl rfl)
  have d_is_table := ok_is_table (P := P) (w := w) (base := base) (K := K) T TB1 d_is_row (atCR X G c 13 "is_table" (topS 23) rfl rfl)
  have d_fraction := ok_fraction (P := P) (w := w) (base := base) (K := K) T (atR X G c 0 "fraction" (topS 6) rfl rfl)
  have d_shared_under := ok_shared (P := P) (w := w) (base := base) (K := K) T (atR X G c 1 "shared_under" (topS 7) rfl rfl)
  have d_whole_rows := ok_whole_rows (P := P) (w := w) (base := base) (K := K) T (atR X G c 2 "whole_rows" (topS 8) rfl rfl)
  have d_dot := ok_dotP (P := P) (w := w) (base := base) (K := K) T TB2 (atCR X G c 4 "dot" (topS 11) rfl rfl)
  have d_content := ok_content (P := P) (w := w) (base := base) (K := K) T (atR X G c 5 "content" (topS 12) rfl rfl)
  have d_shortened := ok_shortened (P := P) (w := w) (base := base) (K := K) T d_content (atR X G c 6 "shortened" (topS 13) rfl rfl)
  have d_whole_row := ok_whole_row (P := P) (w := w) (base := base) (K := K) d_shared_under d_whole_rows (atR X G c 3 "whole_row" (topS 9) rfl rfl)
  have d_check_row := ok_check_rowA (P := P) (w := w) (base := base) (K := K) d_is_tuple_of d_first_unlike_fraction (atR X G c 12 "check_row" (topS 21) rfl rfl)
  have d_check_table := ok_check_table (P := P) (w := w) (base := base) (K := K) d_is_table (atR X G c 14 "check_table" (topS 24) rfl rfl)
  have d_check_tried := ok_check_tried (P := P) (w := w) (base := base) (K := K) T m1 m3 TB3 d_check_table d_check_row (atCR X G c 15 "check_tried" (topS 26) rfl rfl)
  have d_products_of := ok_products (P := P) (w := w) (base := base) (K := K) T m2 d_shared_under d_shortened d_whole_row d_whole_rows d_dot (atR X G c 18 "products_of" (topS 29) rfl rfl)
  have d_mean_of := ok_mean (P := P) (w := w) (base := base) (K := K) T d_fraction d_check_tried d_products_of (atR X G c 16 "mean_of" (topS 27) rfl rfl)
  have k_mean_of := d_mean_of.kw (atR X G c 16 "mean_of" (topS 27) rfl rfl) (fun _ _ _ _ _ _ _ _ => rfl)
  have d_spread_of := ok_spread (P := P) (w := w) (base := base) (K := K) T d_fraction d_check_tried d_products_of (atR X G c 17 "spread_of" (topS 28) rfl rfl)
  have k_spread_of := d_spread_of.kw (atR X G c 17 "spread_of" (topS 28) rfl rfl) (fun _ _ _ _ _ _ _ _ => rfl)
  have d__law_draw := ok_draw (P := P) (w := w) (base := base) (K := K) T (atR X G c 20 "_law_draw" (topS 32) rfl rfl)
  have d__law_well := ok_well (P := P) (w := w) (base := base) (K := K) T (atR X G c 19 "_law_well" (topS 31) rfl rfl)
  have d__law_pick := ok_pick (P := P) (w := w) (base := base) (K := K) T d__law_draw (atR X G c 21 "_law_pick" (topS 33) rfl rfl)
  have d__law_common := ok_common (P := P) (w := w) (base := base) (K := K) T (atR X G c 22 "_law_common" (topS 34) rfl rfl)
  have d__law_lowest := ok_lowest (P := P) (w := w) (base := base) (K := K) T d__law_common (atR X G c 23 "_law_lowest" (topS 35) rfl rfl)
  have d__law_plus := ok_law_plus (P := P) (w := w) (base := base) (K := K) d__law_lowest (atR X G c 24 "_law_plus" (topS 36) rfl rfl)
  have d__law_minus := ok_law_minus (P := P) (w := w) (base := base) (K := K) d__law_lowest (atR X G c 35 "_law_minus" (topS 47) rfl rfl)
  have d__law_times := ok_law_times (P := P) (w := w) (base := base) (K := K) d__law_lowest (atR X G c 25 "_law_times" (topS 37) rfl rfl)
  have d__law_dot := ok_dot (P := P) (w := w) (base := base) (K := K) T (atR X G c 26 "_law_dot" (topS 38) rfl rfl)
  have d__law_along := ok_along (P := P) (w := w) (base := base) (K := K) T (atR X G c 30 "_law_along" (topS 42) rfl rfl)
  have d__law_mirror := ok_mirror (P := P) (w := w) (base := base) (K := K) T d__law_pick d__law_dot (atR X G c 29 "_law_mirror" (topS 41) rfl rfl)
  have d__law_framed := ok_framed (P := P) (w := w) (base := base) (K := K) T d__law_dot (atR X G c 27 "_law_framed" (topS 39) rfl rfl)
  have d__law_plant := ok_plant (P := P) (w := w) (base := base) (K := K) T d__law_draw d__law_pick d__law_lowest d__law_mirror d__law_framed d__law_along (atR X G c 33 "_law_plant" (topS 45) rfl rfl)
  have d__law_even := ok_even (P := P) (w := w) (base := base) (K := K) T (atR X G c 28 "_law_even" (topS 40) rfl rfl)
  have d__law_told := ok_told (P := P) (w := w) (base := base) (K := K) T d__law_lowest (atR X G c 31 "_law_told" (topS 43) rfl rfl)
  have d__law_world := ok_world (P := P) (w := w) (base := base) (K := K) T d__law_draw d__law_pick d__law_plant d__law_even (atR X G c 34 "_law_world" (topS 46) rfl rfl)
  have d__law_less := ok_less (P := P) (w := w) (base := base) (K := K) T (atR X G c 32 "_law_less" (topS 44) rfl rfl)
  have d__law_row := ok_row (P := P) (w := w) (base := base) (K := K) T d__law_draw d__law_dot (atR X G c 36 "_law_row" (topS 48) rfl rfl)
  have d__law_moments := ok_moments (P := P) (w := w) (base := base) (K := K) T d__law_dot d__law_lowest (atR X G c 37 "_law_moments" (topS 49) rfl rfl)
  have d__law_shared := ok_shared2 (P := P) (w := w) (base := base) (K := K) T d__law_lowest d__law_plus d__law_minus d__law_times (atR X G c 38 "_law_shared" (topS 50) rfl rfl)
  have d__law_told_right := ok_told_right (P := P) (w := w) (base := base) (K := K) T d_mean_of d_spread_of k_mean_of k_spread_of (atR X G c 39 "_law_told_right" (topS 51) rfl rfl)
  have d__law_right := ok_right (P := P) (w := w) (base := base) (K := K) T d__law_draw d__law_pick d__law_lowest d__law_dot d__law_framed d__law_mirror d__law_along d__law_told d__law_less d__law_world d__law_row d__law_moments d__law_shared d_spread_of d__law_told_right (atR X G c 40 "_law_right" (topS 52) rfl rfl)
  exact ok_law T d__law_well d__law_right (atR X G c 41 "law" (topS 53) rfl rfl)
theorem factsR {w : World} {K : PySem.W.Frag} {h : Heap} {mg : Str → Option Value} {fa : Addr} (X : K.In h) (G : h.Ns mainGlobals mg) (hfa : mg ("law" : Str) = some (.ref fa)) (c : He.SaysX faA fnA [] tfA exA w h K) :
    LawG PySem.Challenge.rw_rootsabove_k17_whole_means_and_spreads w K 12 63 "script" mg fa h := by
  have cd := c.t.d
  have aL := atR X G cd 41 "law" (topS 53) rfl rfl
  obtain ⟨f, fd, g, F⟩ := aL.ex
  rw [hfa] at g
  cases g
  obtain ⟨oc, od, kV, doc, pm, an, cdv, ct, osl, e, lk, _⟩ := id F.ex
  refine ⟨fd, tfA.map (He.cT K), spLaw K (tabsA K), fun p hp => ?_, fun p hp => ?_, fun p hp => ?_, fun s u => ?_, fun H a ns hl hT hS => ?_, fun base kb gb TB => ?_⟩
  · obtain ⟨d, hd, rfl⟩ := List.mem_map.mp hp
    exact c.empty d hd
  · obtain ⟨d, hd, rfl⟩ := List.mem_map.mp hp
    exact c.out d hd
  · obtain ⟨d, hd, rfl⟩ := List.mem_map.mp hp
    exact PySem.W.codeHd_of_K X (c.hd d hd)
  · subst e
    exact .of_eq rfl
  · refine ⟨a, ns, rfl, hS, fun p hp => ?_, fun _ => rfl⟩
    obtain ⟨d, hd, rfl⟩ := List.mem_map.mp hp
    exact ⟨#[], hT d hd, trivial⟩
  · obtain ⟨f', fd', g', kp, b, G', oc', od', osl', lk'⟩ := (lawR (P := PySem.Challenge.rw_rootsabove_k17_whole_means_and_spreads.prog) (w := w) (base := base) X G cd c.more (fun p hp => ⟨(TB p hp).code, (TB p hp).bm, (TB p hp).gP⟩)).ex
    rw [hfa] at g'
    cases g'
    rw [lk] at lk'
    cases lk'
    exact G'
end V3
open PySem.W PySem PyProof.Rows PySem.Calls
theorem PySem.Challenge.cw_rootsabove_k17_whole_means_and_spreads_holds : PySem.Challenge.rw_rootsabove_k17_whole_means_and_spreads.Holds := by
  w_on; o_law
  refine HandSHeadRun.head_imp (r := V3.RR) (q := V3.qR) (H := V3.hkR) (ob := V3.obR) (M := 20000) (loose := V3.loose) (d := HandSHeadRun.topDef V3.RR.prog 53) (kwd := []) V3.obR_eq V3.runR (by kernel_rfl) (by kernel_rfl) (by kernel_rfl) (by rfl) (by first | assumption | decide +kernel) (by decide +kernel) ⟨rfl, rfl, rfl, rfl, rfl, by decide +kernel⟩ ?hw ?hc
  case hw => w_witness2
  case hc =>
    refine V3.walkG (l := PySem.Challenge.rw_rootsabove_k17_whole_means_and_spreads) (n := 63) (k := 12) (x := "script") rfl (by decide) (by kernel_rfl) ⟨rfl, by decide, by decide⟩ ?F
    intro w mg fa h Y G hmg0
    obtain ⟨K, KX, c⟩ := Y
    have hlaw : mg ("law" : PySem.Str) = some (.ref fa) := by
      have e : (HandSHeadRun.topDef V3.RR.prog 53).name = ("law" : PySem.Str) := by kernel_rfl
      rw [← e]
      exact hmg0
    exact ⟨K, KX, V3.factsR KX G hlaw c⟩
