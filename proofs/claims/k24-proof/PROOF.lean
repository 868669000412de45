import PyProof.Rows.All
import Wide.All
import OpenK.AllK
import Wide.FinOn
import PySem.Challenge.RW_rootsabove_k24_whole_arrows_there_and_ba
import HandS.ForMost
import HandS.Wide
import HandS.WideBits
import HandS.Gcd
import HandS.More
import HandS.IsInst
import HandS.Zip
import HandS.SortKw
import HandS.NoneIn
import HandS.Style
import KE.GoesEnum
import HandS.AnyAll
import HandS.Conv
import KE.KEqDeep
import HandS.GenOver
import HandS.Comp
import HandS.Words
import HandS.Dict
import HandS.TupAny
import HandS.RaiseMore
import PyProof.NeKinds
import HandS.EndTab
import HandS.HeadWalk
import PyProof.Rows.NestShow
import PyProof.SumAny
import PyProof.TupleOfGen
import KE.DataFind
import HandS.SetFor
import HandS.Deep
import KE.KStateDown
import HandS.Defaults
import HandS.Head0
import HandS.Head1
import HandS.Head2
import HandS.Head3
import HandS.HeadEnd
import HandS.HeadHook1
import HandS.HeadHook2
import HandS.HeadHook3
import HandS.HeadHook4
import HandS.NestedK
set_option Elab.async false
set_option linter.all false
set_option maxRecDepth 100000
set_option maxHeartbeats 2100000
/-! Words of this verifier's own over the hand layer: data that lasts, a def by its name, enumerate of a tuple, lcm. -/
namespace V3
open PySem.Spec PySem L2 PyProof.Rows

/-! ### what stands, stands -/
theorem sameT {K : PySem.W.Frag} {H H' : Hp} {a : Addr} {xs : List V} (e : Same H H') (h : SqT K H a xs) : SqT K H' a xs := by
  (rcases h with (h | ⟨o, h⟩) | h)
  · exact .inl (.inl (e _ _ h))
  · (exact .inl (.inr ⟨o, e _ _ h⟩))
  · exact .inr h
theorem same_upd {o : HO} {p : Addr} {H : Hp} (new : H p = none) : Same H (upd H p o) := fun at_ it stood => by
  rw [upd_ne (ne_of_none stood new)]
  exact stood
mutual
theorem Dp.same {K : PySem.W.Frag} {H H' : Hp} (e : Same H H') : ∀ {v : V} {d : PyData}, Dp K H v d → Dp K H' v d
  | _, _, .non => .non
  | _, _, .bl b => .bl b
  | _, _, .int i => .int i
  | _, _, .str x => .str x
  | _, _, .lst h a => .lst (e.seq h) (DpAll.same e a)
  | _, _, .tup h a => .tup (sameT e h) (DpAll.same e a)
theorem DpAll.same {K : PySem.W.Frag} {H H' : Hp} (e : Same H H') : ∀ {vs : List V} {ds : List PyData}, DpAll K H vs ds → DpAll K H' vs ds
  | _, _, .nil => .nil
  | _, _, .cons a b => .cons (Dp.same e a) (DpAll.same e b)
end

/-! ### a def by its name -/
structure At (K : PySem.W.Frag) (mg : Str → Option Value) (x : Str) (st : Stmt) : Prop where
  ex : ∃ (f : Addr) (fd : FuncData), mg x = some (.ref f) ∧ Fun K x x st f fd
structure Df (P : Program) (w : World) (K : PySem.W.Frag) (mg : Str → Option Value) (base : Heap) (x : Str) (k : Nat) (ps : List Str) (sp : Sp) : Prop where
  ex : ∃ (f : Addr) (fd : FuncData), mg x = some (.ref f) ∧ PySem.W.keepIn K (.ref f) = true ∧ Binds K fd ps [] ∧ FnOk P w K mg base CX0 k f fd ps sp ∧ ∃ (oc : Value) (od : Option Addr) (osl : Array (Option Value)), K.lookup f = some ⟨oc, od, .func fd, osl⟩
def tFn (sp : Sp) (t : TA) : TE := fun σ H Q => t σ H fun vs H1 => sp vs H1 Q E0
section
variable {X : Cx}
theorem pe_fn {x : Str} {p pos : Pos} {e : Expr} {es : List Expr} {t : TA} {k k0 : Nat} {ps : List Str} {sp : Sp} (D : Df X.prog X.w X.K X.mg X.base x k ps sp) (hk : k ≤ k0) (hr : Room k0 X.A) (ha : PA X (e :: es) t)
    (hg : Gl X x := by rfl) (hdb : (x == ("__debug__" : Str)) = false := by decide) (he : starEach (e :: es) X.env = (false, eval e X.env) :: starEach es X.env := by rfl) (hpl : (backTo pos (starEach es X.env)).any (·.1) = false := by rfl) :
    PE X (.Call (.Name x p) (e :: es) [] pos) (tFn sp t) := by
  obtain ⟨f, fd, g, kp, b, G, _⟩ := D.ex
  have h := pe_call (pos := pos) (p := p) G (hr.mono hk) hg g kp b .nil pass0 ha hdb he hpl
  refine ⟨fun pins s σ H Q I q => h.run pins s σ H Q I ?_⟩
  show t σ H fun vs H1 => sp (vs ++ []) H1 Q E0
  have e0 : (fun vs H1 => sp (vs ++ []) H1 Q E0) = fun vs H1 => sp vs H1 Q E0 := by
    funext vs H1
    rw [List.append_nil]
  rw [e0]
  exact q
end
section
variable {mg : Str → Option Value} {base : Heap} {K : PySem.W.Frag} {P : Program} {w : World}
theorem Df.mk' {x : Str} {st : Stmt} {N ps : List Str} {k : Nat} {sp : Sp} (F : At K mg x st) (S : FnScope N ps (defScope st)) (len : ∀ vs H Q E, sp vs H Q E → vs.length = ps.length)
    (hb : ∀ (kV doc pm : Value) (an : Option Addr) (cdv ct : Value) (us : List Value), us.length = ps.length → bindArgs (PySem.W.fnOf x x (defArgs st) (defBody st) (defScope st) .none kV doc pm an cdv ct) ⟨us, []⟩ = pure (ps.zip us))
    (hbody : ∀ (f : Addr) (cdv : Value) (A : Around) (outer : List Env) (s : Shared) (H : Hp) (vs : List V) (Q : VK) (E : XK), Room k (A.deeper (envOfC x (defScope st) s.heap.objs.size f cdv)) → sp vs H Q E →
      ∃ t, PSs (cxOf CX0 P w K mg base N x (defScope st) f cdv A outer s H E).nox (defBody st) t ∧ t { nx := fun _ H' => Q .non H', rt := Q } (start N vs) H) : Df P w K mg base x (k + 1) ps sp := by
  obtain ⟨f, fd, g, F⟩ := F.ex
  refine ⟨f, fd, g, F.kp, F.binds hb, F.ok S len fun cdv A outer s H vs Q E hr h => hbody f cdv A outer s H vs Q E hr h, ?_⟩
  obtain ⟨oc, od, kV, doc, pm, an, cdv, ct, osl, e, lk, _⟩ := F.ex
  exact ⟨oc, od, osl, lk⟩
theorem Df.mono {x : Str} {ps : List Str} {j k : Nat} {sp : Sp} (D : Df P w K mg base x j ps sp) (h : j ≤ k) : Df P w K mg base x k ps sp := by
  obtain ⟨f, fd, g, kp, b, G, l⟩ := D.ex
  exact ⟨f, fd, g, kp, b, G.mono h, l⟩
theorem Df.imp {x : Str} {ps : List Str} {k : Nat} {sp sp' : Sp} (D : Df P w K mg base x k ps sp) (h : ∀ vs H Q E, sp' vs H Q E → sp vs H Q E) : Df P w K mg base x k ps sp' := by
  obtain ⟨f, fd, g, kp, b, G, l⟩ := D.ex
  exact ⟨f, fd, g, kp, b, G.imp h, l⟩
end

/-! ### two keywords, the last parameter first -/
structure DfK (P : Program) (w : World) (K : PySem.W.Frag) (mg : Str → Option Value) (base : Heap) (x : Str) (k : Nat) (p1 p2 : Str) (sp : Sp) : Prop where
  ex : ∃ (f : Addr) (fd : FuncData), mg x = some (.ref f) ∧ PySem.W.keepIn K (.ref f) = true ∧ KBinds K fd [p1, p2] [p2, p1] (fun us ws => us ++ us ++ us ++ ws.reverse) (fun us ws => us ++ us ++ us ++ ws.reverse) ∧ FnOk P w K mg base CX0 k f fd [p1, p2] sp
theorem Vals.rev : ∀ {zs : List V} {ws : List Value}, Vals zs ws → Vals zs.reverse ws.reverse := fun {zs ws} h => by
  induction h with
  | nil => exact .nil
  | cons a b ih =>
    (rw [List.reverse_cons, List.reverse_cons])
    exact ih.append (.cons a .nil)
theorem Df.kw {P : Program} {w : World} {K : PySem.W.Frag} {mg : Str → Option Value} {base : Heap} {x p1 p2 : Str} {st : Stmt} {k : Nat} {sp : Sp} (D : Df P w K mg base x k [p1, p2] sp) (F : At K mg x st)
    (hb : ∀ (kV doc pm : Value) (an : Option Addr) (cdv ct : Value) (u1 u2 : Value), bindArgs (PySem.W.fnOf x x (defArgs st) (defBody st) (defScope st) .none kV doc pm an cdv ct) ⟨[], [(p2, u2), (p1, u1)]⟩ = pure [(p1, u1), (p2, u2)]) : DfK P w K mg base x k p1 p2 sp := by
  obtain ⟨f, fd, g, kp, b, G, oc, od, osl, lk⟩ := D.ex
  obtain ⟨f', fd', g', F'⟩ := F.ex
  rw [g] at g'
  cases g'
  obtain ⟨oc', od', kV, doc, pm, an, cdv, ct, osl', e, lk', _⟩ := F'.ex
  rw [lk] at lk'
  cases lk'
  refine ⟨f, fd, g, kp, ⟨fun s us ws hk hl => ?_, fun r1 r2 => ((r1.append r1).append r1).append (Vals.rev r2)⟩, G⟩
  simp only [List.length_append, List.length_reverse, List.length_cons, List.length_nil] at hl
  have hu : us = [] := by
    cases us with
    | nil => rfl
    | cons a r =>
      simp only [List.length_cons] at hl
      omega
  subst hu
  match ws, hl with
  | [u2, u1], _ =>
    subst e
    exact .of_eq (hb kV doc pm an cdv ct u1 u2)
def tFnK (sp : Sp) (tk : TA) : TE := fun σ H Q => tk σ H fun zs H1 => sp zs.reverse H1 Q E0
theorem pe_fnK {X : Cx} {x p1 p2 : Str} {p pos : Pos} {kws : List Keyword} {tk : TA} {k k0 : Nat} {sp : Sp} (D : DfK X.prog X.w X.K X.mg X.base x k p1 p2 sp) (hk0 : k ≤ k0) (hr : Room k0 X.A) (hkw : PK X kws tk)
    (hg : Gl X x := by rfl) (hdb : (x == ("__debug__" : Str)) = false := by decide) (hall : (backToKw pos (keywordEach kws X.env)).all (·.1.isSome) = true := by rfl) (hks : (backToKw pos (keywordEach kws X.env)).filterMap (·.1) = [p2, p1] := by rfl)
    (plain : ((backTo pos (starEach [] X.env)).any (·.1) || (backToKw pos (keywordEach kws X.env)).any (·.1.isNone)) = false := by rfl) :
    PE X (.Call (.Name x p) [] kws pos) (tFnK sp tk) := by
  obtain ⟨f, fd, hm, hk, hb, F⟩ := D.ex
  (refine ⟨fun pins s σ H Q I h => ?_⟩)
  (refine wpAny_Call_Name_kw (ld_glob I hg hm ?_ hdb))
  refine PySem.W.callWith_KW0 (h₀ := X.base) I.ok.mod.kin hk hall (thn (hkw.run pos pins s σ H _ I h) fun ws s2 ⟨zs, H2, I2, rz, q2⟩ => ⟨I2.kIn, ?_⟩) plain
  rw [hks]
  exact run_fnk (us := []) (vs := []) F (hr.mono hk0) hb pass0 I2 .nil rz q2

/-! ### math.lcm -/
def rLcm : List V → Hp → VK → Prop := fun vs H Q => ∃ a b : Int, vs = [.int a, .int b] ∧ a.natAbs < 2 ^ 9000 ∧ b.natAbs < 2 ^ 9000 ∧ Q (.int ((Nat.lcm a.natAbs b.natAbs : Nat) : Int)) H
theorem lcm_log {a : Int} (h : a.natAbs < 2 ^ 9000) (c : Nat) (hc : c < 2 ^ 9000) : ¬ (max c a.natAbs).log2 / 30 + 1 > 450 := by
  have h1 : max c a.natAbs < 2 ^ 9000 := by omega
  have h2 := PySem.Flt.log2_lt_of (k := 9000) (by decide) h1
  omega
theorem cr_lcm {X : Cx} : CallR X (.builtin "math.lcm") rLcm := by
  (intro pins s σ H vs us Q I r h)
  obtain ⟨a, b, rfl, ha, hb, q⟩ := h
  (obtain ⟨t, u, rfl⟩ := Vals.int2 r)
  have hz : ((((Nat.lcm 1 a.natAbs).lcm b.natAbs : Nat) : Int)).natAbs.log2 < bitsLine := by
    rw [Nat.lcm_one_left]
    have h1 : a.natAbs.lcm b.natAbs ≤ a.natAbs * b.natAbs := by
      unfold Nat.lcm
      exact Nat.div_le_self _ _
    have h2 : a.natAbs * b.natAbs < 2 ^ 18000 := by
      rw [show (18000 : Nat) = 9000 + 9000 by rfl, Nat.pow_add]
      exact Nat.mul_lt_mul'' ha hb
    have h3 := PySem.Flt.log2_lt_of (k := 18000) (by decide) (Nat.lt_of_le_of_lt h1 h2)
    (have e : bitsLine = 134217728 := by decide)
    rw [Int.natAbs_natCast]
    omega
  have g := PySem.W.mg_run_lcm a t b u (lcm_log ha 1 (by exact Nat.one_lt_two_pow (by decide))) (lcm_log hb _ ha) hz
  have g2 := call_function_meets PySem.W.MGF.kind_lcm PySem.W.MGF.plain_lcm PySem.W.MGF.entry_lcm (PySem.W.MGF.args_lcm (.int a t) (.int b u)) g.meets (prog := X.prog) (w := X.w) (A := X.A) (E := X.xe) (s := s) (Q := EP X pins σ Q)
  refine g2 ⟨.int _, H, I.tok _, ⟨_, rfl⟩, ?_⟩
  rw [Nat.lcm_one_left]
  exact q
end V3
namespace V3
open PySem.Spec PySem L2 PyProof.Rows
theorem ifT {b : Bool} {A B : Prop} (h : b = true) (a : A) : if b = true then A else B := by
  rw [if_pos h]
  exact a
theorem ifF {b : Bool} {A B : Prop} (h : b = false) (a : B) : if b = true then A else B := by
  (rw [if_neg (by rw [h]; exact Bool.false_ne_true)])
  exact a
theorem if2 {b : Bool} {A B : Prop} (h1 : b = true → A) (h2 : b = false → B) : if b = true then A else B := by
  cases b with
  | true => exact iteT (h1 rfl)
  | false => exact iteF (h2 rfl)

/-! ### data -/
section
variable {K : PySem.W.Frag} {H : Hp}
theorem dpInt {v : V} {i : Int} (h : Dp K H v (.int i)) : v = .int i := by
  cases h
  rfl
theorem dpTup {v : V} {ds : List PyData} (h : Dp K H v (.tuple ds)) : ∃ p xs, v = .ref p ∧ SqT K H p xs ∧ DpAll K H xs ds := by
  cases h with
  | tup a b => exact ⟨_, _, rfl, a, b⟩
theorem dpLst {v : V} {ds : List PyData} (h : Dp K H v (.list ds)) : ∃ p xs, v = .ref p ∧ SqL K H p xs ∧ DpAll K H xs ds := by
  cases h with
  | lst a b => exact ⟨_, _, rfl, a, b⟩
theorem dpAll_len {vs : List V} {ds : List PyData} (h : DpAll K H vs ds) : vs.length = ds.length := by
  induction ds generalizing vs with
  | nil =>
    cases h
    rfl
  | cons d ds ih =>
    cases h with
    | cons a b => rw [List.length_cons, List.length_cons, ih b]
theorem dpAll_get {vs : List V} {ds : List PyData} {i : Nat} {d : PyData} (h : DpAll K H vs ds) (e : ds[i]? = some d) : ∃ v, vs[i]? = some v ∧ Dp K H v d := by
  induction ds generalizing vs i with
  | nil => simp at e
  | cons x ds ih =>
    cases h with
    | cons a b =>
      cases i with
      | zero =>
        have q : x = d := Option.some.inj e
        subst q
        exact ⟨_, rfl, a⟩
      | succ i =>
        have q := ih (i := i) b
        exact q e
theorem dpAll_getV {vs : List V} {ds : List PyData} {i : Nat} {v : V} (h : DpAll K H vs ds) (e : vs[i]? = some v) : ∃ d, ds[i]? = some d ∧ Dp K H v d := by
  induction ds generalizing vs i with
  | nil =>
    cases h
    simp at e
  | cons x ds ih =>
    cases h with
    | cons a b =>
      cases i with
      | zero =>
        have q := Option.some.inj e
        subst q
        exact ⟨_, rfl, a⟩
      | succ i =>
        have q := ih (i := i) b
        exact q e
theorem dpAll_app {vs ws : List V} {ds es : List PyData} (h : DpAll K H vs ds) (g : DpAll K H ws es) : DpAll K H (vs ++ ws) (ds ++ es) := by
  induction ds generalizing vs with
  | nil =>
    cases h
    exact g
  | cons x ds ih =>
    cases h with
    | cons a b => exact .cons a (ih b)
theorem dpAll_ints : ∀ (ns : List Int), DpAll K H (ns.map V.int) (ns.map PyData.int)
  | [] => .nil
  | n :: r => .cons (.int n) (dpAll_ints r)
theorem dpAll_intsV {vs : List V} {ns : List Int} (h : DpAll K H vs (ns.map PyData.int)) : vs = ns.map V.int := by
  induction ns generalizing vs with
  | nil =>
    cases h
    rfl
  | cons n r ih =>
    cases h with
    | cons a b =>
      rw [dpInt a, ih b]
      rfl
/-- a fraction, a row of them -/
def frD (q : Int × Int) : PyData := .tuple [.int q.1, .int q.2]
def rowD (qs : List (Int × Int)) : PyData := .tuple (qs.map frD)
theorem dpFr {v : V} {q : Int × Int} (h : Dp K H v (frD q)) : ∃ p, v = .ref p ∧ SqT K H p [.int q.1, .int q.2] := by
  obtain ⟨p, xs, rfl, hs, ha⟩ := dpTup h
  cases ha with
  | cons a b =>
    cases b with
    | cons c d =>
      cases d
      rw [dpInt a, dpInt c] at hs
      exact ⟨p, rfl, hs⟩
theorem mkFr {p : Addr} {a b : Int} (h : SqT K H p [.int a, .int b]) : Dp K H (.ref p) (frD (a, b)) := .tup h (.cons (.int a) (.cons (.int b) .nil))
theorem mkFrU {H' : Hp} {p : Addr} {q : Int × Int} (h : H' p = some (.tup [.int q.1, .int q.2])) : Dp K H' (.ref p) (frD q) := .tup (SqT.of h) (.cons (.int q.1) (.cons (.int q.2) .nil))
end

/-! ### enumerate of a tuple -/
set_option maxHeartbeats 4100000 in
theorem meets_enumerate_newB1 {v : Value} {o₀ : Obj} {H : Heap → Prop} (B : Begins v o₀ H) :
    Meets (Builtin.«enumerate.__new__» ⟨[.type "enumerate", v], []⟩) (fun _ R s => H s.heap ∧
      R (.ok (.ret (.ref (s.heap.push o₀).objs.size))) { s with heap := (s.heap.push o₀).push { cls := .type "enumerate", data := .fields #[.none, .bool false, .ref s.heap.objs.size, rawInt 0, .none, .none] } }) :=
  .of_wp fun prog w A R s h₀ => by
    obtain ⟨hp₀, g₀, d₀, tk₀, os₀⟩ := s; obtain ⟨h1₀, h₀⟩ := h₀
    have hsub₀ := sub_enumerate
    have q1₀ : ∀ {A' : Around} {E : Value → Shared → Prop} {Q : Value → Shared → Prop}, Q (.ref hp₀.objs.size) ⟨hp₀.push o₀, g₀, d₀, tk₀, os₀⟩ → wpAny (model prog w) A' (pyIter v) Q E ⟨hp₀, g₀, d₀, tk₀, os₀⟩ :=
      fun q₀ => B.iter prog w _ _ ⟨hp₀, g₀, d₀, tk₀, os₀⟩ _ h1₀ q₀
    wp_walk using q1₀
    refine wpAny_stack_any fun st₀ => wpAny_pure ?_
    split
    · rename_i c _ _ _ _ _
      (cases (c == Value.type "enumerate"))
      · wp_walk using q1₀
        exact ⟨_, rfl, h₀⟩
      · wp_walk using q1₀
        exact ⟨_, rfl, h₀⟩
    · wp_walk using q1₀
      exact ⟨_, rfl, h₀⟩
theorem call_enum_begins {prog : Program} {w : World} {A : Around} {E : Value → Shared → Prop} {s : Shared} {v : Value} {o₀ : Obj} {H : Heap → Prop} {Q : Value → Shared → Prop} (B : Begins v o₀ H) (h1₀ : H s.heap)
    (h₀ : ∀ h₀', IsEnum h₀' (s.heap.objs.size + 1) s.heap.objs.size 0 .none → h₀'.get? s.heap.objs.size = some o₀ → h₀'.objs.size = s.heap.objs.size + 2 →
      (∀ b₀ o₀, s.heap.get? b₀ = some o₀ → h₀'.get? b₀ = some o₀) → Q (.ref (s.heap.objs.size + 1)) { s with heap := h₀' }) :
    wpAny (model prog w) A (call (.type "enumerate") [v]) Q E s := by
  refine callType_new F.called_enumerate (by decide) (F.typeCall_enumerate_1 _) (F.newCall_enumerate_1 _) (fun thing => F.args_object_init_2 thing _) F.entry_enumerate_new
    (meets_enumerate_newB1 B) ⟨h1₀, ?_⟩
  have hz₀ : (s.heap.push o₀).objs.size = s.heap.objs.size + 1 := Heap.size_push ..
  show _ ∧ _
  rw [hz₀]
  have he₀ : IsEnum ((s.heap.push o₀).push { cls := .type "enumerate", data := .fields #[.none, .bool false, .ref s.heap.objs.size, rawInt 0, .none, .none] }) (s.heap.objs.size + 1) s.heap.objs.size 0 .none := by
    have := Heap.get?_push_size (s.heap.push o₀) (o := { cls := .type "enumerate", data := .fields #[.none, .bool false, .ref s.heap.objs.size, rawInt 0, .none, .none] }) rfl
    rw [hz₀] at this; exact this
  refine ⟨⟨_, he₀, rfl⟩, h₀ _ he₀ (Heap.get?_push_of_some _ (Heap.get?_push_size _ B.free)) (by rw [Heap.size_push, hz₀]) fun b₀ o₀ x => Heap.get?_push_of_some _ (Heap.get?_push_of_some _ x)⟩
/-- the tuple at a, each item in a new₀ pair -/
def IteT (K : PySem.W.Frag) (a : Addr) : It :=
  ⟨fun i H => ∃ (xs : List V) (x : V), SqT K H a xs ∧ xs[i]? = some x, fun i H v H' => ∃ T x, v = .ref T ∧ H T = none ∧ H' = upd H T (.tup [.int (i : Nat), x]) ∧ ∀ xs, SqT K H a xs → xs[i]? = some x, fun i H => ∃ xs : List V, SqT K H a xs ∧ xs.length ≤ i⟩
theorem turn_enumT {P : Program} {w : World} {K : PySem.W.Frag} {elts : List Expr} {kk : Nat} {tpos : Pos} (a e it : Addr) :
    Turn P w K (.Tuple elts kk tpos) (IteT K a) [e, it] e (fun i h₀ => (∃ old₀, IsEnum h₀ e it ((i : Nat) : Int) old₀) ∧ h₀.IsTupleIter it a i ∧ e ≠ it ∧ a ≠ it ∧ a ≠ e) where
  mem := by simp
  obj := fun i h₀ st₀ b₀ hb₀ => by
    obtain ⟨⟨old₀, he₀⟩, ⟨o₀, ho₀, hc₀, hd₀⟩, _⟩ := st₀
    have e₀' : b₀ = e ∨ b₀ = it := by simpa using hb₀
    rcases e₀' with z₀ | z₀
    · rw [z₀]; exact ⟨_, he₀, fun v q₀ => nomatch q₀⟩
    · rw [z₀]; exact ⟨o₀, ho₀, fun v q₀ => by rw [hd₀] at q₀; cases q₀⟩
  keep := fun i h₀ h₀' st₀ k => let ⟨⟨old₀, he₀⟩, hi₀, hne₀⟩ := st₀; ⟨⟨old₀, k e (by simp) _ he₀⟩, hi₀.at fun o₀ q₀ => k it (by simp) o₀ q₀, hne₀⟩
  item := by
    intro X hP hw hK hc₀ i pins₀ s σ₀ H E I hf₀ st₀ hg₀
    subst hP hw hK
    obtain ⟨⟨old₀, he₀⟩, hit₀, hne₀, hai₀, hae₀⟩ := st₀
    obtain ⟨xs, x, hq₀, hx₀⟩ := hg₀
    obtain ⟨its₀, rv₀, p₀, hz₀⟩ := I.tuple hq₀
    obtain ⟨u₀, hu₀, ru₀⟩ := rv₀.get hx₀
    have hel₀ : e < s.heap.objs.size := Heap.lt_size he₀
    have hil₀ : it < s.heap.objs.size := by obtain ⟨_, q₀, _⟩ := hit₀; exact Heap.lt_size q₀
    have hlen₀ : i < its₀.toArray.size := by
      have h1₀ : i < its₀.length := (List.getElem?_eq_some_iff.mp hu₀).1
      simpa using h1₀
    have ht₀ : s.heap.IsTuple a its₀.toArray := by
      obtain ⟨ob, h1₀, h2, n, h3⟩ := p₀
      exact ⟨ob, h1₀, h2, n, h3⟩
    have D : Draws X.prog X.w X.A.in1 it [it, a] its₀.toArray.size (fun i v => its₀.toArray[i]? = some v) (fun i h₀ => h₀.IsTupleIter it a i ∧ h₀.IsTuple a its₀.toArray) := Draws.tuple (by exact I.ok.hd hc₀) it a hai₀ its₀.toArray
    refine wpAny_pyNext_enum_itemD D he₀ ⟨hit₀, ht₀⟩ hlen₀ hne₀ (by simp; exact ⟨hne₀, fun z₀ => hae₀ z₀.symm⟩) fun x₀' h₀' tk₀ hPx₀ ho₀ hst₀' hT₀ hsz₀ hk₀ => ?_
    have ex₀ : x₀' = u₀ := by
      have q₀ : its₀.toArray[i]? = some u₀ := by simpa using hu₀
      have hPx' : its₀.toArray[i]? = some x₀' := hPx₀
      rw [q₀] at hPx'
      exact (Option.some.inj hPx').symm
    subst ex₀
    refine ⟨_, rfl, wpAny_letOwnedTupleGo_enum (s := { s with heap := h₀', toks := tk₀ + 1 }) ho₀ fun h₀' he₀' sb₀ => ?_⟩
    have hT2₀ : h₀'.get? s.heap.objs.size = some { cls := .type "tuple", data := .seq #[.int i tk₀, x₀'] } := (sb₀.2 _ (Nat.ne_of_gt hel₀)).trans hT₀
    have new₀ : ObjOk X.prog X.w (upd H s.heap.objs.size (.tup [.int (i : Nat), x])) h₀' s.heap.objs.size (.tup [.int (i : Nat), x]) :=
      ⟨by show 2 ≤ sizeLine; decide, [.int i tk₀, x₀'], .cons ⟨_, rfl⟩ (.cons ru₀ .nil), ⟨_, hT2₀, rfl, _, rfl⟩⟩
    have I1₀ : Inv X pins₀ σ₀ (upd H s.heap.objs.size (.tup [.int (i : Nat), x])) { s with heap := h₀', toks := tk₀ + 1 } :=
      I.turnedNew (ch := [e, it]) (fun b₀ ob hb₀ q₀ => (sb₀.2 b₀ (fun z₀ => hb₀ (by simp [z₀]))).trans (hk₀ b₀ ob (fun z₀ => hb₀ (by simp [z₀])) (fun z₀ => hb₀ (by simp [z₀])) q₀)) hf₀ (Nat.le_refl _) new₀
    refine ⟨.ref s.heap.objs.size, _, I1₀, rfl, ⟨_, x, rfl, I.hok.fresh (Nat.le_refl _), rfl, fun ys hy₀ => by rw [I.tuple_inj hy₀ hq₀]; exact hx₀⟩, ⟨⟨x₀', ?_⟩, hst₀'.1.at fun o₀ q₀ => (sb₀.2 it (Ne.symm hne₀)).trans q₀, hne₀, hai₀, hae₀⟩, fun b₀ hb₀ => ?_⟩
    · have e1₀ : ((i + 1 : Nat) : Int) = (i : Int) + 1 := by omega
      rw [e1₀]; exact he₀'
    · have hb₀' : b₀ < s.heap.objs.size := by
        have e₀' : b₀ = e ∨ b₀ = it := by simpa using hb₀
        rcases e₀' with z₀ | z₀
        · rw [z₀]; exact hel₀
        · rw [z₀]; exact hil₀
      rw [upd_ne (Nat.ne_of_lt hb₀')]
      exact (hf₀ b₀ hb₀).1
  done := by
    intro X hP hw hK hc₀ i pins₀ s σ₀ H E I hf₀ st₀ hg₀
    subst hP hw hK
    obtain ⟨⟨old₀, he₀⟩, hit₀, hne₀, hai₀, hae₀⟩ := st₀
    obtain ⟨xs, hq₀, hx₀⟩ := hg₀
    obtain ⟨its₀, rv₀, p₀, hz₀⟩ := I.tuple hq₀
    obtain ⟨f0₀, f1₀, f2₀, f3₀, f4₀, f5₀⟩ := hf₀ it (by simp)
    have hl₀ := rv₀.length
    have ht₀ : s.heap.IsTuple a its₀.toArray := by
      obtain ⟨ob, h1₀, h2, n, h3⟩ := p₀
      exact ⟨ob, h1₀, h2, n, h3⟩
    have hT₀ : s.TypeIs (.ref e) "enumerate" := ⟨_, he₀, rfl⟩
    unfold pyNext
    refine wpAny_bind (wpAny_attempt (wpAny_callSpecial?_slot (name := Str.ofString "__next__") hT₀ F.slot_enumerate_next
      (wpAny_call_entry F.slot_enumerate_next hT₀ F.entry_enumerate_next ?_ (F.args_enumerate_next_1 _))))
    (show wpAny _ _ (field (.ref e) 2 >>= _) _ _ _)
    refine wpAny_bind (wpAny_field he₀ rfl (x := .ref it) rfl ?_)
    refine wpAny_bind (wpAny_nextOf_tuple_end (by exact I.ok.hd hc₀) hit₀ ht₀ (by simp; omega) fun h₀' x he₀' hx₀' => ?_)
    obtain ⟨o₀, ho₀, hc'⟩ := hx₀'
    refine wpAny_bind (wpAny_isInstance (T := "StopIteration") (b := true) ⟨o₀, ho₀, hc'⟩ isSubtype_stop ?_)
    exact wpAny_pure ⟨rfl, I.turned (t' := s.toks) (fun b₀ o₀ hb₀ q₀ => he₀' b₀ o₀ hb₀ q₀) f0₀ f1₀ f3₀ f4₀ f5₀⟩
  self := fun A i s Q E st₀ h₀ => let ⟨⟨_, he₀⟩, _⟩ := st₀; wpAny_pyIter_enum he₀ h₀
def iEnumT (K : PySem.W.Frag) (ta : TA) : TI := fun σ₀ H R => ta σ₀ H fun vs H1 => ∃ a xs, vs = [.ref a] ∧ SqT K H1 a xs ∧ R (IteT K a) H1
theorem pi_enumT {X : Cx} {e : Expr} {ta : TA} {p₀ pos tpos : Pos} {elts : List Expr} {kk : Nat} (hg₀ : Gl X "enumerate") (hm : X.mg "enumerate" = none) (ha : PA X [e] ta) (hs : starEach [e] X.env = [(false, eval e X.env)] := by rfl) :
    PI X (.Tuple elts kk tpos) (.Call (.Name "enumerate" p₀) [e] [] pos) (iEnumT X.K ta) := by
  refine ⟨fun pins₀ s σ₀ H R I h₀ => ?_⟩
  refine Call_ (ld_blt I hg₀ hm boot_enumerate (PyProof.Rows.callWith_type1 (thn (ha.run pos pins₀ s σ₀ H _ I h₀) fun us₀ s1 ⟨vs, H1, I1₀, r1, q1₀⟩ => ?_) hs rfl))
  obtain ⟨a, xs, ex₀, hq₀, q₀⟩ := q1₀
  subst ex₀
  cases r1 with
  | cons r₀ rr₀ =>
    cases rr₀
    cases r₀
    obtain ⟨its₀, rv₀, p₀', hz₀⟩ := I1₀.tuple hq₀
    have ht₀ : s1.heap.IsTuple a its₀.toArray := by
      obtain ⟨ob, h1₀, h2, n, h3⟩ := p₀'
      exact ⟨ob, h1₀, h2, n, h3⟩
    have hal₀ : a < s1.heap.objs.size := by obtain ⟨_, q₀, _⟩ := ht₀; exact Heap.lt_size q₀
    refine call_enum_begins (begins_tuple a its₀.toArray) ht₀ fun h₀' he₀ hit₀ hsz₀ hk₀ => wpAny_pyIter_enum he₀ ?_
    have I2₀ : Inv X pins₀ σ₀ H1 { s1 with heap := h₀' } := I1₀.kept (t' := s1.toks) hk₀
    refine ⟨s1.heap.objs.size + 1, [s1.heap.objs.size + 1, s1.heap.objs.size], _, _, H1, rfl, I2₀, turn_enumT a (s1.heap.objs.size + 1) s1.heap.objs.size, ⟨⟨.none, he₀⟩, ⟨_, hit₀, rfl, rfl⟩, Nat.succ_ne_self _, Nat.ne_of_lt hal₀, Nat.ne_of_lt (Nat.lt_succ_of_lt hal₀)⟩, fun b₀ hb₀ => ?_, q₀⟩
    have e₀' : b₀ = s1.heap.objs.size + 1 ∨ b₀ = s1.heap.objs.size := by simpa using hb₀
    have hle₀ : s1.heap.objs.size ≤ b₀ := by
      rcases e₀' with z₀ | z₀
      · rw [z₀]; exact Nat.le_add_right _ _
      · rw [z₀]; exact Nat.le_refl _
    exact I1₀.fpOk hle₀ (I1₀.hok.fresh hle₀)
/-- the loop over enumerate(t) -/
theorem for_enumT {K : PySem.W.Frag} {a : Addr} {xs : List V} {g : TG} {tb : TS} {D : Ends} {σ : L2.St} {H : Hp} (Pv : Nat → L2.St → Hp → Prop) (h0 : Pv 0 σ H) (hl : ∀ i σ H, i ≤ xs.length → Pv i σ H → SqT K H a xs)
    (hs : ∀ (i : Nat) (x : V) (T : Addr) (σ : L2.St) (H : Hp), xs[i]? = some x → Pv i σ H → H T = none → g (.ref T) σ (upd H T (.tup [.int (i : Nat), x])) fun σ2 H2 => tb { D with nx := Pv (i + 1), bk := D.nx, ct := Pv (i + 1) } σ2 H2)
    (hd : ∀ σ H, Pv xs.length σ H → D.nx σ H) :
    ∃ W : Nat → Nat → L2.St → Hp → Prop, (∃ m, W 0 m σ H) ∧ ∀ i m σ H, W i m σ H → ((IteT K a).stop i H ∧ D.nx σ H) ∨ ((IteT K a).go i H ∧ ∃ Nx : L2.St → Hp → Prop, (∀ σ' H', Nx σ' H' → ∃ m', m' < m ∧ W (i + 1) m' σ' H') ∧ ∀ x H', (IteT K a).yld i H x H' → g x σ H' fun σ2 H2 => tb { D with nx := Nx, bk := D.nx, ct := Nx } σ2 H2) := by
  refine ⟨fun i m σ H => i + m = xs.length ∧ Pv i σ H, ⟨xs.length, by omega, h0⟩, ?_⟩
  rintro i m σ H ⟨em, hp⟩
  have hsq := hl i σ H (by omega) hp
  by_cases hi : i < xs.length
  · refine .inr ⟨⟨xs, xs[i], hsq, List.getElem?_eq_getElem hi⟩, Pv (i + 1), fun σ' H' q => ⟨m - 1, by omega, by omega, q⟩, ?_⟩
    rintro x H' ⟨T, y, rfl, hn, rfl, hy⟩
    exact hs i y T σ H (hy xs hsq) hp hn
  · (have e : i = xs.length := by omega)
    subst e
    exact .inl ⟨⟨xs, hsq, Nat.le_refl _⟩, hd σ H hp⟩
end V3
namespace V3
open PySem.Spec PySem L2 PyProof.Rows
theorem yesIf {σ : L2.St} {H : Hp} {A B : Hp → Prop} (h : A H) : tYes σ H (fun b H3 => if b = true then A H3 else B H3) := by
  show if true = true then A H else B H
  rw [if_pos rfl]
  exact h
end V3
set_option maxHeartbeats 4100000
/-! max, min of (x for x in range(..) if a[x] op b[y]). -/
namespace V3
open PySem.Spec PySem L2 PyProof.Rows GxR

/-- what is wanted of the tests of a generator expression over a range from lo₀ on: of place i they say pz₀ i, and change nothing -/
def TestR (X : Cx) (P : Addr) (scope : Scope) (x : Str) (ifs : List Expr) (tz : L2.St → Hp → Int → Nat → (Nat → Bool) → Prop) : Prop :=
  ∀ (pins₀ : List (Addr × Obj)) (s : Shared) (σ₀ : L2.St) (H : Hp) (lo₀ : Int) (n : Nat) (pz₀ : Nat → Bool), Inv X pins₀ σ₀ H s → tz σ₀ H lo₀ n pz₀ →
    (∃ ps₀ : Array Value, s.heap.get? P = some { cls := .none, data := .fields ps₀ }) →
    ∀ (cenv₀ : Env) (A' : Around) (E' : Value → Shared → Prop) (i : Nat) (t₀ : Tok) (s₂₀ : Shared) (m₂₀ : Str → Option Value), i < n → cenv₀.scope = scope → cenv₀.cells = cloFrom X.env.cells scope.names [] → s₂₀.heap.Ns cenv₀.locals m₂₀ →
      m₂₀ x = some (.int (lo₀ + (i : Nat) * 1) t₀) → (∀ b o, b ≠ P → s.heap.get? b = some o → s₂₀.heap.get? b = some o) →
      wpAny (model X.prog X.w) A' (forIn ifs true fun c r => if r = true then do let ok ← isTrue c cenv₀ (eval c cenv₀); pure (ForInStep.yield ok) else pure (ForInStep.yield r)) (fun ok s₃ => ok = pz₀ i ∧ Keeps s₂₀ s₃) E' s₂₀
/-- the generator g₀, ready to be walked in the state s5₀; H1₀: what was held before -/
def ReadyR (X : Cx) (pins₀ : List (Addr × Obj)) (σ₀ : L2.St) (H1₀ : Hp) (P : Addr) (lo₀ : Int) (n : Nat) (pz₀ : Nat → Bool) (g₀ : Addr) (s5₀ : Shared) : Prop :=
  ∃ (fp₀ wr₀ : List Addr) (G : Array GenState → Array GenState → Prop) (F : Nat → Value → Prop) (St₀ : Nat → Shared → Prop),
    WalksS X.prog X.w X.A.in1 g₀ fp₀ wr₀ G (passing pz₀ n 0).length F St₀ ∧ St₀ 0 s5₀ ∧ (∀ b ∈ fp₀, b < s5₀.heap.objs.size) ∧ (∀ j v₀, F j v₀ → ∃ i, (passing pz₀ n 0)[j]? = some i ∧ ∃ t₀, v₀ = .int (lo₀ + (i : Nat) * 1) t₀) ∧
    ∀ s', Moved wr₀ G s5₀ s' → ∃ H2₀, Tabbed P H1₀ H2₀ ∧ Inv X pins₀ σ₀ H2₀ s'
section
variable {X : Cx} {pins₀ : List (Addr × Obj)} {σ₀ : L2.St} {H : Hp} {s : Shared}
theorem range_small {a b : Int} (h1 : -(2 ^ 62) ≤ a) (h2 : a < 2 ^ 62) (h3₀ : -(2 ^ 62) ≤ b) (h4 : b < 2 ^ 62) : Builtin.Range.small a b 1 = true := by
  unfold Builtin.Range.small Builtin.Range.rangeFitsLong
  rw [rangeSize_nat]
  simp only [Bool.and_eq_true, Bool.or_eq_true, decide_eq_true_eq, beq_iff_eq]
  refine ⟨⟨⟨⟨?_, ?_⟩, ?_⟩, ?_⟩, ?_⟩
  · omega
  · omega
  · omega
  · omega
  · right
    rw [if_pos (by decide)]
    (simp only [Bool.and_eq_true, decide_eq_true_eq])
    omega
theorem gen_range {c P : Addr} {iter : Expr} {x : Str} {px pe gpos : Pos} {ifs : List Expr} {scope : Scope} {te : L2.St → Hp → (Int → Int → Hp → Prop) → Prop} {tz : L2.St → Hp → Int → Nat → (Nat → Bool) → Prop} {k : Nat} {Q' : Value → Shared → Prop} {R : Int → Nat → (Nat → Bool) → Hp → Prop}
    (hr₀ : Room k X.A) (TB₀ : TabB X.base X.mg c P) (hcode₀ : X.env.code = .ref c) (S : GenS X.env scope x) (hi₀ : PRg X iter te) (ht₀ : TestR X P scope x ifs tz) (hd₀ : (x == ("__debug__" : Str)) = false)
    (hs₀ : ∀ v₀, genFold iter X.env v₀ = pure v₀) (I₀ : Inv X pins₀ σ₀ H s)
    (h : te σ₀ H fun a b H1₀ => -(2 ^ 62) ≤ a ∧ a < 2 ^ 62 ∧ -(2 ^ 62) ≤ b ∧ b < 2 ^ 62 ∧ TabG H1₀ P ∧ ∃ pz₀, tz σ₀ H1₀ a (b - a).toNat pz₀ ∧ R a (b - a).toNat pz₀ H1₀)
    (hQ₀ : ∀ lo₀ n pz₀ H1₀ g₀ s5₀, R lo₀ n pz₀ H1₀ → ReadyR X pins₀ σ₀ H1₀ P lo₀ n pz₀ g₀ s5₀ → Q' (.ref g₀) s5₀) :
    wpAny (model X.prog X.w) X.A (eval (.GeneratorExp (.Name x pe) [⟨.Name x px, iter, ifs, 0⟩] scope gpos) X.env) Q' X.xe s := by
  refine wpAny_GeneratorExp_walksQ hr₀.hd S.co (closure_ok S.free) S.cell S.dot S.loc S.kind (by have := hr₀.dp; omega) ?_ hs₀
  refine thn (hi₀ pins₀ s σ₀ H _ I₀ h) fun xv₀ s1₀ ⟨r, a, b, t₀, u₀, v₀, H1₀, ex₀, hrng₀, I1₀, q1₀⟩ => ?_
  subst ex₀
  obtain ⟨b1₀, b2₀, b3₀, b4₀, ⟨ps₀, hP₀, htr₀⟩, pz₀, hz₀, q1₀⟩ := q1₀
  refine wpAny_pyIter_range hrng₀ (range_small b1₀ b2₀ b3₀ b4₀) ?_
  generalize ho₀ : ({ cls := .type "range_iterator", data := .fields #[rawInt a, rawInt (Builtin.Range.rangeSize a b 1), rawInt 1] } : Obj) = o
  have hfo₀ : o.isFreed = false := by rw [← ho₀]; rfl
  have hPs₀ : s1₀.heap.get? P = some { cls := .none, data := .fields ps₀ } := I1₀.hok P _ hP₀
  have hPlt₀ : P < s1₀.heap.objs.size := Heap.lt_size hPs₀
  have hP2₀ : (s1₀.heap.push o).get? P = some { cls := .none, data := .fields ps₀ } := Heap.get?_push_of_some _ hPs₀
  have cd₀ : PySem.W.CodeHd (s1₀.heap.push o) c P := TB₀.code.keeps fun b u₀ e => Heap.get?_push_of_some _ (I1₀.bk b u₀ e)
  have lim2₀ : (s1₀.heap.push o).NoLimit := I1₀.nolimit.push o
  have hst₀ : IsRangeIter (s1₀.heap.push o) s1₀.heap.objs.size (a + ((0 : Nat) : Int) * 1) (((b - a).toNat : Int) - ((0 : Nat) : Int)) 1 := by
    show (s1₀.heap.push o).get? s1₀.heap.objs.size = _
    rw [← ho₀, rangeSize_nat]
    simpa using Heap.get?_push_size s1₀.heap (o := { cls := .type "range_iterator", data := .fields #[rawInt a, rawInt ((b - a).toNat : Int), rawInt 1] }) rfl
  have cont₀ : ∀ (code : Value) (h3₀ : Heap) (tk₀ : Nat) (ps₀' : Array Value), Heap.ExtBut P (s1₀.heap.push o) h3₀ → (s1₀.heap.push o).objs.size ≤ h3₀.objs.size → h3₀.get? P = some { cls := .none, data := .fields ps₀' } → (∃ more₀, ps₀' = ps₀ ++ more₀) → TriplesOk ps₀'.toList →
      wpAny (model X.prog X.w) X.A (builtinsFor X.env.globals X.env.builtins) (fun bi sB =>
        ∃ Ia fp₀ wr₀ n₀ Pf St₀ pz₀ F, Value.ref s1₀.heap.objs.size = .ref Ia ∧ (∀ A' : Around, A'.handled = none → Walks X.prog X.w A' Ia fp₀ wr₀ n₀ Pf St₀) ∧ St₀ 0 sB.heap ∧ (∀ b ∈ fp₀, b < sB.heap.objs.size) ∧ sB.heap.NoLimit ∧ cStatics ∉ wr₀ ∧
          (∀ href₀ : Heap, (∀ b o, sB.heap.get? b = some o → href₀.get? b = some o) →
            QuietGen X.prog X.w (genEnv scope (cloFrom X.env.cells scope.names []) sB.heap.objs.size code bi X.env) x ifs (.Name x pe) (List.range sB.heap.objs.size) wr₀ Pf pz₀ F href₀) ∧
          (∀ a h₅ tk₀ gs, gs.bare = true → sB.heap.objs.size < a → h₅.objs.size = a + 1 → (∀ b o, sB.heap.get? b = some o → h₅.get? b = some o) →
            WalksS X.prog X.w X.A.in4 a (a :: sB.heap.objs.size :: List.range sB.heap.objs.size) (sB.heap.objs.size :: wr₀) (GenOnlyQ sB.gens.size) (passing pz₀ n₀ 0).length
              (fun j y => ∃ i, (passing pz₀ n₀ 0)[j]? = some i ∧ F i y) (GenAt X.prog X.w X.A.in4 a sB.gens.size sB.heap.objs.size (List.range sB.heap.objs.size) wr₀ pz₀ n₀ F) →
            GenAt X.prog X.w X.A.in4 a sB.gens.size sB.heap.objs.size (List.range sB.heap.objs.size) wr₀ pz₀ n₀ F 0 { sB with gens := sB.gens.push gs, toks := tk₀, heap := h₅ } →
            Q' (.ref a) { sB with gens := sB.gens.push gs, toks := tk₀, heap := h₅ })) X.xe { s1₀ with heap := h3₀, toks := tk₀ } := by
    intro code h3₀ tk₀ ps₀' hx₀ hsz₀ hP3₀ hmore₀ ht3₀
    obtain ⟨bm₀, ob₀, e1₀, e2₀, e3₀, e4₀, e5₀, e6₀, e7₀, e8₀⟩ := TB₀.bm
    have hcP₀ : cStatics ≠ P := fun e => by
      obtain ⟨_, hns, _⟩ := I1₀.nolimit
      obtain ⟨o', es₀, ep₀, ho₀, hd₀, _⟩ := hns
      rw [e, hPs₀] at ho₀
      cases ho₀
      cases hd₀
    have hcl₀ : cStatics < s1₀.heap.objs.size := let ⟨_, hns, _⟩ := I1₀.nolimit; hns.lt
    have sz2₀ : (s1₀.heap.push o).objs.size = s1₀.heap.objs.size + 1 := Heap.size_push ..
    have keep3₀ : ∀ b u₀, b ≠ P → s1₀.heap.get? b = some u₀ → h3₀.get? b = some u₀ := fun b u₀ hb₀ e => hx₀ b u₀ hb₀ (Heap.get?_push_of_some _ e)
    refine wpAny_builtinsFor (m := X.mg) (by rw [I1₀.ok.glob]; exact ((I1₀.mod.glob.keeps I1₀.bk).push o).extBut hx₀ TB₀.gP) e1₀ e2₀ (keep3₀ _ _ e4₀ (I1₀.bk _ _ e5₀)) e6₀ e7₀ e8₀ ?_
    refine ⟨s1₀.heap.objs.size, [s1₀.heap.objs.size], [s1₀.heap.objs.size], (b - a).toNat, fun i v₀ => i < (b - a).toNat ∧ ∃ t₀, v₀ = .int (a + (i : Nat) * 1) t₀, _, pz₀, (fun i y => ∃ t₀, y = .int (a + (i : Nat) * 1) t₀), rfl, (fun A' hA => (Walks.range hA s1₀.heap.objs.size a 1 (b - a).toNat).bound), ?_, ?_, lim2₀.extBut hx₀ hcP₀, ?_, ?_, ?_⟩
    · exact hx₀ _ _ (Nat.ne_of_gt hPlt₀) hst₀
    · intro b hb₀
      rcases List.mem_cons.mp hb₀ with z | z
      · rw [z]
        show s1₀.heap.objs.size < h3₀.objs.size
        omega
      · cases z
    · intro z
      (rcases List.mem_cons.mp z with z | z)
      · exact Nat.ne_of_lt hcl₀ z
      · cases z
    · intro href₀ hhref₀
      have kp₀ : ∀ (s₂₀ : Shared), (∀ b ∈ List.range h3₀.objs.size, b ∉ [s1₀.heap.objs.size] → ∀ o, href₀.get? b = some o → s₂₀.heap.get? b = some o) → ∀ b o, b ≠ P → s1₀.heap.get? b = some o → s₂₀.heap.get? b = some o := fun s₂₀ hk₀ b o hb₀ e => by
        have e3₀ := keep3₀ b o hb₀ e
        refine hk₀ b (List.mem_range.mpr (Heap.lt_size e3₀)) (fun z => ?_) o (hhref₀ b o e3₀)
        (rcases List.mem_cons.mp z with z | z)
        · have := Heap.lt_size e
          rw [z] at this
          exact Nat.lt_irrefl _ this
        · cases z
      refine ⟨fun A' E' i v₀ s₂₀ m₂₀ hA hPv₀ hn₀ hm₀ hk₀ => ?_, fun A' E' i v₀ s₂₀ m₂₀ hA hPv₀ hp₀ hn₀ hm₀ hk₀ => ?_⟩
      · obtain ⟨hi', t', rfl⟩ := hPv₀
        exact ht₀ pins₀ s1₀ σ₀ H1₀ a (b - a).toNat pz₀ I1₀ hz₀ ⟨ps₀, hPs₀⟩ _ A' E' i t' s₂₀ m₂₀ hi' rfl rfl hn₀ hm₀ (kp₀ s₂₀ hk₀)
      · obtain ⟨hi', t', rfl⟩ := hPv₀
        refine wpAny_Name (wpAny_loadName_local (by exact S.kind) (by exact S.loc) hn₀ hm₀ ?_) hd₀
        exact ⟨⟨t', rfl⟩, keeps_refl _⟩
    · intro g₀ h5₀ tk5₀ gs hgb₀ hag₀ hsz5₀ hk5₀ W5₀ hat₀
      refine hQ₀ a (b - a).toNat pz₀ H1₀ g₀ _ q1₀ ⟨_, _, _, _, _, W5₀.in4_1, hat₀, ?_, ?_, fun s' hm₀ => ?_⟩
      · intro b hb₀
        show b < h5₀.objs.size
        rw [hsz5₀]
        have hag₀' : h3₀.objs.size < g₀ := hag₀
        rcases List.mem_cons.mp hb₀ with z | z
        · rw [z]
          exact Nat.lt_succ_self g₀
        · (rcases List.mem_cons.mp z with z | z)
          · rw [z]
            exact Nat.lt_succ_of_lt hag₀'
          · exact Nat.lt_succ_of_lt (Nat.lt_trans (List.mem_range.mp z) hag₀')
      · intro j y hy
        exact hy
      · obtain ⟨more₀, em₀⟩ := hmore₀
        have nwr₀ : ∀ b u₀, s1₀.heap.get? b = some u₀ → b ∉ h3₀.objs.size :: [s1₀.heap.objs.size] := fun b u₀ e hb₀ => by
          have hl₀ := Heap.lt_size e
          rcases List.mem_cons.mp hb₀ with z | z
          · rw [z] at hl₀
            have h9 : (h3₀.objs.size : Nat) < s1₀.heap.objs.size := hl₀
            omega
          · (rcases List.mem_cons.mp z with z | z)
            · rw [z] at hl₀
              exact Nat.lt_irrefl _ hl₀
            · cases z
        have J₀ := inv_tab (more := more₀) (h' := s'.heap) (g' := s'.gens) (d' := s'.drawn) (t' := s'.toks) I1₀ hP₀ (fun b u₀ hb₀ e => hm₀.heap b u₀ (nwr₀ b u₀ e) (hk5₀ b u₀ (keep3₀ b u₀ hb₀ e)))
          (by rw [← em₀]; exact hm₀.heap P _ (nwr₀ P _ hPs₀) (hk5₀ P _ hP3₀)) (AllBare.movedS (I1₀.bare.push hgb₀) hm₀)
        rw [sh_eta s1₀ s' hm₀.os] at J₀
        refine ⟨upd H1₀ P (.tbl (ps₀ ++ more₀)), ⟨⟨ps₀ ++ more₀, upd_same, by rw [← em₀]; exact ht3₀⟩, fun b hb₀ => upd_ne hb₀⟩, J₀⟩
  refine ⟨lim2₀, ?_⟩
  cases hf₀ : codeAmong gpos ps₀.toList with
  | none =>
    refine wpAny_genexprCodeX hcode₀ (cd₀.code hP2₀ htr₀) (cd₀.tab hP2₀) hf₀ fun c₀' h₀' tk₀ hx₀ hge₀ hlt₀ hco₀' _ htab₀' _ => ?_
    obtain ⟨o1, vs, f1, tf, fl, tg, inF, tx, tt, op, _, _, _, _, _, _, _, _, _, htr', _⟩ := hco₀'
    exact cont₀ _ h₀' tk₀ _ hx₀ (Nat.le_trans hge₀ (Nat.le_of_lt hlt₀)) htab₀'.2 ⟨_, rfl⟩ htr'
  | some cv =>
    refine wpAny_genexprCode_hit hcode₀ (cd₀.code hP2₀ htr₀) hf₀ ?_
    exact cont₀ cv (s1₀.heap.push o) s1₀.toks ps₀ (Heap.ExtBut.refl _ _) (Nat.le_refl _) hP2₀ ⟨#[], by simp⟩ htr₀

theorem mem_passing {pz₀ : Nat → Bool} {n i : Nat} : i ∈ passing pz₀ n 0 ↔ i < n ∧ pz₀ i = true := by
  unfold passing
  rw [List.drop_zero, List.mem_filter, List.mem_range]

/-- max(x for x in range(..) if ..) -/
def tMaxR (P : Addr) (te : L2.St → Hp → (Int → Int → Hp → Prop) → Prop) (tz : L2.St → Hp → Int → Nat → (Nat → Bool) → Prop) : TE := fun σ₀ H Q =>
  te σ₀ H fun a b H1₀ => -(2 ^ 62) ≤ a ∧ a < 2 ^ 62 ∧ -(2 ^ 62) ≤ b ∧ b < 2 ^ 62 ∧ TabG H1₀ P ∧ ∃ pz₀, tz σ₀ H1₀ a (b - a).toNat pz₀ ∧ (∃ i, i < (b - a).toNat ∧ pz₀ i = true) ∧
    ∀ i H2₀, Tabbed P H1₀ H2₀ → i < (b - a).toNat → pz₀ i = true → (∀ j, j < (b - a).toNat → pz₀ j = true → j ≤ i) → Q (.int (a + i)) H2₀
def tMinR (P : Addr) (te : L2.St → Hp → (Int → Int → Hp → Prop) → Prop) (tz : L2.St → Hp → Int → Nat → (Nat → Bool) → Prop) : TE := fun σ₀ H Q =>
  te σ₀ H fun a b H1₀ => -(2 ^ 62) ≤ a ∧ a < 2 ^ 62 ∧ -(2 ^ 62) ≤ b ∧ b < 2 ^ 62 ∧ TabG H1₀ P ∧ ∃ pz₀, tz σ₀ H1₀ a (b - a).toNat pz₀ ∧ (∃ i, i < (b - a).toNat ∧ pz₀ i = true) ∧
    ∀ i H2₀, Tabbed P H1₀ H2₀ → i < (b - a).toNat → pz₀ i = true → (∀ j, j < (b - a).toNat → pz₀ j = true → i ≤ j) → Q (.int (a + i)) H2₀
theorem pe_maxR {c P : Addr} {iter : Expr} {x : Str} {px pe p pos gpos : Pos} {ifs : List Expr} {scope : Scope} {te : L2.St → Hp → (Int → Int → Hp → Prop) → Prop} {tz : L2.St → Hp → Int → Nat → (Nat → Bool) → Prop} {k : Nat}
    (hr₀ : Room k X.A) (hg : Gl X "max") (hm₀ : X.mg "max" = none) (TB₀ : TabB X.base X.mg c P) (hcode₀ : X.env.code = .ref c) (S : GenS X.env scope x) (hi₀ : PRg X iter te) (ht₀ : TestR X P scope x ifs tz) (hd₀ : (x == ("__debug__" : Str)) = false)
    (hs₀ : ∀ v₀, genFold iter X.env v₀ = pure v₀)
    (he₀ : starEach [.GeneratorExp (.Name x pe) [⟨.Name x px, iter, ifs, 0⟩] scope gpos] X.env = (false, eval (.GeneratorExp (.Name x pe) [⟨.Name x px, iter, ifs, 0⟩] scope gpos) X.env) :: starEach [] X.env := by rfl) :
    PE X (.Call (.Name "max" p) [.GeneratorExp (.Name x pe) [⟨.Name x px, iter, ifs, 0⟩] scope gpos] [] pos) (tMaxR P te tz) := by
  refine ⟨fun pins₀ s σ₀ H Q I₀ h => ?_⟩
  refine wpAny_Call_Name_kw (ld_blt (u := .builtin "max") I₀ hg hm₀ (by decide +kernel) ?_)
  refine PyProof.Rows.callWith_builtin1 (id := "max") ?_ he₀ (by rfl)
  rw [he₀]
  show wpAny _ _ (spliced ((false, eval (.GeneratorExp (.Name x pe) [⟨.Name x px, iter, ifs, 0⟩] scope gpos) X.env) :: backTo pos (starEach [] X.env))) _ _ s
  refine Calls.spliced_cons (gen_range (R := fun lo₀ n pz₀ H1₀ => (∃ i, i < n ∧ pz₀ i = true) ∧ ∀ i H2₀, Tabbed P H1₀ H2₀ → i < n → pz₀ i = true → (∀ j, j < n → pz₀ j = true → j ≤ i) → Q (.int (lo₀ + i)) H2₀) hr₀ TB₀ hcode₀ S hi₀ ht₀ hd₀ hs₀ I₀ h fun lo₀ n pz₀ H1₀ g₀ s5₀ hR₀ hG₀ => ?_)
  obtain ⟨⟨i0₀, hi0₀, hp0₀⟩, hq₀⟩ := hR₀
  obtain ⟨fp₀, wr₀, G, F, St₀, W, hst₀, hfp₀, hval₀, hI₀⟩ := hG₀
  refine Calls.spliced_nil ?_
  have hne₀ : 0 < (passing pz₀ n 0).length := List.length_pos_of_mem (mem_passing.mpr ⟨hi0₀, hp0₀⟩)
  obtain ⟨val₀, hvd₀⟩ : ∃ val₀ : Nat → Int, ∀ j, val₀ j = lo₀ + (((passing pz₀ n 0).getD j 0 : Nat) : Int) := ⟨_, fun _ => rfl⟩
  have hv₀ : ∀ j v₀, F j v₀ → ∃ t₀, v₀ = .int (val₀ j) t₀ := fun j v₀ hF₀ => by
    obtain ⟨i, h1, t₀, rfl⟩ := hval₀ j v₀ hF₀
    refine ⟨t₀, ?_⟩
    rw [hvd₀]
    simp [List.getD_eq_getElem?_getD, h1]
  refine call_max_walkS (W.self 0 _ _ _ hst₀ ⟨g₀, fp₀, wr₀, G, _, F, St₀, _, rfl, W, hst₀, hfp₀, hne₀, CmpOf.ints_gt _ hv₀, fun v₀ s' hF₀ hmv₀ => ?_⟩)
  obtain ⟨H2₀, hT₀, J₀⟩ := hI₀ s' hmv₀
  have hb₀ := argBest_gt val₀ ((passing pz₀ n 0).length - 1)
  obtain ⟨t₀, rfl⟩ := hv₀ _ v₀ hF₀
  have hlt₀ : argBest (fun i j => decide (val₀ i > val₀ j)) ((passing pz₀ n 0).length - 1) < (passing pz₀ n 0).length := by omega
  refine ⟨.int _, H2₀, J₀, ⟨_, rfl⟩, ?_⟩
  generalize argBest (fun i j => decide (val₀ i > val₀ j)) ((passing pz₀ n 0).length - 1) = jm₀ at hb₀ hlt₀
  have hm1₀ : (passing pz₀ n 0).getD jm₀ 0 = (passing pz₀ n 0)[jm₀] := by simp [List.getD_eq_getElem?_getD, hlt₀]
  have hmem₀ : (passing pz₀ n 0)[jm₀] ∈ passing pz₀ n 0 := List.getElem_mem hlt₀
  obtain ⟨k1₀, k2₀⟩ := mem_passing.mp hmem₀
  show Q (.int (val₀ jm₀)) H2₀
  rw [hvd₀, hm1₀]
  refine hq₀ _ H2₀ hT₀ k1₀ k2₀ fun j hj hpj => ?_
  obtain ⟨jj₀, hjj₀, ej₀⟩ := List.getElem_of_mem (mem_passing.mpr ⟨hj, hpj⟩)
  have := hb₀.2 jj₀ (by omega)
  have e2₀ : (passing pz₀ n 0).getD jj₀ 0 = j := by simp [List.getD_eq_getElem?_getD, hjj₀, ej₀]
  simp only [hvd₀, hm1₀, e2₀] at this
  omega
theorem pe_minR {c P : Addr} {iter : Expr} {x : Str} {px pe p pos gpos : Pos} {ifs : List Expr} {scope : Scope} {te : L2.St → Hp → (Int → Int → Hp → Prop) → Prop} {tz : L2.St → Hp → Int → Nat → (Nat → Bool) → Prop} {k : Nat}
    (hr₀ : Room k X.A) (hg : Gl X "min") (hm₀ : X.mg "min" = none) (TB₀ : TabB X.base X.mg c P) (hcode₀ : X.env.code = .ref c) (S : GenS X.env scope x) (hi₀ : PRg X iter te) (ht₀ : TestR X P scope x ifs tz) (hd₀ : (x == ("__debug__" : Str)) = false)
    (hs₀ : ∀ v₀, genFold iter X.env v₀ = pure v₀)
    (he₀ : starEach [.GeneratorExp (.Name x pe) [⟨.Name x px, iter, ifs, 0⟩] scope gpos] X.env = (false, eval (.GeneratorExp (.Name x pe) [⟨.Name x px, iter, ifs, 0⟩] scope gpos) X.env) :: starEach [] X.env := by rfl) :
    PE X (.Call (.Name "min" p) [.GeneratorExp (.Name x pe) [⟨.Name x px, iter, ifs, 0⟩] scope gpos] [] pos) (tMinR P te tz) := by
  refine ⟨fun pins₀ s σ₀ H Q I₀ h => ?_⟩
  refine wpAny_Call_Name_kw (ld_blt (u := .builtin "min") I₀ hg hm₀ (by decide +kernel) ?_)
  refine PyProof.Rows.callWith_builtin1 (id := "min") ?_ he₀ (by rfl)
  rw [he₀]
  show wpAny _ _ (spliced ((false, eval (.GeneratorExp (.Name x pe) [⟨.Name x px, iter, ifs, 0⟩] scope gpos) X.env) :: backTo pos (starEach [] X.env))) _ _ s
  refine Calls.spliced_cons (gen_range (R := fun lo₀ n pz₀ H1₀ => (∃ i, i < n ∧ pz₀ i = true) ∧ ∀ i H2₀, Tabbed P H1₀ H2₀ → i < n → pz₀ i = true → (∀ j, j < n → pz₀ j = true → i ≤ j) → Q (.int (lo₀ + i)) H2₀) hr₀ TB₀ hcode₀ S hi₀ ht₀ hd₀ hs₀ I₀ h fun lo₀ n pz₀ H1₀ g₀ s5₀ hR₀ hG₀ => ?_)
  obtain ⟨⟨i0₀, hi0₀, hp0₀⟩, hq₀⟩ := hR₀
  obtain ⟨fp₀, wr₀, G, F, St₀, W, hst₀, hfp₀, hval₀, hI₀⟩ := hG₀
  refine Calls.spliced_nil ?_
  have hne₀ : 0 < (passing pz₀ n 0).length := List.length_pos_of_mem (mem_passing.mpr ⟨hi0₀, hp0₀⟩)
  obtain ⟨val₀, hvd₀⟩ : ∃ val₀ : Nat → Int, ∀ j, val₀ j = lo₀ + (((passing pz₀ n 0).getD j 0 : Nat) : Int) := ⟨_, fun _ => rfl⟩
  have hv₀ : ∀ j v₀, F j v₀ → ∃ t₀, v₀ = .int (val₀ j) t₀ := fun j v₀ hF₀ => by
    obtain ⟨i, h1, t₀, rfl⟩ := hval₀ j v₀ hF₀
    refine ⟨t₀, ?_⟩
    rw [hvd₀]
    simp [List.getD_eq_getElem?_getD, h1]
  refine call_min_walkS (W.self 0 _ _ _ hst₀ ⟨g₀, fp₀, wr₀, G, _, F, St₀, _, rfl, W, hst₀, hfp₀, hne₀, CmpOf.ints_lt _ hv₀, fun v₀ s' hF₀ hmv₀ => ?_⟩)
  obtain ⟨H2₀, hT₀, J₀⟩ := hI₀ s' hmv₀
  have hb₀ := argBest_lt val₀ ((passing pz₀ n 0).length - 1)
  obtain ⟨t₀, rfl⟩ := hv₀ _ v₀ hF₀
  have hlt₀ : argBest (fun i j => decide (val₀ i < val₀ j)) ((passing pz₀ n 0).length - 1) < (passing pz₀ n 0).length := by omega
  refine ⟨.int _, H2₀, J₀, ⟨_, rfl⟩, ?_⟩
  generalize argBest (fun i j => decide (val₀ i < val₀ j)) ((passing pz₀ n 0).length - 1) = jm₀ at hb₀ hlt₀
  have hm1₀ : (passing pz₀ n 0).getD jm₀ 0 = (passing pz₀ n 0)[jm₀] := by simp [List.getD_eq_getElem?_getD, hlt₀]
  have hmem₀ : (passing pz₀ n 0)[jm₀] ∈ passing pz₀ n 0 := List.getElem_mem hlt₀
  obtain ⟨k1₀, k2₀⟩ := mem_passing.mp hmem₀
  show Q (.int (val₀ jm₀)) H2₀
  rw [hvd₀, hm1₀]
  refine hq₀ _ H2₀ hT₀ k1₀ k2₀ fun j hj hpj => ?_
  obtain ⟨jj₀, hjj₀, ej₀⟩ := List.getElem_of_mem (mem_passing.mpr ⟨hj, hpj⟩)
  have := hb₀.2 jj₀ (by omega)
  have e2₀ : (passing pz₀ n 0).getD jj₀ 0 = j := by simp [List.getD_eq_getElem?_getD, hjj₀, ej₀]
  simp only [hvd₀, hm1₀, e2₀] at this
  omega
end
end V3
namespace V3
open PySem.Spec PySem L2 PyProof.Rows GxR
section
variable {s : Shared} {H : Hp} {σ : L2.St} {pins : List (Addr × Obj)} {X : Cx}
/-- a name of the def that the generator expression captures -/
structure Cap (X : Cx) (scope : Scope) (x : Str) (i : Nat) : Prop where
  N : X.N[i]? = some x
  cell : X.env.scope.names.lookup x = some .cell
  free : scope.names.lookup x = some .free
  look : ∀ cells : List (Str × Addr), (cloFrom cells scope.names []).lookup x = some ((cells.lookup x).getD 0)
  cd : (x == ("__classdict__" : Str)) = false
  db : (x == ("__debug__" : Str)) = false
theorem Cap.at {scope : Scope} {x : Str} {i : Nat} {v : V} (C : Cap X scope x i) (I : Inv X pins σ H s) (hv : σ[i]? = some (some v)) : ∃ (c : Addr) (u : Value), RelV v u ∧ X.env.cells.lookup x = some c ∧ s.heap.IsCell c (some u) := by
  obtain ⟨m, hn, hl⟩ := I.loc
  obtain ⟨u, r, l⟩ := hl i x v C.N hv (.inr (.inl C.cell))
  (rcases l with ⟨hk, hm⟩ | ⟨hk, c, hc, hcell⟩)
  · have e : X.env.scope.names.lookup x = some .local := hk
    rw [C.cell] at e
    cases e
  · exact ⟨c, u, r, hc, hcell⟩
/-- the captured name is read in the generator's frame -/
theorem Cap.eval {scope : Scope} {x : Str} {i : Nat} {pos : Pos} {M : Model} {A' : Around} {E' : Value → Shared → Prop} {cenv : Env} {c : Addr} {u : Value} {s₂ : Shared} {Q : Value → Shared → Prop} (C : Cap X scope x i) (hk : scope.kind = .function) (hs : cenv.scope = scope)
    (hc : cenv.cells = cloFrom X.env.cells scope.names []) (h1 : X.env.cells.lookup x = some c) (h2 : s₂.heap.IsCell c (some u)) (q : Q u s₂) : wpAny M A' (eval (.Name x pos) cenv) Q E' s₂ := by
  refine wpAny_Name (wpAny_loadName_free (by rw [hs]; exact hk) (show cenv.scope.names.lookup x = some .free by rw [hs]; exact C.free) ?_ h2 q C.cd) C.db
  rw [hc, C.look, h1]
  rfl
theorem keep_cell {P c : Addr} {u : Value} {s s₂ : Shared} (hP : ∃ ps : Array Value, s.heap.get? P = some { cls := .none, data := .fields ps }) (k : ∀ b o, b ≠ P → s.heap.get? b = some o → s₂.heap.get? b = some o) (h : s.heap.IsCell c (some u)) : s₂.heap.IsCell c (some u) := by
  obtain ⟨o, ho, hd⟩ := h
  obtain ⟨ps, hP⟩ := hP
  refine ⟨o, k c o (fun e => ?_) ho, hd⟩
  rw [e, hP] at ho
  cases ho
  cases hd
theorem keep_list {P a : Addr} {its : Array Value} {s s₂ : Shared} (hP : ∃ ps : Array Value, s.heap.get? P = some { cls := .none, data := .fields ps }) (k : ∀ b o, b ≠ P → s.heap.get? b = some o → s₂.heap.get? b = some o) (h : PlainL s.heap a its) : PlainL s₂.heap a its := by
  obtain ⟨o, n, ho, hc, hd, hdt⟩ := h
  obtain ⟨ps, hP⟩ := hP
  refine ⟨o, n, k a o (fun e => ?_) ho, hc, hd, hdt⟩
  rw [e, hP] at ho
  cases ho
  cases hdt
theorem vals_int_get {xs : List Int} {its : List Value} {j : Nat} {u : Int} (r : Vals (xs.map V.int) its) (h : xs[j]? = some u) : ∃ t, its.toArray[j]? = some (.int u t) := by
  obtain ⟨w, h1, h2⟩ := r.get (show (xs.map V.int)[j]? = some (.int u) by rw [List.getElem?_map, h]; rfl)
  obtain ⟨t, rfl⟩ := h2
  exact ⟨t, by simpa using h1⟩
/-- a[x] op b[x], a and b lists of ints of the def, x the generator's name -/
def tzXX (K : PySem.W.Frag) (ia ib : Nat) (cmp : Int → Int → Bool) : L2.St → Hp → Int → Nat → (Nat → Bool) → Prop := fun σ H lo n pz =>
  ∃ (pa pb : Addr) (xs ys : List Int), σ[ia]? = some (some (.ref pa)) ∧ σ[ib]? = some (some (.ref pb)) ∧ SqL K H pa (xs.map V.int) ∧ SqL K H pb (ys.map V.int) ∧ 0 ≤ lo ∧ lo + n < 2 ^ 63 ∧
    ∀ i : Nat, i < n → ∃ u v : Int, xs[lo.toNat + i]? = some u ∧ ys[lo.toNat + i]? = some v ∧ pz i = cmp u v
/-- a[x] op b[y], y an int of the def -/
def tzXY (K : PySem.W.Frag) (ia ib iy : Nat) (cmp : Int → Int → Bool) : L2.St → Hp → Int → Nat → (Nat → Bool) → Prop := fun σ H lo n pz =>
  ∃ (pa pb : Addr) (xs ys : List Int) (y v : Int), σ[ia]? = some (some (.ref pa)) ∧ σ[ib]? = some (some (.ref pb)) ∧ σ[iy]? = some (some (.int y)) ∧ SqL K H pa (xs.map V.int) ∧ SqL K H pb (ys.map V.int) ∧ 0 ≤ lo ∧ lo + n < 2 ^ 63 ∧ 0 ≤ y ∧ y < 2 ^ 63 ∧
    ys[y.toNat]? = some v ∧ ∀ i : Nat, i < n → ∃ u : Int, xs[lo.toNat + i]? = some u ∧ pz i = cmp u v
theorem for_one {M : Model} {A' : Around} {E' : Value → Shared → Prop} {c : Expr} {cenv : Env} {Q : Bool → Shared → Prop} {s₂ : Shared} (h : wpAny M A' (isTrue c cenv (eval c cenv)) Q E' s₂) :
    wpAny M A' (forIn [c] true fun c r => if r = true then do let ok ← isTrue c cenv (eval c cenv); pure (ForInStep.yield ok) else pure (ForInStep.yield r)) Q E' s₂ := by
  simp only [List.forIn_cons, List.forIn_nil, if_true, bind_assoc, pure_bind]
  exact wpAny_bind (wpAny_mono h (fun b s3 q => wpAny_pure q) fun _ _ e => e)
theorem test_xx {P : Addr} {scope : Scope} {x na nb : Str} {ia ib : Nat} {op : CmpOp} {cmp : Int → Int → Bool} {p1 p2 p3 p4 q1 q2 q3 : Pos} (hk : scope.kind = .function) (hx : scope.names.lookup x = some .local) (hdx : (x == ("__debug__" : Str)) = false) (Ca : Cap X scope na ia) (Cb : Cap X scope nb ib)
    (hcmp : ∀ (A : Around) (E : Value → Shared → Prop) (s : Shared) (Q : Value → Shared → Prop) (u v : Int) (t t' : Tok), Q (.bool (cmp u v)) s → wpAny (model X.prog X.w) A (compareOp op (.int u t) (.int v t')) Q E s)
    (hm : behindInMarks op (.Subscript (.Name nb p3) (.Name x p4) q2) = false) :
    TestR X P scope x [.Compare (.Subscript (.Name na p1) (.Name x p2) q1) [op] [.Subscript (.Name nb p3) (.Name x p4) q2] q3] (tzXX X.K ia ib cmp) := by
  intro pins s σ H lo n pz I hz hP cenv A' E' i t s₂ m₂ hi hs hc hn hmx hkp
  obtain ⟨pa, pb, xs, ys, ha, hb, hxs, hys, h0, h63, htest⟩ := hz
  obtain ⟨u, v, hu, hv, hpz⟩ := htest i hi
  obtain ⟨ca, ua, ra, ca1, ca2⟩ := Ca.at I ha
  obtain ⟨cb, ub, rb, cb1, cb2⟩ := Cb.at I hb
  cases ra
  cases rb
  obtain ⟨ia', rxs, pxs, _⟩ := I.list hxs
  obtain ⟨ib', rys, pys, _⟩ := I.list hys
  obtain ⟨tu, hu'⟩ := vals_int_get rxs hu
  obtain ⟨tv, hv'⟩ := vals_int_get rys hv
  have e1 : (lo + (i : Nat) * 1).toNat = lo.toNat + i := by omega
  have b1 : 0 ≤ lo + (i : Nat) * 1 := by omega
  have b2 : lo + (i : Nat) * 1 < 2 ^ 63 := by omega
  have ex : ∀ (pos : Pos) (E'' : Value → Shared → Prop) (Q : Value → Shared → Prop), Q (.int (lo + (i : Nat) * 1) t) s₂ → wpAny (model X.prog X.w) A' (eval (.Name x pos) cenv) Q E'' s₂ := fun pos E'' Q q =>
    wpAny_Name (wpAny_loadName_local (by rw [hs]; exact hk) (show cenv.scope.names.lookup x = some .local by rw [hs]; exact hx) hn hmx q) hdx
  refine for_one (wpAny_isTrue_Compare1 ?_ hm)
  refine Subscript_ (Ca.eval hk hs hc ca1 (keep_cell hP hkp ca2) (ex _ _ _ ?_))
  refine item_listR (keep_list hP hkp pxs).isList b1 b2 (by rw [e1]; exact hu') ?_
  refine Subscript_ (Cb.eval hk hs hc cb1 (keep_cell hP hkp cb2) (ex _ _ _ ?_))
  refine item_listR (keep_list hP hkp pys).isList b1 b2 (by rw [e1]; exact hv') ?_
  refine hcmp _ _ _ _ _ _ _ _ (wpAny_truthy_bool ?_)
  exact ⟨hpz.symm, keeps_refl _⟩
theorem test_xy {P : Addr} {scope : Scope} {x na nb ny : Str} {ia ib iy : Nat} {op : CmpOp} {cmp : Int → Int → Bool} {p1 p2 p3 p4 q1 q2 q3 : Pos} (hk : scope.kind = .function) (hx : scope.names.lookup x = some .local) (hdx : (x == ("__debug__" : Str)) = false) (Ca : Cap X scope na ia) (Cb : Cap X scope nb ib) (Cy : Cap X scope ny iy)
    (hcmp : ∀ (A : Around) (E : Value → Shared → Prop) (s : Shared) (Q : Value → Shared → Prop) (u v : Int) (t t' : Tok), Q (.bool (cmp u v)) s → wpAny (model X.prog X.w) A (compareOp op (.int u t) (.int v t')) Q E s)
    (hm : behindInMarks op (.Subscript (.Name nb p3) (.Name ny p4) q2) = false) :
    TestR X P scope x [.Compare (.Subscript (.Name na p1) (.Name x p2) q1) [op] [.Subscript (.Name nb p3) (.Name ny p4) q2] q3] (tzXY X.K ia ib iy cmp) := by
  intro pins s σ H lo n pz I hz hP cenv A' E' i t s₂ m₂ hi hs hc hn hmx hkp
  obtain ⟨pa, pb, xs, ys, y, v, ha, hb, hy, hxs, hys, h0, h63, y0, y63, hv, htest⟩ := hz
  obtain ⟨u, hu, hpz⟩ := htest i hi
  obtain ⟨ca, ua, ra, ca1, ca2⟩ := Ca.at I ha
  obtain ⟨cb, ub, rb, cb1, cb2⟩ := Cb.at I hb
  obtain ⟨cy, uy, ry, cy1, cy2⟩ := Cy.at I hy
  cases ra
  cases rb
  obtain ⟨ty, rfl⟩ := ry
  obtain ⟨ia', rxs, pxs, _⟩ := I.list hxs
  obtain ⟨ib', rys, pys, _⟩ := I.list hys
  obtain ⟨tu, hu'⟩ := vals_int_get rxs hu
  obtain ⟨tv, hv'⟩ := vals_int_get rys hv
  have e1 : (lo + (i : Nat) * 1).toNat = lo.toNat + i := by omega
  have b1 : 0 ≤ lo + (i : Nat) * 1 := by omega
  have b2 : lo + (i : Nat) * 1 < 2 ^ 63 := by omega
  have ex : ∀ (pos : Pos) (E'' : Value → Shared → Prop) (Q : Value → Shared → Prop), Q (.int (lo + (i : Nat) * 1) t) s₂ → wpAny (model X.prog X.w) A' (eval (.Name x pos) cenv) Q E'' s₂ := fun pos E'' Q q =>
    wpAny_Name (wpAny_loadName_local (by rw [hs]; exact hk) (show cenv.scope.names.lookup x = some .local by rw [hs]; exact hx) hn hmx q) hdx
  refine for_one (wpAny_isTrue_Compare1 ?_ hm)
  refine Subscript_ (Ca.eval hk hs hc ca1 (keep_cell hP hkp ca2) (ex _ _ _ ?_))
  refine item_listR (keep_list hP hkp pxs).isList b1 b2 (by rw [e1]; exact hu') ?_
  refine Subscript_ (Cb.eval hk hs hc cb1 (keep_cell hP hkp cb2) (Cy.eval hk hs hc cy1 (keep_cell hP hkp cy2) ?_))
  refine item_listR (keep_list hP hkp pys).isList y0 y63 hv' ?_
  refine hcmp _ _ _ _ _ _ _ _ (wpAny_truthy_bool ?_)
  exact ⟨hpz.symm, keeps_refl _⟩
end
end V3
namespace V3
open PySem.Spec PySem L2 PyProof.Rows GxR
/-! ### data without lists lasts while lists change -/
structure KeepT (H H' : Hp) : Prop where
  tup : ∀ b xs, H b = some (.tup xs) → H' b = some (.tup xs)
  frz : ∀ b o u, H b = some (.frz o u) → H' b = some (.frz o u)
theorem KeepT.refl (H : Hp) : KeepT H H := ⟨fun _ _ h => h, fun _ _ _ h => h⟩
theorem KeepT.trans {H H1 H2 : Hp} (a : KeepT H H1) (b : KeepT H1 H2) : KeepT H H2 := ⟨fun c xs h => b.tup c xs (a.tup c xs h), fun c o u h => b.frz c o u (a.frz c o u h)⟩
theorem Same.kt {H H' : Hp} (e : Same H H') : KeepT H H' := ⟨fun _ _ h => e _ _ h, fun _ _ _ h => e _ _ h⟩
theorem kt_lst {H : Hp} {a : Addr} {xs : List V} {o : HO} (h : H a = some (.lst xs)) : KeepT H (upd H a o) :=
  ⟨fun b ys e => by rw [upd_ne (fun z => by rw [z, h] at e; cases e)]; exact e, fun b o' u e => by rw [upd_ne (fun z => by rw [z, h] at e; cases e)]; exact e⟩
theorem kt_new {H : Hp} {p : Addr} {o : HO} (h : H p = none) : KeepT H (upd H p o) := Same.kt (same_upd h)
theorem kt_tab {P : Addr} {H H' : Hp} (h : Tabbed P H H') (hP : TabG H P) : KeepT H H' := by
  obtain ⟨ps, hp, _⟩ := hP
  refine ⟨fun b xs e => ?_, fun b o u e => ?_⟩
  · rw [h.2 b (fun z => by rw [z, hp] at e; cases e)]
    exact e
  · rw [h.2 b (fun z => by rw [z, hp] at e; cases e)]
    exact e
theorem KeepT.sqT {K : PySem.W.Frag} {H H' : Hp} {a : Addr} {xs : List V} (e : KeepT H H') (h : SqT K H a xs) : SqT K H' a xs := by
  (rcases h with (h | ⟨o, h⟩) | h)
  · exact .inl (.inl (e.tup _ _ h))
  · exact .inl (.inr ⟨o, e.frz _ _ _ h⟩)
  · exact .inr h
mutual
inductive DpT (K : PySem.W.Frag) (H : Hp) : V → PyData → Prop
  | non : DpT K H .non .none
  | bl (b : Bool) : DpT K H (.bl b) (.bool b)
  | int (i : Int) : DpT K H (.int i) (.int i)
  | str (x : Str) : DpT K H (.str x) (.str x)
  | tup {a : Addr} {xs : List V} {ds : List PyData} : SqT K H a xs → DpTAll K H xs ds → DpT K H (.ref a) (.tuple ds)
inductive DpTAll (K : PySem.W.Frag) (H : Hp) : List V → List PyData → Prop
  | nil : DpTAll K H [] []
  | cons {v : V} {vs : List V} {d : PyData} {ds : List PyData} : DpT K H v d → DpTAll K H vs ds → DpTAll K H (v :: vs) (d :: ds)
end
mutual
theorem DpT.keep {K : PySem.W.Frag} {H H' : Hp} (e : KeepT H H') : ∀ {v : V} {d : PyData}, DpT K H v d → DpT K H' v d
  | _, _, .non => .non
  | _, _, .bl b => .bl b
  | _, _, .int i => .int i
  | _, _, .str x => .str x
  | _, _, .tup h a => .tup (e.sqT h) (DpTAll.keep e a)
theorem DpTAll.keep {K : PySem.W.Frag} {H H' : Hp} (e : KeepT H H') : ∀ {vs : List V} {ds : List PyData}, DpTAll K H vs ds → DpTAll K H' vs ds
  | _, _, .nil => .nil
  | _, _, .cons a b => .cons (DpT.keep e a) (DpTAll.keep e b)
end
mutual
theorem DpT.dp {K : PySem.W.Frag} {H : Hp} : ∀ {v : V} {d : PyData}, DpT K H v d → Dp K H v d
  | _, _, .non => .non
  | _, _, .bl b => .bl b
  | _, _, .int i => .int i
  | _, _, .str x => .str x
  | _, _, .tup h a => .tup h (DpTAll.dp a)
theorem DpTAll.dp {K : PySem.W.Frag} {H : Hp} : ∀ {vs : List V} {ds : List PyData}, DpTAll K H vs ds → DpAll K H vs ds
  | _, _, .nil => .nil
  | _, _, .cons a b => .cons (DpT.dp a) (DpTAll.dp b)
end
section
variable {K : PySem.W.Frag} {H : Hp}
theorem dtTup {v : V} {ds : List PyData} (h : DpT K H v (.tuple ds)) : ∃ p xs, v = .ref p ∧ SqT K H p xs ∧ DpTAll K H xs ds := by
  cases h with
  | tup a b => exact ⟨_, _, rfl, a, b⟩
theorem dtAll_app {vs ws : List V} {ds es : List PyData} (h : DpTAll K H vs ds) (g : DpTAll K H ws es) : DpTAll K H (vs ++ ws) (ds ++ es) := by
  induction ds generalizing vs with
  | nil =>
    cases h
    exact g
  | cons x ds ih =>
    cases h with
    | cons a b => exact .cons a (ih b)
theorem dtAll_len {vs : List V} {ds : List PyData} (h : DpTAll K H vs ds) : vs.length = ds.length := dpAll_len h.dp
theorem dtAll_getV {vs : List V} {ds : List PyData} {i : Nat} {v : V} (h : DpTAll K H vs ds) (e : vs[i]? = some v) : ∃ d, ds[i]? = some d ∧ DpT K H v d := by
  induction ds generalizing vs i with
  | nil =>
    cases h
    simp at e
  | cons x ds ih =>
    cases h with
    | cons a b =>
      cases i with
      | zero =>
        have q := Option.some.inj e
        subst q
        exact ⟨_, rfl, a⟩
      | succ i =>
        have q := ih (i := i) b
        exact q e
theorem dtAll_get {vs : List V} {ds : List PyData} {i : Nat} {d : PyData} (h : DpTAll K H vs ds) (e : ds[i]? = some d) : ∃ v, vs[i]? = some v ∧ DpT K H v d := by
  induction ds generalizing vs i with
  | nil => simp at e
  | cons x ds ih =>
    cases h with
    | cons a b =>
      cases i with
      | zero =>
        have q : x = d := Option.some.inj e
        subst q
        exact ⟨_, rfl, a⟩
      | succ i =>
        have q := ih (i := i) b
        exact q e
theorem dtFr {v : V} {q : Int × Int} (h : DpT K H v (frD q)) : ∃ p, v = .ref p ∧ SqT K H p [.int q.1, .int q.2] := dpFr h.dp
theorem tFr {v : V} {q : Int × Int} (h : Dp K H v (frD q)) : DpT K H v (frD q) := by
  obtain ⟨p, rfl, hs⟩ := dpFr h
  exact .tup hs (.cons (.int _) (.cons (.int _) .nil))
theorem tFrU {p : Addr} {q : Int × Int} (h : H p = some (.tup [.int q.1, .int q.2])) : DpT K H (.ref p) (frD q) := .tup (SqT.of h) (.cons (.int q.1) (.cons (.int q.2) .nil))
theorem tFrs : ∀ {vs : List V} {qs : List (Int × Int)}, DpAll K H vs (qs.map frD) → DpTAll K H vs (qs.map frD)
  | _, [], h => by
    cases h
    exact .nil
  | _, q :: r, h => by
    cases h with
    | cons a b => exact .cons (tFr a) (tFrs b)
theorem tRow {v : V} {qs : List (Int × Int)} (h : Dp K H v (rowD qs)) : DpT K H v (rowD qs) := by
  obtain ⟨p, xs, rfl, hs, ha⟩ := dpTup h
  exact .tup hs (tFrs ha)
end

/-! ### lists of ints: !=, o[i] op= e -/
theorem shaped_ints (ns : List Int) : SeqAt.shaped (.list (ns.map PyData.int)) = true := by
  have h1 : ∀ ns : List Int, PyData.canLayAll0 (ns.map PyData.int) = true := fun ns => by
    induction ns with
    | nil => rfl
    | cons a r ih => simp only [List.map_cons, PyData.canLayAll0, PyData.canLay0, ih, Bool.and_self]
  have h2 : ∀ ns : List Int, PyData.depthAll (ns.map PyData.int) = 0 := fun ns => by
    induction ns with
    | nil => rfl
    | cons a r ih => simp only [List.map_cons, PyData.depthAll, PyData.depth, ih, Nat.max_self]
  unfold SeqAt.shaped
  simp only [PyData.canLay0, PyData.depth, h1, h2, Bool.true_and, decide_eq_true_eq]
  omega
theorem eqv_ints (a b : List Int) : PyData.eqv (.list (a.map PyData.int)) (.list (b.map PyData.int)) = decide (a = b) := by
  rw [PyData.eqv]
  exact PySem.W.ked_eqvAll a b
theorem pget_list {X : Cx} : PGet X (rIxL X.K) := by
  intro pins₀ s σ₀ H o i ov₀ iv₀ Q I ro₀ ri₀ h
  obtain ⟨p, xs, k, z, rfl, rfl, hq₀, he₀, q⟩ := h
  cases ro₀
  obtain ⟨t₀, rfl⟩ := ri₀
  obtain ⟨its₀, r₀, pl₀, hz₀⟩ := I.list hq₀
  obtain ⟨j₀, h1₀, h2₀, h3₀, h4₀, h5₀⟩ := atI_get he₀
  obtain ⟨w₀, ew₀, rw₀'⟩ := r₀.get h2₀
  have hl₀ := r₀.length
  have hn₀ := line63
  have fin₀ : EP X pins₀ σ₀ Q w₀ s := ⟨z, H, I, rw₀', q⟩
  by_cases h0₀ : 0 ≤ k
  · have hj₀ : k.toNat = j₀ := by
      rw [seqIndex_of h0₀ h5₀] at h1₀
      exact Option.some.inj h1₀
    exact wpAny_getItem_list pl₀.isList h0₀ (by omega) (by rw [hj₀]; simpa using ew₀) fin₀
  · have hj₀ : (k + (its₀.toArray.size : Int)).toNat = j₀ := by
      rw [seqIndex_neg (by omega) h4₀] at h1₀
      rw [List.size_toArray, ← hl₀]
      exact Option.some.inj h1₀
    exact wpAny_getItem_list_neg pl₀.isList (by omega) (by rw [List.size_toArray] <;> omega) (by omega) (by rw [hj₀]; simpa using ew₀) fin₀

/-! ### a def that holds a generator expression -/
structure AtC (K : PySem.W.Frag) (mg : Str → Option Value) (x : Str) (st : Stmt) (c : Addr) : Prop where
  ex : ∃ (f : Addr) (oc : Value) (od : Option Addr) (kV doc pm : Value) (an : Option Addr) (ct : Value) (osl : Array (Option Value)), mg x = some (.ref f) ∧
    K.lookup f = some ⟨oc, od, .func (PySem.W.fnOf x x (defArgs st) (defBody st) (defScope st) .none kV doc pm an (.ref c) ct), osl⟩ ∧ PySem.W.codeIn K (.ref c) x = true ∧ PySem.W.keepIn K (.ref f) = true
section
variable {mg : Str → Option Value} {base : Heap} {K : PySem.W.Frag} {P : Program} {w : World}
theorem Df.mkC {x : Str} {st : Stmt} {c : Addr} {N ps : List Str} {k : Nat} {sp : Sp} (F : AtC K mg x st c) (S : FnScope N ps (defScope st)) (len : ∀ vs H Q E, sp vs H Q E → vs.length = ps.length)
    (hb : ∀ (kV doc pm : Value) (an : Option Addr) (cdv ct : Value) (us : List Value), us.length = ps.length → bindArgs (PySem.W.fnOf x x (defArgs st) (defBody st) (defScope st) .none kV doc pm an cdv ct) ⟨us, []⟩ = pure (ps.zip us))
    (hbody : ∀ (f : Addr) (A : Around) (outer : List Env) (s : Shared) (H : Hp) (vs : List V) (Q : VK) (E : XK), Room k (A.deeper (envOfC x (defScope st) s.heap.objs.size f (.ref c))) → sp vs H Q E →
      ∃ t, PSs (cxOf CX0 P w K mg base N x (defScope st) f (.ref c) A outer s H E).nox (defBody st) t ∧ t { nx := fun _ H' => Q .non H', rt := Q } (start N vs) H) : Df P w K mg base x (k + 1) ps sp := by
  obtain ⟨f, oc, od, kV, doc, pm, an, ct, osl, g, lk, hcd, hk⟩ := F.ex
  refine ⟨f, _, g, hk, .all (hb kV doc pm an (.ref c) ct), fn_of lk hcd S len fun A outer s H vs Q E hr hsp => ?_, oc, od, osl, lk⟩
  obtain ⟨t, h, q⟩ := hbody f A outer s H vs Q E hr hsp
  exact ⟨t, h.nox, q⟩
end
/-- all but the table at P stands -/
def But (P : Addr) (H H' : Hp) : Prop := ∀ b o, b ≠ P → H b = some o → H' b = some o
theorem But.trans {P : Addr} {H H1 H2 : Hp} (a : But P H H1) (b : But P H1 H2) : But P H H2 := fun c o n h => b c o n (a c o n h)
theorem But.refl (P : Addr) (H : Hp) : But P H H := fun _ _ _ h => h
theorem Same.but {P : Addr} {H H' : Hp} (e : Same H H') : But P H H' := fun b o _ h => e b o h
theorem tab_but {P : Addr} {H H' : Hp} (h : Tabbed P H H') : But P H H' := fun b o n e => by rw [h.2 b n]; exact e
theorem But.kt {P : Addr} {H H' : Hp} (h : But P H H') (hP : TabG H P) : KeepT H H' := by
  obtain ⟨ps, hp, _⟩ := hP
  exact ⟨fun b xs e => h b _ (fun z => by rw [z, hp] at e; cases e) e, fun b o u e => h b _ (fun z => by rw [z, hp] at e; cases e) e⟩
theorem But.seq {P : Addr} {K : PySem.W.Frag} {H H' : Hp} {a : Addr} {xs : List V} (e : But P H H') (hP : TabG H P) (h : SqL K H a xs) : SqL K H' a xs := by
  obtain ⟨ps, hp, _⟩ := hP
  (rcases h with (h | ⟨o, h⟩) | h)
  · exact .inl (.inl (e _ _ (fun z => by rw [z, hp] at h; cases h) h))
  · exact .inl (.inr ⟨o, e _ _ (fun z => by rw [z, hp] at h; cases h) h⟩)
  · exact .inr h
theorem TabG.same {P : Addr} {H H' : Hp} (h : TabG H P) (e : Same H H') : TabG H' P := by
  obtain ⟨ps, hp, t⟩ := h
  exact ⟨ps, e _ _ hp, t⟩
theorem TabG.lst {P a : Addr} {H : Hp} {xs : List V} {o : HO} (h : TabG H P) (e : H a = some (.lst xs)) : TabG (upd H a o) P := by
  obtain ⟨ps, hp, t⟩ := h
  exact ⟨ps, by rw [upd_ne (fun z => by rw [z, e] at hp; cases hp)]; exact hp, t⟩
end V3
/-! A generator expression whose tests and element may call defs: its frame and the bareness of the other generators are known. -/
namespace V3
open PySem.Spec PySem L2 PyProof.Rows GxR
section
variable {w : World} {prog : Program} {A : Around}
abbrev testsOf (ifs : List Expr) (ce : Env) : Sem Bool := forIn ifs true fun c r => if r = true then do let ok ← isTrue c ce (eval c ce); pure (ForInStep.yield ok) else pure (ForInStep.yield r)
/-- what stood is kept, of the frames fs all but the slots -/
def KM (fs : List Addr) (h h' : Heap) : Prop := ∀ b o, h.get? b = some o → (b ∉ fs → h'.get? b = some o) ∧ ∃ sl, h'.get? b = some { o with slots := sl }
theorem KM.trans {fs : List Addr} {h h1 h2 : Heap} (p : KM fs h h1) (q : KM fs h1 h2) : KM fs h h2 := fun b o it => by
  obtain ⟨p1, sl, p2⟩ := p b o it
  obtain ⟨_, sl2, q2⟩ := q b _ p2
  exact ⟨fun nf => (q b o (p1 nf)).1 nf, sl2, q2⟩
theorem KM.exact {fs : List Addr} {h h1 : Heap} (k : ∀ b o, h.get? b = some o → h1.get? b = some o) : KM fs h h1 := fun b o it => ⟨fun _ => k b o it, o.slots, k b o it⟩
theorem KM.ns {fs : List Addr} {h h1 : Heap} {C : Addr} {mp : Str → Option Value} (k : KM fs h h1) (n : h.Ns C mp) : h1.Ns C mp := by
  obtain ⟨o, es, ep, at_, dat, more⟩ := n
  obtain ⟨_, sl, q⟩ := k C o at_
  exact ⟨_, es, ep, q, dat, more⟩
/-- .. and other generators may be new -/
structure KeptG (fs : List Addr) (t t' : Shared) : Prop where
  os : t'.os = t.os
  bare : AllBare t'.gens
  heap : KM fs t.heap t'.heap
/-- .. but for the generator's own frame and what its iterator writes -/
structure SinceG (C : Addr) (wr fs : List Addr) (t t' : Shared) : Prop where
  os : t'.os = t.os
  bare : AllBare t'.gens
  size : t.gens.size ≤ t'.gens.size
  heap : ∀ b o, b ≠ C → b ∉ wr → t.heap.get? b = some o → (b ∉ fs → t'.heap.get? b = some o) ∧ ∃ sl, t'.heap.get? b = some { o with slots := sl }
theorem SinceG.refl {C : Addr} {wr fs : List Addr} {t : Shared} (b : AllBare t.gens) : SinceG C wr fs t t := ⟨rfl, b, Nat.le_refl _, fun _ o _ _ it => ⟨fun _ => it, o.slots, it⟩⟩
theorem SinceG.step {C : Addr} {wr fs : List Addr} {t t' : Shared} {hp : Heap} {tk : Nat} (h : SinceG C wr fs t t') (k : ∀ b o, b ≠ C → b ∉ wr → t'.heap.get? b = some o → hp.get? b = some o) : SinceG C wr fs t { t' with heap := hp, toks := tk } :=
  ⟨h.os, h.bare, h.size, fun b o nc nw it => by
    obtain ⟨p1, sl, p2⟩ := h.heap b o nc nw it
    exact ⟨fun nf => k b o nc nw (p1 nf), sl, k b _ nc nw p2⟩⟩
theorem SinceG.more {C : Addr} {wr fs : List Addr} {t t1 t2 : Shared} (h : SinceG C wr fs t t1) (z : t1.gens.size ≤ t2.gens.size) (k : KeptG fs t1 t2) : SinceG C wr fs t t2 :=
  ⟨k.os.trans h.os, k.bare, Nat.le_trans h.size z, fun b o nc nw it => by
    obtain ⟨p1, sl, p2⟩ := h.heap b o nc nw it
    obtain ⟨_, sl2, q2⟩ := k.heap b _ p2
    exact ⟨fun nf => (k.heap b o (p1 nf)).1 nf, sl2, q2⟩⟩
/-- what was there when the generator was made -/
def KeptO (old wr fs : List Addr) (ref h : Heap) : Prop := ∀ b ∈ old, b ∉ wr → ∀ o, ref.get? b = some o → (b ∉ fs → h.get? b = some o) ∧ ∃ sl, h.get? b = some { o with slots := sl }
theorem KeptO.exact {old wr fs : List Addr} {ref h h1 : Heap} (p : KeptO old wr fs ref h) (k : ∀ b ∈ old, b ∉ wr → ∀ o, h.get? b = some o → h1.get? b = some o) : KeptO old wr fs ref h1 := fun b hb nw o it => by
  obtain ⟨p1, sl, p2⟩ := p b hb nw o it
  exact ⟨fun nf => k b hb nw o (p1 nf), sl, k b hb nw _ p2⟩
theorem KeptO.km {old wr fs : List Addr} {ref h h1 : Heap} (p : KeptO old wr fs ref h) (k : KM fs h h1) : KeptO old wr fs ref h1 := fun b hb nw o it => by
  obtain ⟨p1, sl, p2⟩ := p b hb nw o it
  obtain ⟨_, sl2, q2⟩ := k b _ p2
  exact ⟨fun nf => (k b o (p1 nf)).1 nf, sl2, q2⟩
/-- what is asked of the tests and of the element at each thing that is walked -/
structure QuietF (prog : Program) (w : World) (ce : Env) (x : Str) (ifs : List Expr) (elt : Expr) (old wr fs : List Addr) (Dr : Nat → Value → Prop) (pz : Nat → Bool) (F : Nat → Value → Prop) (ref : Heap) (fr : Option (List Env)) (D U : Nat) : Prop where
  tests : ∀ (B : Around) Ex i v (t : Shared) mp, B.handled = none → B.frames = fr → B.depth ≤ D → B.units ≤ U → AllBare t.gens → Dr i v → t.heap.Ns ce.locals mp → mp x = some v → KeptO old wr fs ref t.heap →
    wpAny (model prog w) B (testsOf ifs ce) (fun ok t' => ok = pz i ∧ KeptG fs t t') Ex t
  elt : ∀ (B : Around) Ex i v (t : Shared) mp, B.handled = none → B.frames = fr → B.depth ≤ D → B.units ≤ U → AllBare t.gens → Dr i v → pz i = true → t.heap.Ns ce.locals mp → mp x = some v → KeptO old wr fs ref t.heap →
    wpAny (model prog w) B (eval elt ce) (fun y t' => F i y ∧ KeptG fs t t') Ex t
/-- what the walker may count on from one thing to the next -/
def protoB (C : Addr) (fp old wr fs : List Addr) (pz : Nat → Bool) (n : Nat) (F : Nat → Value → Prop) : Protocol := fun left t0 v t go =>
  (∃ i, (passing pz n 0)[(passing pz n 0).length - 1 - left]? = some i ∧ F i v) ∧ SinceG C wr fs t0 t ∧
    ∀ u : Shared, (∀ b ∈ C :: (fp ++ old), ∀ o, t.heap.get? b = some o → u.heap.get? b = some o) → AllBare u.gens → go (.send .none) u
abbrev endB (C : Addr) (wr fs : List Addr) : GenEnd := fun n t0 r t1 => r = .ok .next ∧ (n = 0 ∧ SinceG C wr fs t0 t1)
abbrev loopC (elt : Expr) (x : Str) (px : Pos) (iter : Expr) (ifs : List Expr) (scope : Scope) (pos : Pos) (I : Addr) (ce : Env) : Code := .compLoop (.GeneratorExp elt [⟨.Name x px, iter, ifs, 0⟩] scope pos) 0 (.ref I) .none ce
abbrev startC (elt : Expr) (x : Str) (px : Pos) (iter : Expr) (ifs : List Expr) (scope : Scope) (pos : Pos) (I : Addr) (ce : Env) : Code := .compStart (.GeneratorExp elt [⟨.Name x px, iter, ifs, 0⟩] scope pos) 0 (.ref I) .none ce
theorem seg_loopF {elt iter : Expr} {x : Str} {px : Pos} {ifs : List Expr} {scope : Scope} {pos : Pos} {I : Addr} {fp old wr fs : List Addr} {n : Nat} {Dr : Nat → Value → Prop} {St : Nat → Heap → Prop} {ce : Env} {fr : Option (List Env)}
    (quiet0 : A.handled = none) (frA : (A.over (loopC elt x px iter ifs scope pos I ce) []).frames = fr) (Wk : ∀ B : Around, B.handled = none → Walks prog w B I fp wr n Dr St) (pz : Nat → Bool) (F : Nat → Value → Prop) (ref : Heap)
    (kx : ce.kindOf x = some .local) (plain : (ce.scope.kind == .class || (ce.scope.kind == .module && ce.locals != ce.globals)) = false)
    (noco : ce.scope.isCoroutine = false) (apart : ce.locals ∉ fp) (apartO : ce.locals ∉ old) (sepF : ∀ b ∈ fp, b ∉ fs) (hQ : QuietF prog w ce x ifs elt old wr fs Dr pz F ref fr (A.depth + 1) (A.units + 3)) :
    ∀ (k i : Nat) (t0 t : Shared) (mp : Str → Option Value), n - i = k → i ≤ n → St i t.heap → t.heap.Ns ce.locals mp → SinceG ce.locals wr fs t0 t →
      KeptO old wr fs ref t.heap →
      Seg (model prog w) A (endB ce.locals wr fs) (protoB ce.locals fp old wr fs pz n F) (passing pz n i).length t0 (loopC elt x px iter ifs scope pos I ce) ((model prog w).den (loopC elt x px iter ifs scope pos I ce)) [] t := by
  have q0 : (A.over (loopC elt x px iter ifs scope pos I ce) []).handled = none := quiet0
  have qd : (A.over (loopC elt x px iter ifs scope pos I ce) []).depth ≤ A.depth + 1 := Nat.le_of_eq rfl
  have qu : (A.over (loopC elt x px iter ifs scope pos I ce) []).units ≤ A.units + 3 := Nat.le_of_eq rfl
  have offW : ce.locals ∉ wr := fun z => apart ((Wk A quiet0).sub _ z)
  intro k
  induction k with
  | zero =>
    intro i t0 t mp ek il st ns since kept
    obtain rfl : i = n := by omega
    show Seg _ A _ _ _ t0 _ ((compTurn (.GeneratorExp elt [⟨.Name x px, iter, ifs, 0⟩] scope pos) 0 (.ref I) .none ce).onRaise (leaving ce)) [] t
    (rw [compTurn_gen, Sem.onRaise_eq_wrap])
    (refine seg_bind_wrap (wpAny_standAt ?_))
    refine seg_bind_wrap ((Wk _ q0).done t _ _ st fun hp tk stay => ?_)
    exact seg_end (.ok .next) ⟨rfl, by rw [passing_end]; rfl, since.step fun b o _ nw it => stay b o nw it⟩
  | succ k again =>
    intro i t0 t mp ek il st ns since kept
    have more : i < n := by omega
    show Seg _ A _ _ _ t0 _ ((compTurn (.GeneratorExp elt [⟨.Name x px, iter, ifs, 0⟩] scope pos) 0 (.ref I) .none ce).onRaise (leaving ce)) [] t
    (rw [compTurn_gen, Sem.onRaise_eq_wrap])
    (refine seg_bind_wrap (wpAny_standAt ?_))
    refine seg_bind_wrap ((Wk _ q0).item i t _ _ more st fun v ha ta drawn sta ka => ?_)
    (refine seg_bind_wrap (wpAny_of_eq (rfl : letOwnedTupleGo (.Name x px) (.ref I) v = pure ()) ?_))
    refine seg_bind_wrap (wpAny_assign_Name (wpAny_storeName_local kx (ns.at' fun o it => ka _ o offW it) (fun hb nsb sb => ?_) plain))
    have stayB : ∀ b o, b ≠ ce.locals → b ∉ wr → t.heap.get? b = some o → hb.get? b = some o := fun b o nc nw it => sb.extBut b o nc (ka b o nw it)
    have stb : St (i + 1) hb := (Wk A quiet0).frame _ _ _ sta fun b hm o it => sb.extBut b o (fun z => apart (z ▸ hm)) it
    have keptB : KeptO old wr fs ref hb := kept.exact fun b hm nw o it => stayB b o (fun z => apartO (z ▸ hm)) nw it
    have bareT : AllBare t.gens := since.bare
    refine seg_bind_wrap (GenW.wpAny_gsz (n := t.gens.size) (Nat.le_refl _) (wpAny_mono (hQ.tests _ _ i v _ _ q0 frA qd qu bareT drawn nsb (by simp) keptB) (fun ok tc kc szc => ?_) fun _ _ z => z))
    obtain ⟨rfl, kc⟩ := kc
    have stc : St (i + 1) tc.heap := (Wk A quiet0).frame _ _ _ stb fun b hm o it => (kc.heap b o it).1 (sepF b hm)
    have nsc := kc.heap.ns nsb
    have sinceC : SinceG ce.locals wr fs t0 tc := (since.step stayB).more szc kc
    cases ep : pz i with
    | false =>
      rw [passing_false more ep]
      (simp only [Bool.false_eq_true, if_false])
      exact seg_again rfl (again (i + 1) t0 _ _ (by omega) more stc nsc sinceC (keptB.km kc.heap))
    | true =>
      rw [passing_true more ep, List.length_cons]
      simp only [if_true]
      have out : ∀ v, yieldOut ce v = yieldValue v := fun v => by simp only [yieldOut, noco, Bool.false_eq_true, if_false]
      simp only [out]
      (rw [Sem.bind_eq_wrap', Sem.bind_eq_wrap', Sem.wrap_wrap, Sem.wrap_wrap])
      refine seg_wrap (GenW.wpAny_gsz (n := tc.gens.size) (Nat.le_refl _) (wpAny_mono (hQ.elt _ _ i v _ _ q0 frA qd qu sinceC.bare drawn ep nsc (by simp) (keptB.km kc.heap)) (fun y td hd szd => ?_) fun _ _ z => z))
      obtain ⟨fy, kd⟩ := hd
      refine seg_at (seg_yield rfl rfl rfl ⟨⟨i, passing_here more ep, fy⟩, sinceC.more szd kd, fun u hal bu => ?_⟩)
      refine seg_again rfl (again (i + 1) u u _ (by omega) more ((Wk A quiet0).frame _ _ _ stc fun b hm o it => hal b (List.mem_cons_of_mem _ (List.mem_append_left _ hm)) o ((kd.heap b o it).1 (sepF b hm)))
        ((kd.heap.ns nsc).at' fun o it => hal _ (List.mem_cons_self ..) o it) (SinceG.refl bu) (((keptB.km kc.heap).km kd.heap).exact fun b hm _ o it => hal b (List.mem_cons_of_mem _ (List.mem_append_right _ hm)) o it))
theorem seg_startF {elt iter : Expr} {x : Str} {px : Pos} {ifs : List Expr} {scope : Scope} {pos : Pos} {I : Addr} {fp old wr fs : List Addr} {n : Nat} {Dr : Nat → Value → Prop} {St : Nat → Heap → Prop} {ce : Env} {fr : Option (List Env)}
    (quiet0 : A.handled = none) (frA : (A.over (loopC elt x px iter ifs scope pos I ce) []).frames = fr) (Wk : ∀ B : Around, B.handled = none → Walks prog w B I fp wr n Dr St) (pz : Nat → Bool) (F : Nat → Value → Prop) (ref : Heap)
    (kx : ce.kindOf x = some .local) (plain : (ce.scope.kind == .class || (ce.scope.kind == .module && ce.locals != ce.globals)) = false)
    (noco : ce.scope.isCoroutine = false) (apart : ce.locals ∉ fp) (apartO : ce.locals ∉ old) (sepF : ∀ b ∈ fp, b ∉ fs) (hQ : QuietF prog w ce x ifs elt old wr fs Dr pz F ref fr (A.depth + 1) (A.units + 3))
    (t0 t : Shared) (mp : Str → Option Value) (st : St 0 t.heap) (ns : t.heap.Ns ce.locals mp) (since : SinceG ce.locals wr fs t0 t) (kept : KeptO old wr fs ref t.heap) :
    Seg (model prog w) A (endB ce.locals wr fs) (protoB ce.locals fp old wr fs pz n F) (passing pz n 0).length t0 (startC elt x px iter ifs scope pos I ce) ((model prog w).den (startC elt x px iter ifs scope pos I ce)) [] t := by
  have q0 : (A.over (startC elt x px iter ifs scope pos I ce) []).handled = none := quiet0
  have lp := seg_loopF (iter := iter) (px := px) (scope := scope) (pos := pos) quiet0 frA Wk pz F ref kx plain noco apart apartO sepF hQ n 0 t0 t mp (Nat.sub_zero _) (Nat.zero_le _) st ns since kept
  show Seg _ A _ _ _ t0 _ ((compStart (.GeneratorExp elt [⟨.Name x px, iter, ifs, 0⟩] scope pos) 0 (.ref I) .none ce).onRaise (leaving ce)) [] t
  unfold compStart
  rw [Sem.onRaise_eq_wrap]
  show Seg _ A _ _ _ t0 _ ((ask >>= _).wrap _ _ _ _) [] t
  (refine seg_bind_wrap (wpAny_askSetting ?_))
  split
  · exact seg_again rfl lp
  · first
      | exact seg_bind_wrap (wpAny_rule (seg_bind_wrap (wpAny_standAt (seg_bind_wrap ((Wk _ q0).self 0 t _ _ st (seg_again rfl lp))))))
      | (refine seg_bind_wrap (wpAny_rule ?_)
         show Seg _ A _ _ _ t0 _ ((standAt iter.pos >>= _).wrap _ _ _ _) [] t
         exact seg_bind_wrap (wpAny_standAt (seg_bind_wrap ((Wk _ q0).self 0 t _ _ st (seg_again rfl lp)))))
end
end V3
namespace V3
open PySem.Spec PySem L2 PyProof.Rows GxR
theorem bare_set {t : Shared} {g : Nat} {gs : GenState} (b : AllBare t.gens) (hg : gs.bare = true) : AllBare (t.setGen g gs).gens := fun y hy => by
  rcases Array.mem_or_eq_of_mem_setIfInBounds hy with z | z
  · exact b y z
  · rw [z]
    exact hg
theorem set_size (t : Shared) (g : Nat) (gs : GenState) : (t.setGen g gs).gens.size = t.gens.size := by simp [Shared.setGen]
theorem set_at {t : Shared} {g : Nat} {gs : GenState} (h : g < t.gens.size) : (t.setGen g gs).gens[g]? = some gs := by
  simp [Shared.setGen, h]
/-- what a walk leaves: all but wr stands, of the frames fs all but the slots; the generators stay bare -/
structure MovedV (wr fs : List Addr) (t t' : Shared) : Prop where
  os : t'.os = t.os
  bare : AllBare t'.gens
  heap : ∀ b o, b ∉ wr → t.heap.get? b = some o → (b ∉ fs → t'.heap.get? b = some o) ∧ ∃ sl, t'.heap.get? b = some { o with slots := sl }
theorem MovedV.trans {wr fs : List Addr} {t t1 t2 : Shared} (p : MovedV wr fs t t1) (q : MovedV wr fs t1 t2) : MovedV wr fs t t2 := ⟨q.os.trans p.os, q.bare, fun b o n it => by
  obtain ⟨p1, sl, p2⟩ := p.heap b o n it
  obtain ⟨_, sl2, q2⟩ := q.heap b _ n p2
  exact ⟨fun nf => (q.heap b o n (p1 nf)).1 nf, sl2, q2⟩⟩
structure WalksV (prog : Program) (w : World) (A : Around) (I : Addr) (wr fs : List Addr) (n : Nat) (P : Nat → Value → Prop) (St : Nat → Shared → Prop) : Prop where
  item : ∀ i (t : Shared) (Q : Option Value → Shared → Prop) (E : Value → Shared → Prop), i < n → St i t → (∀ v t', P i v → St (i + 1) t' → MovedV wr fs t t' → Q (some v) t') → wpAny (model prog w) A (pyNext (.ref I)) Q E t
  done : ∀ (t : Shared) (Q : Option Value → Shared → Prop) (E : Value → Shared → Prop), St n t → (∀ t', MovedV wr fs t t' → Q none t') → wpAny (model prog w) A (pyNext (.ref I)) Q E t
  self : ∀ (t : Shared) (Q : Value → Shared → Prop) (E : Value → Shared → Prop), St 0 t → Q (.ref I) t → wpAny (model prog w) A (pyIter (.ref I)) Q E t
section
variable {w : World} {prog : Program} {A : Around}
theorem WalksV.down {I : Addr} {wr fs : List Addr} {n : Nat} {P : Nat → Value → Prop} {St : Nat → Shared → Prop} (Wk : WalksV prog w A.in1 I wr fs n P St) : WalksV prog w A I wr fs n P St :=
  ⟨fun i t Q E il st k => wpAny_of_in1 (Wk.item i t Q E il st k), fun t Q E st k => wpAny_of_in1 (Wk.done t Q E st k), fun t Q E st k => wpAny_of_in1 (Wk.self t Q E st k)⟩
theorem WalksV.in4 {I : Addr} {wr fs : List Addr} {n : Nat} {P : Nat → Value → Prop} {St : Nat → Shared → Prop} (Wk : WalksV prog w A.in4 I wr fs n P St) : WalksV prog w A.in1 I wr fs n P St :=
  WalksV.down (A := A.in1) (WalksV.down (A := A.in1.in1) (WalksV.down (A := A.in1.in1.in1) Wk))
/-- the generator at a, number g, before its j-th thing -/
def AtB (prog : Program) (w : World) (A : Around) (a : Addr) (g : Nat) (C : Addr) (fp old wr fs : List Addr) (pz : Nat → Bool) (n : Nat) (F : Nat → Value → Prop) (j : Nat) (t : Shared) : Prop :=
  t.heap.IsGen a g ∧ t.heap.NoLimit ∧ AllBare t.gens ∧ ∃ gs, t.gens[g]? = some gs ∧ ∀ u : Shared, (∀ b ∈ C :: (fp ++ old), ∀ o, t.heap.get? b = some o → u.heap.get? b = some o) → AllBare u.gens →
    gs.Goes (model prog w) A.in1 (endB C wr fs) (protoB C fp old wr fs pz n F) ((passing pz n 0).length - j) (.send .none) u
theorem AtB.fresh {elt iter : Expr} {x : Str} {px : Pos} {ifs : List Expr} {scope : Scope} {pos : Pos} {I a : Addr} {g : Nat} {fp old wr fs : List Addr} {n : Nat} {Dr : Nat → Value → Prop} {St : Nat → Heap → Prop} {ce : Env} {fr : Option (List Env)}
    (quiet0 : A.handled = none) (frA : (A.in1.over (loopC elt x px iter ifs scope pos I ce) []).frames = fr) (Wk : ∀ B : Around, B.handled = none → Walks prog w B I fp wr n Dr St) (pz : Nat → Bool) (F : Nat → Value → Prop)
    (kx : ce.kindOf x = some .local) (plain : (ce.scope.kind == .class || (ce.scope.kind == .module && ce.locals != ce.globals)) = false)
    (noco : ce.scope.isCoroutine = false) (apart : ce.locals ∉ fp) (apartO : ce.locals ∉ old) (sepF : ∀ b ∈ fp, b ∉ fs) {t : Shared} {mp : Str → Option Value} (hQ : QuietF prog w ce x ifs elt old wr fs Dr pz F t.heap fr (A.depth + 1) (A.units + 4))
    (gen : t.heap.IsGen a g) (new : t.gens[g]? = some (.fresh (startC elt x px iter ifs scope pos I ce))) (st : St 0 t.heap) (ns : t.heap.Ns ce.locals mp) (lim : t.heap.NoLimit) (bare : AllBare t.gens) : AtB prog w A a g ce.locals fp old wr fs pz n F 0 t :=
  ⟨gen, lim, bare, _, new, fun u hal bu => ⟨rfl, seg_startF (A := A.in1) quiet0 frA Wk pz F t.heap kx plain noco apart apartO sepF hQ u u mp ((Wk A quiet0).frame _ _ _ st fun b hm o it => hal b (List.mem_cons_of_mem _ (List.mem_append_left _ hm)) o it)
    (ns.at' fun o it => hal _ (List.mem_cons_self ..) o it) (SinceG.refl bu) fun b hm _ o it => ⟨fun _ => hal b (List.mem_cons_of_mem _ (List.mem_append_right _ hm)) o it, o.slots, hal b (List.mem_cons_of_mem _ (List.mem_append_right _ hm)) o it⟩⟩⟩
theorem walksB (quiet0 : A.handled = none) (a : Addr) (g : Nat) (C : Addr) (fp old wr fs : List Addr) (pz : Nat → Bool) (n : Nat) (F : Nat → Value → Prop) (ac : a ≠ C) (aw : a ∉ wr) (af : a ∉ fs)
    (room : A.depth < recursionLimit) (csC : cStatics ≠ C) (csW : cStatics ∉ wr) (csF : cStatics ∉ fs) :
    WalksV prog w A a (C :: wr) fs (passing pz n 0).length (fun j y => ∃ i, (passing pz n 0)[j]? = some i ∧ F i y) (AtB prog w A a g C fp old wr fs pz n F) where
  item := fun j t Q E jl st want => by
    obtain ⟨gen, lim, bare, gs, at_, goes⟩ := st
    obtain ⟨r, hr⟩ : ∃ r, (passing pz n 0).length - j = r + 1 := ⟨(passing pz n 0).length - j - 1, by omega⟩
    rw [hr] at goes
    have gl : g < t.gens.size := (Array.getElem?_eq_some_iff.mp at_).1
    refine wpAny_pyNext_genexpQ (P := fun k t0 t1 => k = 0 ∧ SinceG C wr fs t0 t1) quiet0 lim room gen at_ (goes _ (fun _ _ _ it => it) (bare_set bare rfl)) (fun v t1 gs1 b1 told => ?_) (fun t1 ended hp keep => ?_)
    · obtain ⟨⟨i, hi, fv⟩, since, go⟩ := told
      rw [show (passing pz n 0).length - 1 - (r + 1 - 1) = j by omega] at hi
      have gl1 : g < t1.gens.size := by
        have := since.size
        rw [set_size] at this
        omega
      have g1 : (t1.setGen g gs1).gens[g]? = some gs1 := set_at gl1
      obtain ⟨o, nm, qn, ho, more⟩ := gen
      obtain ⟨mc, nsc, nol⟩ := lim
      refine want v _ ⟨i, hi, fv⟩ ⟨⟨o, nm, qn, (since.heap a o ac aw ho).1 af, more⟩, ⟨mc, nsc.at' fun o it => (since.heap cStatics o csC csW it).1 csF, nol⟩, bare_set since.bare b1, gs1, g1, fun u hal bu => ?_⟩
        ⟨since.os, bare_set since.bare b1, fun b o hb it => since.heap b o (fun z => hb (z ▸ List.mem_cons_self ..)) (fun z => hb (List.mem_cons_of_mem _ z)) it⟩
      rw [show (passing pz n 0).length - (j + 1) = r by omega]
      exact go u hal bu
    · exact absurd ended.1 (Nat.succ_ne_zero r)
  done := fun t Q E st want => by
    obtain ⟨gen, lim, bare, gs, at_, goes⟩ := st
    rw [Nat.sub_self] at goes
    refine wpAny_pyNext_genexpQ (P := fun k t0 t1 => k = 0 ∧ SinceG C wr fs t0 t1) quiet0 lim room gen at_ (goes _ (fun _ _ _ it => it) (bare_set bare rfl)) (fun v t1 gs1 b1 told => ?_) (fun t1 ended hp keep => ?_)
    · obtain ⟨_, since, go⟩ := told
      exact (go t1 (fun _ _ _ it => it) since.bare).elim
    · obtain ⟨_, since⟩ := ended
      exact want _ ⟨since.os, bare_set since.bare rfl, fun b o hb it => by
        obtain ⟨p1, sl, p2⟩ := since.heap b o (fun z => hb (z ▸ List.mem_cons_self ..)) (fun z => hb (List.mem_cons_of_mem _ z)) it
        exact ⟨fun nf => keep b o (p1 nf), sl, keep b _ p2⟩⟩
  self := fun _ _ _ st want => wpAny_pyIter_gen st.1 want
/-- all(..) over such a walk of truths -/
theorem all_loopV {I : Addr} {wr fs : List Addr} {n : Nat} {P : Nat → Value → Prop} {St : Nat → Shared → Prop} {R : Result → Shared → Prop} (Wk : WalksV prog w A.in1 I wr fs n P St) (tr : Nat → Bool) (isB : ∀ i v, P i v → v = .bool (tr i)) :
    ∀ (k i : Nat) (t : Shared), n - i = k → i ≤ n → St i t → (∀ t', MovedV wr fs t t' → R (.ok (.ret (.bool (((List.range n).drop i).all tr)))) t') → codeAny (model prog w) A (.builtin "all.loop" ⟨[.ref I], []⟩) R t := by
  intro k
  induction k with
  | zero =>
    intro i t ek il st want
    obtain rfl : i = n := by omega
    (refine codeAny_builtin F.entry_all_loop ?_)
    (rw [Around.under_plainId F.plain_all_loop _])
    show wpAny _ A.in1 (pyNext (.ref I) >>= _) _ _ t
    refine wpAny_bind (Wk.done t _ _ st fun t' mv => wpAny_bind (wpAny_rule (wpAny_pure ?_)))
    have z := want t' mv
    rw [List.drop_of_length_le (Nat.le_of_eq List.length_range)] at z
    exact z
  | succ k again =>
    intro i t ek il st want
    have lt : i < n := by omega
    have cut : (List.range n).drop i = i :: (List.range n).drop (i + 1) := range_drop lt
    (refine codeAny_builtin F.entry_all_loop ?_)
    (rw [Around.under_plainId F.plain_all_loop _])
    show wpAny _ A.in1 (pyNext (.ref I) >>= _) _ _ t
    refine wpAny_bind (Wk.item i t _ _ lt st fun v t' pv st' mv => ?_)
    rw [isB i v pv]
    (refine wpAny_bind (wpAny_holding (wpAny_truthy_bool ?_)))
    (refine wpAny_bind (wpAny_letGo ?_))
    rw [cut] at want
    cases eb : tr i with
    | true =>
      simp only [if_true]
      refine wpAny_pure ⟨plainId_quiet F.plain_all_loop _, again (i + 1) _ (by omega) lt st' fun t2 mv2 => ?_⟩
      have z := want t2 (mv.trans mv2)
      rw [List.all_cons, eb, Bool.true_and] at z
      exact z
    | false =>
      simp only [Bool.false_eq_true, if_false, ite_false]
      (refine wpAny_bind (wpAny_rule (wpAny_pure ?_)))
      have z := want t' mv
      rw [List.all_cons, eb, Bool.false_and] at z
      exact z
theorem call_allV {E : Value → Shared → Prop} {s : Shared} {x : Value} {Q : Value → Shared → Prop}
    (h : wpAny (model prog w) A.in1 (pyIter x) (fun it t => ∃ I wr fs n P St tr, it = .ref I ∧ WalksV prog w A.in1 I wr fs n P St ∧ St 0 t ∧ (∀ i v, P i v → v = .bool (tr i)) ∧ ∀ t', MovedV wr fs t t' → Q (.bool ((List.range n).all tr)) t') E s) :
    (wpAny (model prog w) A (call (.builtin "all") [x]) Q E s) := by
  (refine call_function_tree F.kind_all F.plain_all F.entry_all (F.args_all1 _) ?_)
  unfold Builtin.«all»
  (refine wpAny_bind (m := oneArg "all" _) (wpAny_pure ?_))
  refine wpAny_bind (wpAny_mono h (fun it t ht => ?_) fun _ _ z => z)
  obtain ⟨I, wr, fs, n, P, St, tr, rfl, Wk, st, isB, want⟩ := ht
  exact wpAny_pure ⟨plainId_quiet F.plain_all_loop _, all_loopV Wk tr isB n 0 t rfl (Nat.zero_le _) st fun t' mv => by simpa using want t' mv⟩
end
end V3
namespace V3
open PySem.Spec PySem L2 PyProof.Rows GxR
section
variable {w : World} {prog : Program} {A : Around} {E : Value → Shared → Prop} {s : Shared}
/-- what the maker of such a generator has to know, behind the code object and the builtins -/
def MadeF (prog : Program) (w : World) (A : Around) (env : Env) (elt iter : Expr) (x : Str) (px : Pos) (ifs : List Expr) (scope : Scope) (cl : List (Str × Addr)) (pos : Pos) (Q : Value → Shared → Prop) (it code : Value) (bi : Addr) (t : Shared) : Prop :=
  AllBare t.gens ∧ ∃ (I : Addr) (fp wr fs : List Addr) (n : Nat) (Dr : Nat → Value → Prop) (St : Nat → Heap → Prop) (pz : Nat → Bool) (F : Nat → Value → Prop), it = .ref I ∧ (∀ B : Around, B.handled = none → Walks prog w B I fp wr n Dr St) ∧ St 0 t.heap ∧
    (∀ b ∈ fp, b < t.heap.objs.size) ∧ t.heap.NoLimit ∧ cStatics ∉ wr ∧ (∀ b ∈ fs, b ≤ t.heap.objs.size) ∧ (∀ b ∈ fp, b ∉ fs) ∧ cStatics ∉ fs ∧
    (∀ ref : Heap, (∀ b o, t.heap.get? b = some o → ref.get? b = some o) →
      QuietF prog w (genEnv scope cl t.heap.objs.size code bi env) x ifs elt (List.range t.heap.objs.size) wr fs Dr pz F ref (A.in4.in1.over (loopC elt x px iter ifs scope pos I (genEnv scope cl t.heap.objs.size code bi env)) []).frames (A.depth + 1) (A.units + 8)) ∧
    ∀ a hp tk gs, gs.bare = true → t.heap.objs.size < a → hp.objs.size = a + 1 → (∀ b o, t.heap.get? b = some o → hp.get? b = some o) →
      WalksV prog w A.in4 a (t.heap.objs.size :: wr) fs (passing pz n 0).length (fun j y => ∃ i, (passing pz n 0)[j]? = some i ∧ F i y) (AtB prog w A.in4 a t.gens.size t.heap.objs.size fp (List.range t.heap.objs.size) wr fs pz n F) →
      AtB prog w A.in4 a t.gens.size t.heap.objs.size fp (List.range t.heap.objs.size) wr fs pz n F 0 { t with gens := t.gens.push gs, toks := tk, heap := hp } → Q (.ref a) { t with gens := t.gens.push gs, toks := tk, heap := hp }
theorem genexpF {env : Env} {elt iter : Expr} {x : Str} {px : Pos} {ifs : List Expr} {scope : Scope} {cl : List (Str × Addr)} {pos : Pos} {Q : Value → Shared → Prop}
    (quiet0 : A.handled = none) (noco : scope.isCoroutine = false) (clo : closureFor scope env = pure cl) (nocell : ∀ y ∈ scope.names, y.2 ≠ .cell) (dot0 : scope.names.lookup (".0" : Str) = some NameKind.local)
    (kx : scope.names.lookup x = some .local) (kd : scope.kind = .function) (room : A.depth < recursionLimit)
    (h : wpAny (model prog w) A (eval iter env) (fun xv t1 => wpAny (model prog w) A (pyIter xv) (fun it t2 => t2.heap.NoLimit ∧
      wpAny (model prog w) A (genexprCode env pos (env.qual ++ "<genexpr>") scope) (fun code t3 => wpAny (model prog w) A (builtinsFor env.globals env.builtins) (fun bi t4 => MadeF prog w A env elt iter x px ifs scope cl pos Q it code bi t4) E t3) E t2) E t1) E s)
    (nofold : ∀ v, genFold iter env v = pure v) : wpAny (model prog w) A (eval (.GeneratorExp elt [⟨.Name x px, iter, ifs, 0⟩] scope pos) env) Q E s := by
  refine wpAny_GeneratorExp_make noco clo nocell dot0 kd room (wpAny_mono h (fun xv t1 a1 => wpAny_mono a1 (fun it t2 a2 => ⟨a2.1, wpAny_mono a2.2 (fun code t3 a3 => wpAny_mono a3 (fun bi t4 a4 => ?_)
    fun _ _ z => z) fun _ _ z => z⟩) fun _ _ z => z) fun _ _ z => z) nofold
  obtain ⟨bare, I, fp, wr, fs, n, Dr, St, pz, F, rfl, Wk, st, low, lim, csW, lowF, sepF, csF, hQ, want⟩ := a4
  have cl4 : cStatics < t4.heap.objs.size := by
    obtain ⟨_, q, _⟩ := lim
    exact q.lt
  intro hp nsp same
  have sz : hp.objs.size = t4.heap.objs.size + 1 := by rw [same.1, Heap.size_push]
  have keep : ∀ b o, t4.heap.get? b = some o → hp.get? b = some o := fun b o it => same.extBut b o (Nat.ne_of_lt (Heap.lt_size it)) (Heap.get?_push_of_some _ it)
  have inR : ∀ b ∈ wr, b ∈ List.range t4.heap.objs.size := fun b hb => List.mem_range.mpr (low b ((Wk A quiet0).sub b hb))
  have nC : hp.objs.size ≠ t4.heap.objs.size := by
    rw [sz]
    exact Nat.succ_ne_self _
  have nR : hp.objs.size ∉ List.range t4.heap.objs.size := fun z => by
    have := List.mem_range.mp z
    omega
  have keep5 : ∀ b o, t4.heap.get? b = some o → (hp.push { cls := .type "generator", data := .fields #[.int t4.gens.size 0, .str "<genexpr>" (t4.toks + 1), .str (env.qual ++ "<genexpr>") (t4.toks + 1 + 1)] }).get? b = some o :=
    fun b o it => Heap.get?_push_of_some _ (keep b o it)
  refine want _ _ _ _ rfl (by omega) (by rw [Heap.size_push]) keep5 (walksB (A := A.in4) quiet0 _ _ _ fp _ wr fs pz n F nC (fun z => nR (inR _ z)) (fun z => by have h9 : (hp.objs.size : Nat) ≤ t4.heap.objs.size := lowF _ z; omega) room (Nat.ne_of_lt cl4) csW csF) ?_
  refine AtB.fresh (A := A.in4) (ce := genEnv scope cl t4.heap.objs.size code bi env) (mp := fun y => if y = ".0" then some (.ref I) else none) quiet0 rfl
    Wk pz F kx (by simp [genEnv, kd]) noco
    (fun z => Nat.lt_irrefl _ (low _ z)) (fun z => Nat.lt_irrefl _ (List.mem_range.mp z)) sepF (hQ _ keep5) ⟨_, _, _, Heap.get?_push_size _ rfl, rfl, rfl, rfl⟩ (Array.getElem?_push_size ..) ((Wk A quiet0).frame _ _ _ st fun b _ o it => keep5 b o it) (nsp.push _) (lim.keeps keep5) (bare.push rfl)
end
end V3
/-! A call of a def with a promise, from a generator expression's own frame. -/
namespace V3
open PySem.Spec PySem L2 PyProof.Rows GxR
/-- what is known of lists and tuples, held fast by their very objects -/
def fast (h : Heap) (H : Hp) : Hp := fun b => match H b with
  | some (.tup xs) => (h.get? b).map fun o => .frz o (.tup xs)
  | some (.lst xs) => (h.get? b).map fun o => .frz o (.lst xs)
  | some (.frz o (.tup xs)) => some (.frz o (.tup xs))
  | some (.frz o (.lst xs)) => some (.frz o (.lst xs))
  | some (.dK kvs) => (h.get? b).map fun o => .frz o (.dK kvs)
  | some (.frz o (.dK kvs)) => some (.frz o (.dK kvs))
  | _ => none
section
variable {P : Program} {w : World} {h h' : Heap} {H : Hp}
theorem fast_none {b : Addr} (e : H b = none) : fast h H b = none := by
  unfold fast
  rw [e]
theorem fast_cases {b : Addr} {u : HO} (e : fast h H b = some u) : (∃ xs o, H b = some (.tup xs) ∧ h.get? b = some o ∧ u = .frz o (.tup xs)) ∨ (∃ xs o, H b = some (.lst xs) ∧ h.get? b = some o ∧ u = .frz o (.lst xs)) ∨
    (∃ xs o, H b = some (.frz o (.tup xs)) ∧ u = .frz o (.tup xs)) ∨ (∃ xs o, H b = some (.frz o (.lst xs)) ∧ u = .frz o (.lst xs)) ∨
    (∃ kvs o, H b = some (.dK kvs) ∧ h.get? b = some o ∧ u = .frz o (.dK kvs)) ∨ ∃ kvs o, H b = some (.frz o (.dK kvs)) ∧ u = .frz o (.dK kvs) := by
  unfold fast at e
  cases hb : H b with
  | none =>
    rw [hb] at e
    cases e
  | some ho =>
    rw [hb] at e
    cases ho with
    | tup xs =>
      obtain ⟨o, h1, h2⟩ := Option.map_eq_some_iff.mp e
      exact .inl ⟨xs, o, rfl, h1, h2.symm⟩
    | lst xs =>
      obtain ⟨o, h1, h2⟩ := Option.map_eq_some_iff.mp e
      exact .inr (.inl ⟨xs, o, rfl, h1, h2.symm⟩)
    | frz o u0 =>
      cases u0 with
      | tup xs => exact .inr (.inr (.inl ⟨xs, o, rfl, (Option.some.inj e).symm⟩))
      | lst xs => exact .inr (.inr (.inr (.inl ⟨xs, o, rfl, (Option.some.inj e).symm⟩)))
      | dK kvs => exact .inr (.inr (.inr (.inr (.inr ⟨kvs, o, rfl, (Option.some.inj e).symm⟩))))
      | _ => cases e
    | dK kvs =>
      obtain ⟨o, h1, h2⟩ := Option.map_eq_some_iff.mp e
      exact .inr (.inr (.inr (.inr (.inl ⟨kvs, o, rfl, h1, h2.symm⟩))))
    | _ => cases e
theorem fast_ok (ok : HOk P w H h) (k : ∀ b u o, H b = some u → (∀ q, u ≠ .tbl q) → h.get? b = some o → h'.get? b = some o) : HOk P w (fast h H) h' := by
  intro b u e
  rcases fast_cases e with (⟨xs, o, e1, e2, rfl⟩ | ⟨xs, o, e1, e2, rfl⟩ | ⟨xs, o, e1, rfl⟩ | ⟨xs, o, e1, rfl⟩ | ⟨kvs, o, e1, e2, rfl⟩ | ⟨kvs, o, e1, rfl⟩)
  · obtain ⟨z, its, rv, o2, h1, h2, n, h3⟩ := ok b _ e1
    rw [e2] at h1
    cases h1
    have kk := k b _ o e1 (fun q z => by cases z) e2
    exact ⟨kk, z, its, rv, o, kk, h2, n, h3⟩
  · obtain ⟨z, its, n, rv, h1⟩ := ok b _ e1
    rw [e2] at h1
    have kk := k b _ o e1 (fun q z => by cases z) e2
    exact ⟨kk, z, its, n, rv, by rw [kk, h1]⟩
  · obtain ⟨e2, z, its, rv, o2, h1, h2, n, h3⟩ := ok b _ e1
    rw [e2] at h1
    cases h1
    have kk := k b _ o e1 (fun q z => by cases z) e2
    exact ⟨kk, z, its, rv, o, kk, h2, n, h3⟩
  · obtain ⟨e2, z, its, n, rv, h1⟩ := ok b _ e1
    rw [e2] at h1
    have kk := k b _ o e1 (fun q z => by cases z) e2
    exact ⟨kk, z, its, n, rv, by rw [kk, h1]⟩
  · obtain ⟨z, ns, vs, kv, o2, es, ep, h1, x1⟩ := ok b _ e1
    rw [e2] at h1
    cases h1
    have kk := k b _ o e1 (fun q z => by cases z) e2
    exact ⟨kk, z, ns, vs, kv, o, es, ep, kk, x1⟩
  · obtain ⟨e2, z, ns, vs, kv, o2, es, ep, h1, x1⟩ := ok b _ e1
    rw [e2] at h1
    cases h1
    have kk := k b _ o e1 (fun q z => by cases z) e2
    exact ⟨kk, z, ns, vs, kv, o, es, ep, kk, x1⟩
theorem fast_tup {b : Addr} {xs : List V} (ok : HOk P w H h) (e : H b = some (.tup xs)) : ∃ o, fast h H b = some (.frz o (.tup xs)) := by
  obtain ⟨z, its, rv, o, h1, _⟩ := ok b _ e
  exact ⟨o, by unfold fast; rw [e]; simp only []; rw [h1]; rfl⟩
theorem fast_lst {b : Addr} {xs : List V} (ok : HOk P w H h) (e : H b = some (.lst xs)) : ∃ o, fast h H b = some (.frz o (.lst xs)) := by
  obtain ⟨z, its, n, rv, h1⟩ := ok b _ e
  exact ⟨_, by unfold fast; rw [e]; simp only []; rw [h1]; rfl⟩
theorem fast_dK {b : Addr} {kvs : List (Key × V)} (ok : HOk P w H h) (e : H b = some (.dK kvs)) : ∃ o, fast h H b = some (.frz o (.dK kvs)) := by
  obtain ⟨z, ns, vs, kv, o2, es, ep, h1, x1⟩ := ok b _ e
  exact ⟨_, by unfold fast; rw [e]; simp only []; rw [h1]; rfl⟩
theorem fastT {K : PySem.W.Frag} {a : Addr} {xs : List V} (ok : HOk P w H h) (s : SqT K H a xs) : SqT K (fast h H) a xs := by
  rcases s with ((e | ⟨o, e⟩) | e)
  · exact .inl (.inr (fast_tup ok e))
  · exact .inl (.inr ⟨o, by unfold fast; rw [e]⟩)
  · exact .inr e
theorem fastL {K : PySem.W.Frag} {a : Addr} {xs : List V} (ok : HOk P w H h) (s : SqL K H a xs) : SqL K (fast h H) a xs := by
  rcases s with ((e | ⟨o, e⟩) | e)
  · exact .inl (.inr (fast_lst ok e))
  · exact .inl (.inr ⟨o, by unfold fast; rw [e]⟩)
  · exact .inr e
end
mutual
theorem Dp.fast {P : Program} {w : World} {K : PySem.W.Frag} {h : Heap} {H : Hp} (ok : HOk P w H h) : ∀ {v : V} {d : PyData}, Dp K H v d → Dp K (V3.fast h H) v d
  | _, _, .non => .non
  | _, _, .bl b => .bl b
  | _, _, .int i => .int i
  | _, _, .str x => .str x
  | _, _, .lst s a => .lst (fastL ok s) (DpAll.fast ok a)
  | _, _, .tup s a => .tup (fastT ok s) (DpAll.fast ok a)
theorem DpAll.fast {P : Program} {w : World} {K : PySem.W.Frag} {h : Heap} {H : Hp} (ok : HOk P w H h) : ∀ {vs : List V} {ds : List PyData}, DpAll K H vs ds → DpAll K (V3.fast h H) vs ds
  | _, _, .nil => .nil
  | _, _, .cons a b => .cons (Dp.fast ok a) (DpAll.fast ok b)
end
theorem kept_CE {P : Program} {w : World} {outer : List Env} {h : Heap} {H : Hp} {t t' : Shared} {Q : VK} {u : Value} (ok : HOk P w (fast h H) t.heap) (c : CE outer P w (fast h H) t Q u t') : KeptG (frs outer) t t' ∧ ∃ v H', RelV v u ∧ Q v H' := by
  obtain ⟨v, H', os, bare, un, ok', r, q⟩ := c
  refine ⟨⟨os, bare, fun b o it => ?_⟩, v, H', r, q⟩
  have fixed : ∀ o' u', fast h H b = some (.frz o' u') → t'.heap.get? b = some o := fun o' u' e => by
    have h1 : t.heap.get? b = some o' := (ok b _ e).1
    rw [it] at h1
    cases h1
    exact (ok' b _ (un.frzs b _ _ e)).1
  cases e : fast h H b with
  | none =>
    by_cases hb : b ∈ frs outer
    · obtain ⟨sl, z⟩ := un.slot b o it e hb (by simp)
      exact ⟨fun nf => absurd hb nf, sl, z⟩
    · have z := un.keep b o it e hb (by simp)
      exact ⟨fun _ => z, o.slots, z⟩
  | some ho =>
    rcases fast_cases e with (⟨xs, o', e1, e2, rfl⟩ | ⟨xs, o', e1, e2, rfl⟩ | ⟨xs, o', e1, rfl⟩ | ⟨xs, o', e1, rfl⟩ | ⟨xs, o', e1, e2, rfl⟩ | ⟨xs, o', e1, rfl⟩) <;> exact ⟨fun _ => fixed _ _ e, o.slots, fixed _ _ e⟩
/-- what the frame's call of the def needs of the state t -/
structure InGen (X : Cx) (H : Hp) (h : Heap) (ce : Env) (C : Addr) (t : Shared) : Prop where
  base : ∀ b o, X.base.get? b = some o → t.heap.get? b = some o
  sz : X.base.objs.size ≤ t.heap.objs.size
  funs : t.heap.FunFrames X.base (ce :: X.stack)
  frf : ∀ b ∈ frs (ce :: X.stack), H b = none
  ok : HOk X.prog X.w (fast h H) t.heap
  bare : AllBare t.gens
theorem gen_call {X : Cx} {pins : List (Addr × Obj)} {σ : L2.St} {H : Hp} {s t : Shared} {k : Nat} {f C : Addr} {fd : FuncData} {ps : List Str} {sp : Sp} {B : Around} {ce : Env} {us : List Value} {vs : List V} {q : V → Prop} {R : Value → Shared → Prop} {Ex : Value → Shared → Prop}
    (I : Inv X pins σ H s) (G : FnOk X.prog X.w X.K X.mg X.base CX0 k f fd ps sp) (bd : Binds X.K fd ps []) (hr : Room (k + 1) X.A) (g : InGen X H s.heap ce C t)
    (b0 : B.handled = none) (bf : B.frames = some (ce :: X.stack)) (bd1 : B.depth ≤ X.A.depth + 1) (bu : B.units ≤ X.A.units + 8) (r : Vals vs us) (ask : sp vs (fast s.heap H) (fun v _ => q v) E0)
    (fin : ∀ v u t', q v → RelV v u → KeptG (frs (ce :: X.stack)) t t' → R u t') : wpAny (model X.prog X.w) B (call (.ref f) us) R Ex t := by
  have room : Room k B := ⟨b0, by have := hr.dp; omega, by have := hr.un; omega⟩
  have kin : X.K.In t.heap := I.ok.mod.kin.keeps g.base
  have e0 : Env0 X.prog X.w X.K X.mg X.base B (ce :: X.stack) t (fast s.heap H) := ⟨bf, I.ok.mod, fun b o it => ⟨g.base b o it, fast_none (I.bs b o it).2⟩, g.sz, g.funs, fun b hb => fast_none (g.frf b hb), g.ok, g.bare⟩
  have hl : (us ++ []).length = ps.length := by
    rw [List.append_nil, ← r.length]
    exact G.len _ _ _ _ ask
  have bs := bd t us kin hl
  rw [List.append_nil] at bs
  refine wpAny_call (codeAny_mono (G.run B (ce :: X.stack) t (fast s.heap H) ⟨us, []⟩ us vs (fun v _ => q v) E0 room e0 bs r ask) fun res t' c => ?_)
  cases res with
  | error e => exact False.elim c
  | ok fl =>
    cases fl with
    | ret u =>
      obtain ⟨kg, v, H', rv, qv⟩ := kept_CE g.ok c
      exact fin v u t' qv rv kg
    | next => exact False.elim c
    | brk => exact False.elim c
    | cont => exact False.elim c
end V3
set_option maxHeartbeats 8100000
namespace V3
open PySem.Spec PySem L2 PyProof.Rows GxR
section
variable {pins : List (Addr × Obj)} {X : Cx} {σ : L2.St} {H : Hp} {s : Shared}
theorem over_frames {A : Around} {elt iter : Expr} {x : Str} {px : Pos} {ifs : List Expr} {scope : Scope} {pos : Pos} {I : Addr} {ce : Env} {l : List Env} (e : A.frames = some l) :
    (A.in4.in1.over (loopC elt x px iter ifs scope pos I ce) []).frames = some (ce :: l) := by
  have e5 : A.in4.in1.frames = some l := e
  simp only [Around.over, List.map_nil]
  rw [e5]
  rfl
/-- behind a walk of a generator: the table has grown, of the frames the slots may differ -/
theorem inv_gen {P : Addr} {ps more : Array Value} {t' : Shared} (I : Inv X pins σ H s) (hP : H P = some (.tbl ps)) (os : t'.os = s.os) (bare : AllBare t'.gens)
    (k : ∀ b o, b ≠ P → s.heap.get? b = some o → (b ∉ frs X.stack → t'.heap.get? b = some o) ∧ ∃ sl, t'.heap.get? b = some { o with slots := sl })
    (hm : t'.heap.get? P = some { cls := .none, data := .fields (ps ++ more) }) : Inv X pins σ (upd H P (.tbl (ps ++ more))) t' := by
  have nP : ∀ b u, H b = some u → (∀ q, u ≠ .tbl q) → b ≠ P := fun b u e q zz => by
    rw [zz, hP] at e
    (exact q ps (Option.some.inj e).symm)
  have nN : ∀ b, H b = none → b ≠ P := fun b e zz => by
    rw [zz, hP] at e
    cases e
  have exactly : ∀ b u o, H b = some u → b ≠ P → s.heap.get? b = some o → t'.heap.get? b = some o := fun b u o e n it => (k b o n it).1 fun z => by
    rw [I.stkFree b z] at e
    cases e
  have un : Un (frs X.stack) [] H (upd H P (.tbl (ps ++ more))) s.heap t'.heap := by
    refine ⟨fun b o it e nf _ => (k b o (nN b e) it).1 nf, fun b o it e _ _ => (k b o (nN b e) it).2, fun b o _ e _ => by rw [upd_ne (nN b e)]; exact e, fun b o it _ => ?_, fun b xs e => by rw [upd_ne (nP b _ e (fun q z => by cases z))]; exact e,
      fun b o u e => by rw [upd_ne (nP b _ e (fun q z => by cases z))]; exact e, fun b qs e => ?_⟩
    · by_cases hb : b = P
      · exact ⟨_, by rw [hb]; exact hm⟩
      · obtain ⟨_, sl, z⟩ := k b o hb it
        exact ⟨_, z⟩
    · by_cases hb : b = P
      · rw [hb, hP] at e
        cases e
        exact ⟨more, by rw [hb, upd_same]⟩
      · exact ⟨#[], by rw [upd_ne hb, e]; simp⟩
  have ok : HOk X.prog X.w (upd H P (.tbl (ps ++ more))) t'.heap := by
    intro b u e
    by_cases hb : b = P
    · subst hb
      rw [upd_same] at e
      cases e
      exact hm
    · rw [upd_ne hb] at e
      refine (I.hok b u e).stay (fun d v hd q => ?_) (fun d q => by rw [upd_ne (nP d _ q (fun q z => by cases z))]; exact q) fun d xs q => by rw [upd_ne (nP d _ q (fun q z => by cases z))]; exact q
      rcases hd with (z | z)
      · subst z
        exact exactly _ u v e hb q
      · exact exactly d _ v z (nP d _ z (fun q z => by cases z)) q
  have J := I.call (h' := t'.heap) (g' := t'.gens) (d' := t'.drawn) (t' := t'.toks) (ch := []) un ok bare (fun b z => absurd z (by simp))
  rw [sh_eta s t' os] at J
  exact J
end
/-- all(f(x, c) for x in t), t a tuple, f a def with a promise, c a name of the def -/
def tAllC (X : Cx) (P : Addr) (ic : Nat) (sp : Sp) (te : TE) : TE := fun σ H Q => te σ H fun v H1 => ∃ (a : Addr) (xs : List V) (vc : V) (tr : Nat → Bool), v = .ref a ∧ SqT X.K H1 a xs ∧ TabG H1 P ∧ σ[ic]? = some (some vc) ∧
  (∀ h, HOk X.prog X.w H1 h → ∀ i xi, xs[i]? = some xi → sp [xi, vc] (fast h H1) (fun v _ => v = .bl (tr i)) E0) ∧ ∀ H2, Tabbed P H1 H2 → Q (.bl ((List.range xs.length).all tr)) H2
end V3
namespace V3
open PySem.Spec PySem L2 PyProof.Rows GxR
section
variable {X : Cx}
theorem tests_none {M : Model} {B : Around} {ce : Env} {Ex : Value → Shared → Prop} {t : Shared} {R : Bool → Shared → Prop} (h : R true t) : wpAny M B (testsOf [] ce) R Ex t := by
  show wpAny M B (forIn ([] : List Expr) true _) R Ex t
  simp only [List.forIn_nil]
  exact wpAny_pure h
theorem frs_apart {s : Shared} {l : List Env} {base : Heap} {b : Addr} (f : s.heap.FunFrames base l) (hb : b ∈ frs l) : base.get? b = none ∧ ∃ o, s.heap.get? b = some o ∧ ∀ vs, o.data ≠ .fields vs := by
  obtain ⟨n, o, ho, nf⟩ := f.mem hb
  exact ⟨n, o, ho, nf⟩
end
end V3
/-! A generator expression with two fors. -/
namespace V3
open PySem.Spec PySem L2 PyProof.Rows GxR
section
variable {w : World} {prog : Program} {A : Around}
abbrev gen2 (elt : Expr) (x : Str) (px : Pos) (iter : Expr) (y : Str) (py : Pos) (iter2 : Expr) (scope : Scope) (pos : Pos) : Expr := .GeneratorExp elt [⟨.Name x px, iter, [], 0⟩, ⟨.Name y py, iter2, [], 0⟩] scope pos
theorem turn0 (elt : Expr) (x : Str) (px : Pos) (iter : Expr) (y : Str) (py : Pos) (iter2 : Expr) (scope : Scope) (pos : Pos) (it acc : Value) (env : Env) :
    compTurn (gen2 elt x px iter y py iter2 scope pos) 0 it acc env = (do
      standAt iter.pos
      match ← pyNext it with
      | none => pure (.done .next)
      | some v =>
        letOwnedTupleGo (.Name x px) it v
        assign (.Name x px) env v
        let mut ok := true
        for test in ([] : List Expr) do
          if ok then
            ok ← isTrue test env (eval test env)
        if ok then
          let q ← eval iter2 env
          standAt iter2.pos
          let q ← if (0 : Nat) != 0 then foldedIterable iter2 q else foldedSetIterable iter2 env q
          let _ ← runOwn (.compStart (gen2 elt x px iter y py iter2 scope pos) 1 (← holding [q] (if (0 : Nat) != 0 then asyncIter q else pyIter q)) acc env) env
        again (.compLoop (gen2 elt x px iter y py iter2 scope pos) 0 it acc env)) := by rfl
theorem turn1 (elt : Expr) (x : Str) (px : Pos) (iter : Expr) (y : Str) (py : Pos) (iter2 : Expr) (scope : Scope) (pos : Pos) (it acc : Value) (env : Env) :
    compTurn (gen2 elt x px iter y py iter2 scope pos) 1 it acc env = (do
      standAt iter2.pos
      match ← pyNext it with
      | none => pure (.done .next)
      | some v =>
        letOwnedTupleGo (.Name y py) it v
        assign (.Name y py) env v
        let mut ok := true
        for test in ([] : List Expr) do
          if ok then
            ok ← isTrue test env (eval test env)
        if ok then
          (eval elt env >>= fun thing => standAt elt.pos >>= fun _ => yieldOut env thing >>= fun _ => pure ())
        again (.compLoop (gen2 elt x px iter y py iter2 scope pos) 1 it acc env)) := by rfl
/-- what stands of keep, of the frames fs all but the slots -/
structure SinceK (keep fs : List Addr) (t t' : Shared) : Prop where
  os : t'.os = t.os
  bare : AllBare t'.gens
  size : t.gens.size ≤ t'.gens.size
  heap : ∀ b ∈ keep, ∀ o, t.heap.get? b = some o → (b ∉ fs → t'.heap.get? b = some o) ∧ ∃ sl, t'.heap.get? b = some { o with slots := sl }
theorem SinceK.refl {keep fs : List Addr} {t : Shared} (b : AllBare t.gens) : SinceK keep fs t t := ⟨rfl, b, Nat.le_refl _, fun _ _ o it => ⟨fun _ => it, o.slots, it⟩⟩
theorem SinceK.step {keep fs : List Addr} {t t' : Shared} {hp : Heap} {tk : Nat} (h : SinceK keep fs t t') (k : ∀ b ∈ keep, ∀ o, t'.heap.get? b = some o → hp.get? b = some o) : SinceK keep fs t { t' with heap := hp, toks := tk } :=
  ⟨h.os, h.bare, h.size, fun b hb o it => by
    obtain ⟨p1, sl, p2⟩ := h.heap b hb o it
    exact ⟨fun nf => k b hb o (p1 nf), sl, k b hb _ p2⟩⟩
theorem SinceK.more {keep fs : List Addr} {t t1 t2 : Shared} (h : SinceK keep fs t t1) (z : t1.gens.size ≤ t2.gens.size) (k : KeptG fs t1 t2) : SinceK keep fs t t2 :=
  ⟨k.os.trans h.os, k.bare, Nat.le_trans h.size z, fun b hb o it => by
    obtain ⟨p1, sl, p2⟩ := h.heap b hb o it
    obtain ⟨_, sl2, q2⟩ := k.heap b _ p2
    exact ⟨fun nf => (k.heap b o (p1 nf)).1 nf, sl2, q2⟩⟩
/-- one thing after the other: the m-th of N satisfies F m -/
def protoN (keep fs : List Addr) (N : Nat) (F : Nat → Value → Prop) : Protocol := fun left t0 v t go =>
  F (N - 1 - left) v ∧ SinceK keep fs t0 t ∧ ∀ u : Shared, (∀ b o, t.heap.get? b = some o → u.heap.get? b = some o) → AllBare u.gens → go (.send .none) u
abbrev endN (keep fs : List Addr) : GenEnd := fun n t0 r t1 => r = .ok .next ∧ (n = 0 ∧ SinceK keep fs t0 t1)
abbrev lp (elt : Expr) (x : Str) (px : Pos) (iter : Expr) (y : Str) (py : Pos) (iter2 : Expr) (scope : Scope) (pos : Pos) (ce : Env) (d : Nat) (I : Addr) : Code := .compLoop (gen2 elt x px iter y py iter2 scope pos) d (.ref I) .none ce
/-- what a predicate of heaps bears: the frame and the inner iterator change, the frames' slots too -/
def Bears (Ok : Heap → Prop) (C J : Addr) (fs : List Addr) : Prop := ∀ h h' : Heap, Ok h → (∀ b o, b ≠ C → b ≠ J → h.get? b = some o → (b ∉ fs → h'.get? b = some o) ∧ ∃ sl, h'.get? b = some { o with slots := sl }) → Ok h'
theorem seg_in {elt iter iter2 : Expr} {x y : Str} {px py : Pos} {scope : Scope} {pos : Pos} {J : Addr} {ce : Env} {keep fs : List Addr} {m rest base N : Nat} {Dr : Nat → Value → Prop} {St : Nat → Heap → Prop} {F : Nat → Value → Prop} {Ok : Heap → Prop} {vx : Value} {fr : Option (List Env)}
    {kK : Result → Sem PySem.Fin} {hK : Option Value} {lK : List Value} {cK : Code} {pK : Pos} (quiet0 : (A.over (lp elt x px iter y py iter2 scope pos ce 1 J) [.ret kK hK false lK cK pK []]).handled = none)
    (frA : (A.over (lp elt x px iter y py iter2 scope pos ce 1 J) [.ret kK hK false lK cK pK []]).frames = fr) {D U : Nat} (qd : (A.over (lp elt x px iter y py iter2 scope pos ce 1 J) [.ret kK hK false lK cK pK []]).depth ≤ D) (qu : (A.over (lp elt x px iter y py iter2 scope pos ce 1 J) [.ret kK hK false lK cK pK []]).units ≤ U)
    (Wk : ∀ B : Around, B.handled = none → Walks prog w B J [J] [J] m Dr St) (JC : J ≠ ce.locals) (Jf : J ∉ fs) (Jk : J ∉ keep) (Ck : ce.locals ∉ keep) (bears : Bears Ok ce.locals J fs)
    (kx : ce.kindOf y = some .local) (plain : (ce.scope.kind == .class || (ce.scope.kind == .module && ce.locals != ce.globals)) = false) (noco : ce.scope.isCoroutine = false) (xy : x ≠ y) (eN : N = base + m + rest)
    (hel : ∀ (B : Around) Ex j v (t : Shared) mp, B.handled = none → B.frames = fr → B.depth ≤ D → B.units ≤ U → AllBare t.gens → j < m → Dr j v → Ok t.heap → t.heap.Ns ce.locals mp → mp x = some vx → mp y = some v → wpAny (model prog w) B (eval elt ce) (fun q t' => F (base + j) q ∧ KeptG fs t t') Ex t)
    (fin : ∀ (t0 t : Shared) (mp : Str → Option Value), Ok t.heap → t.heap.Ns ce.locals mp → SinceK keep fs t0 t → Seg (model prog w) A (endN keep fs) (protoN keep fs N F) rest t0 cK (kK (.ok .next)) [] t) :
    ∀ (k j : Nat) (t0 t : Shared) (mp : Str → Option Value), m - j = k → j ≤ m → St j t.heap → Ok t.heap → t.heap.Ns ce.locals mp → mp x = some vx → SinceK keep fs t0 t →
      Seg (model prog w) A (endN keep fs) (protoN keep fs N F) (m - j + rest) t0 (lp elt x px iter y py iter2 scope pos ce 1 J) ((model prog w).den (lp elt x px iter y py iter2 scope pos ce 1 J)) [.ret kK hK false lK cK pK []] t := by
  intro k
  induction k with
  | zero =>
    intro j t0 t mp ek jl st ok ns hx since
    obtain rfl : j = m := by omega
    show Seg _ A _ _ _ t0 _ ((compTurn (gen2 elt x px iter y py iter2 scope pos) 1 (.ref J) .none ce).onRaise _) _ t
    rw [turn1, Sem.onRaise_eq_wrap]
    refine seg_bind_wrap (wpAny_standAt (seg_bind_wrap ((Wk _ quiet0).done t _ _ st fun hp tk stay => ?_)))
    have e0 : j - j + rest = rest := by omega
    rw [e0]
    refine seg_leaf (.ok .next) (fin _ _ mp (bears _ _ ok fun b o _ nJ it => ⟨fun _ => stay b o (by simpa using nJ) it, o.slots, stay b o (by simpa using nJ) it⟩) (ns.at' fun o it => stay _ o (by simpa using (Ne.symm JC)) it) (since.step fun b hb o it => stay b o (fun z => Jk ((List.mem_singleton.mp z) ▸ hb)) it))
  | succ k again =>
    intro j t0 t mp ek jl st ok ns hx since
    have more : j < m := by omega
    show Seg _ A _ _ _ t0 _ ((compTurn (gen2 elt x px iter y py iter2 scope pos) 1 (.ref J) .none ce).onRaise _) _ t
    rw [turn1, Sem.onRaise_eq_wrap]
    refine seg_bind_wrap (wpAny_standAt (seg_bind_wrap ((Wk _ quiet0).item j t _ _ more st fun v ha ta drawn sta ka => ?_)))
    refine seg_bind_wrap (wpAny_of_eq (rfl : letOwnedTupleGo (.Name y py) (.ref J) v = pure ()) ?_)
    refine seg_bind_wrap (wpAny_assign_Name (wpAny_storeName_local kx (ns.at' fun o it => ka _ o (by simpa using (Ne.symm JC)) it) (fun hb nsb sb => ?_) plain))
    have stayB : ∀ b o, b ≠ ce.locals → b ≠ J → t.heap.get? b = some o → hb.get? b = some o := fun b o nc nj it => sb.extBut b o nc (ka b o (by simpa using nj) it)
    have okB : Ok hb := bears _ _ ok fun b o nc nj it => ⟨fun _ => stayB b o nc nj it, o.slots, stayB b o nc nj it⟩
    have stB : St (j + 1) hb := (Wk _ quiet0).frame _ _ _ sta fun b hm o it => sb.extBut b o (fun z => JC (by rw [← z]; exact (List.mem_singleton.mp hm).symm)) it
    have sinceB : ∀ tk : Nat, SinceK keep fs t0 { t with heap := hb, toks := tk } := fun tk => since.step fun b hm o it => stayB b o (fun z => Ck (z ▸ hm)) (fun z => Jk (z ▸ hm)) it
    refine seg_bind_wrap (tests_none ?_)
    simp only [if_true]
    have out : ∀ v, yieldOut ce v = yieldValue v := fun v => by simp only [yieldOut, noco, Bool.false_eq_true, if_false]
    simp only [out]
    (rw [Sem.bind_eq_wrap', Sem.bind_eq_wrap', Sem.wrap_wrap, Sem.wrap_wrap])
    have en : m - j + rest = (m - (j + 1) + rest) + 1 := by omega
    rw [en]
    refine seg_wrap (GenW.wpAny_gsz (n := t.gens.size) (Nat.le_refl _) (wpAny_mono (hel _ _ j v _ _ quiet0 frA qd qu since.bare more drawn okB nsb (by simp [xy, hx]) (by simp)) (fun q td both szd => ?_) fun _ _ z => z))
    obtain ⟨fq, kd⟩ := both
    have okD : Ok td.heap := bears _ _ okB fun b o _ _ it => kd.heap b o it
    have stD : St (j + 1) td.heap := (Wk _ quiet0).frame _ _ _ stB fun b hm o it => (kd.heap b o it).1 (fun z => Jf ((List.mem_singleton.mp hm) ▸ z))
    refine seg_at (seg_yield rfl rfl rfl ⟨?_, (sinceB _).more szd kd, fun u hal bu => ?_⟩)
    · have ei : N - 1 - (m - (j + 1) + rest) = base + j := by omega
      rw [ei]
      exact fq
    · refine seg_again rfl (again (j + 1) u u _ (by omega) more ((Wk _ quiet0).frame _ _ _ stD fun b _ o it => hal b o it) (bears _ _ okD fun b o _ _ it => ⟨fun _ => hal b o it, o.slots, hal b o it⟩)
        ((kd.heap.ns nsb).at' fun o it => hal _ o it) (by simp [xy, hx]) (SinceK.refl bu))
end
end V3
namespace V3
open PySem.Spec PySem L2 PyProof.Rows GxR
section
variable {w : World} {prog : Program} {A : Around}
/-- the inner walk of the outer thing i, made from the state t -/
structure Inner (prog : Program) (w : World) (Dr2 : Nat → Value → Prop) (m : Nat) (fs : List Addr) (t t2 : Shared) (jt : Value) : Prop where
  kept : KeptG fs t t2
  ex : ∃ (J : Addr) (St : Nat → Heap → Prop), jt = .ref J ∧ t.heap.objs.size ≤ J ∧ (∀ B : Around, B.handled = none → Walks prog w B J [J] [J] m Dr2 St) ∧ St 0 t2.heap
theorem seg_two {elt iter iter2 : Expr} {x y : Str} {px py : Pos} {scope : Scope} {pos : Pos} {J : Addr} {ce : Env} {keep fs : List Addr} {n rest base N : Nat} {Dr : Nat → Value → Prop} {St : Nat → Heap → Prop} {F : Nat → Value → Prop} {Ok : Heap → Prop} {vx : Value} {fr : Option (List Env)}
    {kK : Result → Sem PySem.Fin} {hK : Option Value} {lK : List Value} {cK : Code} {pK : Pos} {D U : Nat} (quiet1 : (A.over (lp elt x px iter y py iter2 scope pos ce 1 J) [.ret kK hK false lK cK pK []]).handled = none)
    (quiet0 : (A.over (.compStart (gen2 elt x px iter y py iter2 scope pos) 1 (.ref J) .none ce) [.ret kK hK false lK cK pK []]).handled = none)
    (frA : (A.over (lp elt x px iter y py iter2 scope pos ce 1 J) [.ret kK hK false lK cK pK []]).frames = fr) (qd : (A.over (lp elt x px iter y py iter2 scope pos ce 1 J) [.ret kK hK false lK cK pK []]).depth ≤ D) (qu : (A.over (lp elt x px iter y py iter2 scope pos ce 1 J) [.ret kK hK false lK cK pK []]).units ≤ U)
    (Wk : ∀ B : Around, B.handled = none → Walks prog w B J [J] [J] n Dr St) (JC : J ≠ ce.locals) (Jf : J ∉ fs) (Jk : J ∉ keep) (Ck : ce.locals ∉ keep) (bears : Bears Ok ce.locals J fs)
    (kx : ce.kindOf y = some .local) (plain : (ce.scope.kind == .class || (ce.scope.kind == .module && ce.locals != ce.globals)) = false) (noco : ce.scope.isCoroutine = false) (xy : x ≠ y) (eN : N = base + n + rest)
    (hel : ∀ (B : Around) Ex j v (t : Shared) mp, B.handled = none → B.frames = fr → B.depth ≤ D → B.units ≤ U → AllBare t.gens → j < n → Dr j v → Ok t.heap → t.heap.Ns ce.locals mp → mp x = some vx → mp y = some v → wpAny (model prog w) B (eval elt ce) (fun q t' => F (base + j) q ∧ KeptG fs t t') Ex t)
    (fin : ∀ (t0 t : Shared) (mp : Str → Option Value), Ok t.heap → t.heap.Ns ce.locals mp → SinceK keep fs t0 t → Seg (model prog w) A (endN keep fs) (protoN keep fs N F) rest t0 cK (kK (.ok .next)) [] t)
    (t0 t : Shared) (mp : Str → Option Value) (st : St 0 t.heap) (ok : Ok t.heap) (ns : t.heap.Ns ce.locals mp) (hx : mp x = some vx) (since : SinceK keep fs t0 t) :
      Seg (model prog w) A (endN keep fs) (protoN keep fs N F) (n - 0 + rest) t0 (.compStart (gen2 elt x px iter y py iter2 scope pos) 1 (.ref J) .none ce) ((model prog w).den (.compStart (gen2 elt x px iter y py iter2 scope pos) 1 (.ref J) .none ce)) [.ret kK hK false lK cK pK []] t := by
  have lp' := seg_in (iter := iter) (iter2 := iter2) (px := px) (py := py) (scope := scope) (pos := pos) quiet1 frA qd qu Wk JC Jf Jk Ck bears kx plain noco xy eN hel fin n 0 t0 t mp (Nat.sub_zero _) (Nat.zero_le _) st ok ns hx since
  show Seg _ A _ _ _ t0 _ ((compStart (gen2 elt x px iter y py iter2 scope pos) 1 (.ref J) .none ce).onRaise _) _ t
  unfold compStart
  rw [Sem.onRaise_eq_wrap]
  show Seg _ A _ _ _ t0 _ ((ask >>= _).wrap _ _ _ _) _ t
  (refine seg_bind_wrap (wpAny_askSetting ?_))
  split
  · exact seg_again rfl lp'
  · first
      | exact seg_bind_wrap (wpAny_rule (seg_bind_wrap (wpAny_standAt (seg_bind_wrap ((Wk _ quiet0).self 0 t _ _ st (seg_again rfl lp'))))))
      | (refine seg_bind_wrap (wpAny_rule ?_)
         show Seg _ A _ _ _ t0 _ ((standAt iter2.pos >>= _).wrap _ _ _ _) _ t
         exact seg_bind_wrap (wpAny_standAt (seg_bind_wrap ((Wk _ quiet0).self 0 t _ _ st (seg_again rfl lp')))))
theorem seg_out {elt iter iter2 : Expr} {x y : Str} {px py : Pos} {scope : Scope} {pos : Pos} {I : Addr} {ce : Env} {keep fs : List Addr} {n : Nat} {m base : Nat → Nat} {Dr : Nat → Value → Prop} {Dr2 : Nat → Nat → Value → Prop} {St : Nat → Heap → Prop} {F : Nat → Value → Prop} {G : Heap → Prop} {P2 : Nat → Value → Shared → Prop} {fr : Option (List Env)}
    (quiet0 : A.handled = none) {D U : Nat} (frA : (A.over (lp elt x px iter y py iter2 scope pos ce 0 I) []).frames = fr) (qd : A.depth + 3 ≤ D) (qu : A.units + 9 ≤ U)
    (Wk : ∀ B : Around, B.handled = none → Walks prog w B I [I] [I] n Dr St) (IC : I ≠ ce.locals) (If : I ∉ fs) (Ik : I ∉ keep) (Ck : ce.locals ∉ keep)
    (G1 : ∀ h h' : Heap, G h → (∀ b o, b ∈ keep → h.get? b = some o → (b ∉ fs → h'.get? b = some o) ∧ ∃ sl, h'.get? b = some { o with slots := sl }) → G h') (Glow : ∀ h, G h → ∀ b, b ∈ fs ∨ b ∈ keep → b ≠ ce.locals → b < h.objs.size) (Slow : ∀ i h, St i h → I < h.objs.size)
    (kx : ce.kindOf x = some .local) (ky : ce.kindOf y = some .local) (plain : (ce.scope.kind == .class || (ce.scope.kind == .module && ce.locals != ce.globals)) = false) (noco : ce.scope.isCoroutine = false) (xy : x ≠ y)
    (b0 : base 0 = 0) (bS : ∀ i, base (i + 1) = base i + m i) (fold : ∀ v, foldedSetIterable iter2 ce v = pure v)
    (hin : ∀ (B : Around) Ex i v (t : Shared) mp, B.handled = none → B.frames = fr → B.depth ≤ D → B.units ≤ U → AllBare t.gens → i < n → Dr i v → G t.heap → t.heap.Ns ce.locals mp → mp x = some v → wpAny (model prog w) B (eval iter2 ce) (fun q t1 => KeptG fs t t1 ∧ P2 i q t1) Ex t)
    (hit : ∀ (B : Around) Ex i q (t : Shared), B.handled = none → P2 i q t → AllBare t.gens → wpAny (model prog w) B (pyIter q) (fun jt t2 => Inner prog w (Dr2 i) (m i) fs t t2 jt) Ex t)
    (hel : ∀ (B : Around) Ex i v j u (t : Shared) mp, B.handled = none → B.frames = fr → B.depth ≤ D → B.units ≤ U → AllBare t.gens → i < n → Dr i v → j < m i → Dr2 i j u → G t.heap → t.heap.Ns ce.locals mp → mp x = some v → mp y = some u → wpAny (model prog w) B (eval elt ce) (fun q t' => F (base i + j) q ∧ KeptG fs t t') Ex t) :
    ∀ (k i : Nat) (t0 t : Shared) (mp : Str → Option Value), n - i = k → i ≤ n → St i t.heap → G t.heap → t.heap.Ns ce.locals mp → SinceK keep fs t0 t →
      Seg (model prog w) A (endN keep fs) (protoN keep fs (base n) F) (base n - base i) t0 (lp elt x px iter y py iter2 scope pos ce 0 I) ((model prog w).den (lp elt x px iter y py iter2 scope pos ce 0 I)) [] t := by
  have q0 : (A.over (lp elt x px iter y py iter2 scope pos ce 0 I) []).handled = none := quiet0
  have mono : ∀ k i : Nat, base i ≤ base (i + k) := fun k => by
    induction k with
    | zero => exact fun i => Nat.le_refl _
    | succ k ih =>
      intro i
      have := ih i
      rw [← Nat.add_assoc, bS]
      omega
  intro k
  induction k with
  | zero =>
    intro i t0 t mp ek il st g ns since
    obtain rfl : i = n := by omega
    show Seg _ A _ _ _ t0 _ ((compTurn (gen2 elt x px iter y py iter2 scope pos) 0 (.ref I) .none ce).onRaise _) _ t
    rw [turn0, Sem.onRaise_eq_wrap, Nat.sub_self]
    refine seg_bind_wrap (wpAny_standAt (seg_bind_wrap ((Wk _ q0).done t _ _ st fun hp tk stay => ?_)))
    exact seg_end (.ok .next) ⟨rfl, rfl, since.step fun b hb o it => stay b o (fun z => Ik ((List.mem_singleton.mp z) ▸ hb)) it⟩
  | succ k again =>
    intro i t0 t mp ek il st g ns since
    have more : i < n := by omega
    show Seg _ A _ _ _ t0 _ ((compTurn (gen2 elt x px iter y py iter2 scope pos) 0 (.ref I) .none ce).onRaise _) _ t
    rw [turn0, Sem.onRaise_eq_wrap]
    refine seg_bind_wrap (wpAny_standAt (seg_bind_wrap ((Wk _ q0).item i t _ _ more st fun v ha ta drawn sta ka => ?_)))
    (refine seg_bind_wrap (wpAny_of_eq (rfl : letOwnedTupleGo (.Name x px) (.ref I) v = pure ()) ?_))
    refine seg_bind_wrap (wpAny_assign_Name (wpAny_storeName_local kx (ns.at' fun o it => ka _ o (by simpa using (Ne.symm IC)) it) (fun hb nsb sb => ?_) plain))
    have stayB : ∀ b o, b ≠ ce.locals → b ≠ I → t.heap.get? b = some o → hb.get? b = some o := fun b o nc nj it => sb.extBut b o nc (ka b o (by simpa using nj) it)
    have gB : G hb := G1 _ _ g fun b o hk it => ⟨fun _ => stayB b o (fun z => Ck (z ▸ hk)) (fun z => Ik (z ▸ hk)) it, o.slots, stayB b o (fun z => Ck (z ▸ hk)) (fun z => Ik (z ▸ hk)) it⟩
    have stB : St (i + 1) hb := (Wk _ q0).frame _ _ _ sta fun b hm o it => sb.extBut b o (fun z => IC (by rw [← z]; exact (List.mem_singleton.mp hm).symm)) it
    have sinceB : ∀ tk : Nat, SinceK keep fs t0 { t with heap := hb, toks := tk } := fun tk => since.step fun b hm o it => stayB b o (fun z => Ck (z ▸ hm)) (fun z => Ik (z ▸ hm)) it
    refine seg_bind_wrap (tests_none ?_)
    simp only [if_true]
    have dA : (A.over (lp elt x px iter y py iter2 scope pos ce 0 I) []).depth ≤ D := Nat.le_trans (Nat.le_of_eq rfl) (Nat.le_trans (Nat.le_add_right (A.depth + 1) 2) qd)
    have uA : (A.over (lp elt x px iter y py iter2 scope pos ce 0 I) []).units ≤ U := Nat.le_trans (Nat.le_of_eq rfl) (Nat.le_trans (Nat.le_add_right (A.units + 3) 6) qu)
    refine seg_bind_wrap (GenW.wpAny_gsz (n := t.gens.size) (Nat.le_refl _) (wpAny_mono (hin _ _ i v _ _ q0 frA dA uA since.bare more drawn gB nsb (by simp)) (fun q t1 h1 sz1 => ?_) fun _ _ z => z))
    obtain ⟨k1, p2⟩ := h1
    (refine seg_bind_wrap (wpAny_standAt ?_))
    refine seg_bind_wrap ?_
    show wpAny _ _ (foldedSetIterable iter2 ce q) _ _ t1
    rw [fold]
    refine wpAny_pure ?_
    (refine seg_bind_wrap (wpAny_holding ?_))
    show wpAny _ _ (pyIter q) _ _ t1
    refine GenW.wpAny_gsz (n := t1.gens.size) (Nat.le_refl _) (wpAny_mono (hit _ _ i q t1 q0 p2 k1.bare) (fun jt t2 h2 sz2 => ?_) fun _ _ z => z)
    obtain ⟨k2, J, St2, rfl, fresh, W2, st20⟩ := h2
    have fresh : t1.heap.objs.size ≤ (J : Nat) := fresh
    have g1 : G t1.heap := G1 _ _ gB fun b o _ it => k1.heap b o it
    have g2 : G t2.heap := G1 _ _ g1 fun b o _ it => k2.heap b o it
    have Wf : ∀ h h' : Heap, St (i + 1) h → (∀ b o, b = I → h.get? b = some o → h'.get? b = some o) → St (i + 1) h' := fun h h' s e => (Wk _ q0).frame _ _ _ s fun b hm o it => e b o (List.mem_singleton.mp hm) it
    have st1 : St (i + 1) t1.heap := Wf _ _ stB fun b o e it => (k1.heap b o it).1 (fun z => If (e ▸ z))
    have st2 : St (i + 1) t2.heap := Wf _ _ st1 fun b o e it => (k2.heap b o it).1 (fun z => If (e ▸ z))
    have ns1 := k1.heap.ns nsb
    have ns2 := k2.heap.ns ns1
    have JC : J ≠ ce.locals := fun z => by
      obtain ⟨o, es, ep, at_, dat, more⟩ := ns1
      have lt := Heap.lt_size at_
      exact absurd lt (Nat.not_lt.mpr (z ▸ fresh))
    have JI : J ≠ I := fun z => by
      exact absurd (Slow _ _ st1) (Nat.not_lt.mpr (z ▸ fresh))
    have Jf : J ∉ fs := fun z => by
      exact absurd (Glow _ g1 _ (.inl z) JC) (Nat.not_lt.mpr fresh)
    have Jk : J ∉ keep := fun z => by
      exact absurd (Glow _ g1 _ (.inr z) JC) (Nat.not_lt.mpr fresh)
    have le : base (i + 1) ≤ base n := by
      have := mono (n - (i + 1)) (i + 1)
      have e : i + 1 + (n - (i + 1)) = n := by omega
      rwa [e] at this
    have eb := bS i
    have cnt : base n - base i = m i - 0 + (base n - base (i + 1)) := by omega
    rw [cnt, Sem.bind_eq_wrap', Sem.wrap_wrap]
    unfold runOwn
    refine seg_call fun p => ?_
    refine seg_two (n := m i) (base := base i) (N := base n) (rest := base n - base (i + 1)) (Dr := Dr2 i) (St := St2) (F := F) (Ok := fun h => G h ∧ St (i + 1) h) (vx := v) (fr := fr) (D := D) (U := U) ?_ ?_ ?_ ?_ ?_ W2 JC Jf Jk Ck (fun h h' ok e => ⟨?_, ?_⟩) ky plain noco xy ?_ ?_ ?_ t0 t2 _ st20 ⟨g2, st2⟩ ns2 (by simp) (((sinceB _).more sz1 k1).more sz2 k2)
    · exact quiet0
    · exact quiet0
    · exact frA
    · refine Nat.le_trans (Nat.le_of_eq ?_) (Nat.le_trans (Nat.le_add_right (A.depth + 1) 2) qd)
      rfl
    · refine Nat.le_trans (Nat.le_of_eq ?_) (Nat.le_trans (Nat.le_add_right (A.units + 3) 6) qu)
      rfl
    · exact G1 _ _ ok.1 fun b o hk it => e b o (fun z => Ck (z ▸ hk)) (fun z => Jk (z ▸ hk)) it
    · exact Wf _ _ ok.2 fun b o eI it => (e b o (fun z => IC (eI.symm.trans z)) (fun z => JI (z.symm.trans eI)) it).1 (fun z => If (eI ▸ z))
    · omega
    · exact fun B Ex j u t' mp' hq hf hd hu hb jl dr ok n' hx hy => hel B Ex i v j u t' mp' hq hf hd hu hb more drawn jl dr ok.1 n' hx hy
    · exact fun t0' t' mp' ok n' since' => seg_again rfl (again (i + 1) t0' t' mp' (by omega) more ok.2 ok.1 n' since')
end
end V3
/-! A generator expression with two fors, walked from outside. -/
namespace V3
open PySem.Spec PySem L2 PyProof.Rows GxR
theorem SinceK.trans {keep fs : List Addr} {t t1 t2 : Shared} (p : SinceK keep fs t t1) (q : SinceK keep fs t1 t2) : SinceK keep fs t t2 :=
  ⟨q.os.trans p.os, q.bare, Nat.le_trans p.size q.size, fun b hb o it => by
    obtain ⟨p1, sl, p2⟩ := p.heap b hb o it
    obtain ⟨_, sl2, q2⟩ := q.heap b hb _ p2
    exact ⟨fun nf => (q.heap b hb o (p1 nf)).1 nf, sl2, q2⟩⟩
/-- what the maker knows of the two walks and of the element -/
structure Two (prog : Program) (w : World) (ce : Env) (elt iter2 : Expr) (x y : Str) (keep fs : List Addr) (n : Nat) (m base : Nat → Nat) (Dr : Nat → Value → Prop) (Dr2 : Nat → Nat → Value → Prop) (P2 : Nat → Value → Shared → Prop) (F : Nat → Value → Prop) (G : Heap → Prop) (fr : Option (List Env)) (D U : Nat) : Prop where
  G1 : ∀ h h' : Heap, G h → (∀ b o, b ∈ keep → h.get? b = some o → (b ∉ fs → h'.get? b = some o) ∧ ∃ sl, h'.get? b = some { o with slots := sl }) → G h'
  Glow : ∀ h, G h → ∀ b, b ∈ fs ∨ b ∈ keep → b ≠ ce.locals → b < h.objs.size
  hin : ∀ (B : Around) Ex i v (t : Shared) mp, B.handled = none → B.frames = fr → B.depth ≤ D → B.units ≤ U → AllBare t.gens → i < n → Dr i v → G t.heap → t.heap.Ns ce.locals mp → mp x = some v → wpAny (model prog w) B (eval iter2 ce) (fun q t1 => KeptG fs t t1 ∧ P2 i q t1) Ex t
  hit : ∀ (B : Around) Ex i q (t : Shared), B.handled = none → P2 i q t → AllBare t.gens → wpAny (model prog w) B (pyIter q) (fun jt t2 => Inner prog w (Dr2 i) (m i) fs t t2 jt) Ex t
  hel : ∀ (B : Around) Ex i v j u (t : Shared) mp, B.handled = none → B.frames = fr → B.depth ≤ D → B.units ≤ U → AllBare t.gens → i < n → Dr i v → j < m i → Dr2 i j u → G t.heap → t.heap.Ns ce.locals mp → mp x = some v → mp y = some u → wpAny (model prog w) B (eval elt ce) (fun q t' => F (base i + j) q ∧ KeptG fs t t') Ex t
section
variable {w : World} {prog : Program} {A : Around}
abbrev st2 (elt : Expr) (x : Str) (px : Pos) (iter : Expr) (y : Str) (py : Pos) (iter2 : Expr) (scope : Scope) (pos : Pos) (ce : Env) (I : Addr) : Code := .compStart (gen2 elt x px iter y py iter2 scope pos) 0 (.ref I) .none ce
theorem seg_first {elt iter iter2 : Expr} {x y : Str} {px py : Pos} {scope : Scope} {pos : Pos} {I : Addr} {ce : Env} {keep fs : List Addr} {n : Nat} {m base : Nat → Nat} {Dr : Nat → Value → Prop} {Dr2 : Nat → Nat → Value → Prop} {St : Nat → Heap → Prop} {F : Nat → Value → Prop} {G : Heap → Prop} {P2 : Nat → Value → Shared → Prop} {fr : Option (List Env)}
    (quiet0 : A.handled = none) {D U : Nat} (frA : (A.over (lp elt x px iter y py iter2 scope pos ce 0 I) []).frames = fr) (qd : A.depth + 3 ≤ D) (qu : A.units + 9 ≤ U)
    (Wk : ∀ B : Around, B.handled = none → Walks prog w B I [I] [I] n Dr St) (IC : I ≠ ce.locals) (If : I ∉ fs) (Ik : I ∉ keep) (Ck : ce.locals ∉ keep) (Slow : ∀ i h, St i h → I < h.objs.size)
    (kx : ce.kindOf x = some .local) (ky : ce.kindOf y = some .local) (plain : (ce.scope.kind == .class || (ce.scope.kind == .module && ce.locals != ce.globals)) = false) (noco : ce.scope.isCoroutine = false) (xy : x ≠ y)
    (b0 : base 0 = 0) (bS : ∀ i, base (i + 1) = base i + m i) (fold : ∀ v, foldedSetIterable iter2 ce v = pure v) (T : Two prog w ce elt iter2 x y keep fs n m base Dr Dr2 P2 F G fr D U)
    (t0 t : Shared) (mp : Str → Option Value) (st : St 0 t.heap) (g : G t.heap) (ns : t.heap.Ns ce.locals mp) (since : SinceK keep fs t0 t) :
    Seg (model prog w) A (endN keep fs) (protoN keep fs (base n) F) (base n) t0 (st2 elt x px iter y py iter2 scope pos ce I) ((model prog w).den (st2 elt x px iter y py iter2 scope pos ce I)) [] t := by
  have q0 : (A.over (st2 elt x px iter y py iter2 scope pos ce I) []).handled = none := quiet0
  have lp' := seg_out (iter := iter) (px := px) (py := py) (scope := scope) (pos := pos) quiet0 frA qd qu Wk IC If Ik Ck T.G1 T.Glow Slow kx ky plain noco xy b0 bS fold T.hin T.hit T.hel n 0 t0 t mp (Nat.sub_zero _) (Nat.zero_le _) st g ns since
  rw [b0, Nat.sub_zero] at lp'
  show Seg _ A _ _ _ t0 _ ((compStart (gen2 elt x px iter y py iter2 scope pos) 0 (.ref I) .none ce).onRaise _) _ t
  unfold compStart
  rw [Sem.onRaise_eq_wrap]
  show Seg _ A _ _ _ t0 _ ((ask >>= _).wrap _ _ _ _) _ t
  (refine seg_bind_wrap (wpAny_askSetting ?_))
  split
  · exact seg_again rfl lp'
  · first
      | exact seg_bind_wrap (wpAny_rule (seg_bind_wrap (wpAny_standAt (seg_bind_wrap ((Wk _ q0).self 0 t _ _ st (seg_again rfl lp'))))))
      | (refine seg_bind_wrap (wpAny_rule ?_)
         show Seg _ A _ _ _ t0 _ ((standAt iter.pos >>= _).wrap _ _ _ _) _ t
         exact seg_bind_wrap (wpAny_standAt (seg_bind_wrap ((Wk _ q0).self 0 t _ _ st (seg_again rfl lp')))))
/-- the generator at a, number g, before its j-th thing of N -/
def AtN (prog : Program) (w : World) (A : Around) (a : Addr) (g : Nat) (keep fs : List Addr) (N : Nat) (F : Nat → Value → Prop) (j : Nat) (t : Shared) : Prop :=
  t.heap.IsGen a g ∧ t.heap.NoLimit ∧ AllBare t.gens ∧ ∃ gs, t.gens[g]? = some gs ∧ ∀ u : Shared, (∀ b o, t.heap.get? b = some o → u.heap.get? b = some o) → AllBare u.gens →
    gs.Goes (model prog w) A.in1 (endN keep fs) (protoN keep fs N F) (N - j) (.send .none) u
structure WalksN (prog : Program) (w : World) (A : Around) (a : Addr) (keep fs : List Addr) (N : Nat) (F : Nat → Value → Prop) (St : Nat → Shared → Prop) : Prop where
  item : ∀ i (t : Shared) (Q : Option Value → Shared → Prop) (E : Value → Shared → Prop), i < N → St i t → (∀ v t', F i v → St (i + 1) t' → SinceK keep fs t t' → Q (some v) t') → wpAny (model prog w) A (pyNext (.ref a)) Q E t
  done : ∀ (t : Shared) (Q : Option Value → Shared → Prop) (E : Value → Shared → Prop), St N t → (∀ t', SinceK keep fs t t' → Q none t') → wpAny (model prog w) A (pyNext (.ref a)) Q E t
  self : ∀ (t : Shared) (Q : Value → Shared → Prop) (E : Value → Shared → Prop), St 0 t → Q (.ref a) t → wpAny (model prog w) A (pyIter (.ref a)) Q E t
theorem walksN (quiet0 : A.handled = none) (a : Addr) (g : Nat) (keep fs : List Addr) (N : Nat) (F : Nat → Value → Prop) (ak : a ∈ keep) (af : a ∉ fs) (room : A.depth < recursionLimit) (ck : cStatics ∈ keep) (cf : cStatics ∉ fs) :
    WalksN prog w A a keep fs N F (AtN prog w A a g keep fs N F) where
  item := fun j t Q E jl st want => by
    obtain ⟨gen, lim, bare, gs, at_, goes⟩ := st
    obtain ⟨r, hr⟩ : ∃ r, N - j = r + 1 := ⟨N - j - 1, by omega⟩
    rw [hr] at goes
    have gl : g < t.gens.size := (Array.getElem?_eq_some_iff.mp at_).1
    refine wpAny_pyNext_genexpQ (P := fun k t0 t1 => k = 0 ∧ SinceK keep fs t0 t1) quiet0 lim room gen at_ (goes _ (fun _ _ it => it) (bare_set bare rfl)) (fun v t1 gs1 b1 told => ?_) (fun t1 ended hp keep => ?_)
    · obtain ⟨fv, since, go⟩ := told
      rw [show N - 1 - (r + 1 - 1) = j by omega] at fv
      have big := since.size
      rw [set_size] at big
      have gl1 : g < t1.gens.size := Nat.lt_of_lt_of_le gl big
      have g1 : (t1.setGen g gs1).gens[g]? = some gs1 := set_at gl1
      obtain ⟨o, nm, qn, ho, more⟩ := gen
      obtain ⟨mc, nsc, nol⟩ := lim
      refine want v _ fv ⟨⟨o, nm, qn, (since.heap a ak o ho).1 af, more⟩, ⟨mc, nsc.at' fun o it => (since.heap cStatics ck o it).1 cf, nol⟩, bare_set since.bare b1, gs1, g1, fun u hal bu => ?_⟩
        ⟨since.os, bare_set since.bare b1, by rw [set_size]; exact big, fun b hb o it => since.heap b hb o it⟩
      rw [show N - (j + 1) = r by omega]
      exact go u hal bu
    · exact absurd ended.1 (Nat.succ_ne_zero r)
  done := fun t Q E st want => by
    obtain ⟨gen, lim, bare, gs, at_, goes⟩ := st
    rw [Nat.sub_self] at goes
    refine wpAny_pyNext_genexpQ (P := fun k t0 t1 => k = 0 ∧ SinceK keep fs t0 t1) quiet0 lim room gen at_ (goes _ (fun _ _ it => it) (bare_set bare rfl)) (fun v t1 gs1 b1 told => ?_) (fun t1 ended hp kp => ?_)
    · obtain ⟨_, since, go⟩ := told
      exact (go t1 (fun _ _ it => it) since.bare).elim
    · obtain ⟨_, since⟩ := ended
      have big := since.size
      rw [set_size] at big
      exact want _ ⟨since.os, bare_set since.bare rfl, by show t.gens.size ≤ (t1.setGen g .finished).gens.size; rw [set_size]; exact big, fun b hb o it => by
        obtain ⟨p1, sl, p2⟩ := since.heap b hb o it
        exact ⟨fun nf => kp b o (p1 nf), sl, kp b _ p2⟩⟩
  self := fun _ _ _ st want => wpAny_pyIter_gen st.1 want
theorem WalksN.down {I : Addr} {keep fs : List Addr} {n : Nat} {P : Nat → Value → Prop} {St : Nat → Shared → Prop} (Wk : WalksN prog w A.in1 I keep fs n P St) : WalksN prog w A I keep fs n P St :=
  ⟨fun i t Q E il st k => wpAny_of_in1 (Wk.item i t Q E il st k), fun t Q E st k => wpAny_of_in1 (Wk.done t Q E st k), fun t Q E st k => wpAny_of_in1 (Wk.self t Q E st k)⟩
theorem WalksN.in4 {I : Addr} {keep fs : List Addr} {n : Nat} {P : Nat → Value → Prop} {St : Nat → Shared → Prop} (Wk : WalksN prog w A.in4 I keep fs n P St) : WalksN prog w A.in1 I keep fs n P St :=
  WalksN.down (A := A.in1) (WalksN.down (A := A.in1.in1) (WalksN.down (A := A.in1.in1.in1) Wk))
/-- all(..) over such a walk of truths -/
theorem all_loopN {I : Addr} {keep fs : List Addr} {n : Nat} {P : Nat → Value → Prop} {St : Nat → Shared → Prop} {R : Result → Shared → Prop} (Wk : WalksN prog w A.in1 I keep fs n P St) (tr : Nat → Bool) (isB : ∀ i v, P i v → v = .bool (tr i)) :
    ∀ (k i : Nat) (t : Shared), n - i = k → i ≤ n → St i t → (∀ t', SinceK keep fs t t' → R (.ok (.ret (.bool (((List.range n).drop i).all tr)))) t') → codeAny (model prog w) A (.builtin "all.loop" ⟨[.ref I], []⟩) R t := by
  intro k
  induction k with
  | zero =>
    intro i t ek il st want
    obtain rfl : i = n := by omega
    (refine codeAny_builtin F.entry_all_loop ?_)
    (rw [Around.under_plainId F.plain_all_loop _])
    show wpAny _ A.in1 (pyNext (.ref I) >>= _) _ _ t
    refine wpAny_bind (Wk.done t _ _ st fun t' mv => wpAny_bind (wpAny_rule (wpAny_pure ?_)))
    have z := want t' mv
    rw [List.drop_of_length_le (Nat.le_of_eq List.length_range)] at z
    exact z
  | succ k again =>
    intro i t ek il st want
    have lt : i < n := by omega
    have cut : (List.range n).drop i = i :: (List.range n).drop (i + 1) := range_drop lt
    (refine codeAny_builtin F.entry_all_loop ?_)
    (rw [Around.under_plainId F.plain_all_loop _])
    show wpAny _ A.in1 (pyNext (.ref I) >>= _) _ _ t
    refine wpAny_bind (Wk.item i t _ _ lt st fun v t' pv st' mv => ?_)
    rw [isB i v pv]
    (refine wpAny_bind (wpAny_holding (wpAny_truthy_bool ?_)))
    (refine wpAny_bind (wpAny_letGo ?_))
    rw [cut] at want
    cases eb : tr i with
    | true =>
      simp only [if_true]
      refine wpAny_pure ⟨plainId_quiet F.plain_all_loop _, again (i + 1) _ (by omega) lt st' fun t2 mv2 => ?_⟩
      have z := want t2 (mv.trans mv2)
      rw [List.all_cons, eb, Bool.true_and] at z
      exact z
    | false =>
      simp only [Bool.false_eq_true, if_false, ite_false]
      (refine wpAny_bind (wpAny_rule (wpAny_pure ?_)))
      have z := want t' mv
      rw [List.all_cons, eb, Bool.false_and] at z
      exact z
theorem call_allN {E : Value → Shared → Prop} {s : Shared} {x : Value} {Q : Value → Shared → Prop}
    (h : wpAny (model prog w) A.in1 (pyIter x) (fun it t => ∃ I keep fs n P St tr, it = .ref I ∧ WalksN prog w A.in1 I keep fs n P St ∧ St 0 t ∧ (∀ i v, P i v → v = .bool (tr i)) ∧ ∀ t', SinceK keep fs t t' → Q (.bool ((List.range n).all tr)) t') E s) :
    (wpAny (model prog w) A (call (.builtin "all") [x]) Q E s) := by
  (refine call_function_tree F.kind_all F.plain_all F.entry_all (F.args_all1 _) ?_)
  unfold Builtin.«all»
  (refine wpAny_bind (m := oneArg "all" _) (wpAny_pure ?_))
  refine wpAny_bind (wpAny_mono h (fun it t ht => ?_) fun _ _ z => z)
  obtain ⟨I, keep, fs, n, P, St, tr, rfl, Wk, st, isB, want⟩ := ht
  exact wpAny_pure ⟨plainId_quiet F.plain_all_loop _, all_loopN Wk tr isB n 0 t rfl (Nat.zero_le _) st fun t' mv => by simpa using want t' mv⟩
end
end V3
/-! The making of a generator expression with two fors. -/
namespace V3
open PySem.Spec PySem L2 PyProof.Rows GxR
section
variable {w : World} {prog : Program} {A : Around} {E : Value → Shared → Prop} {s : Shared}
theorem eval_gen2 (elt : Expr) (x : Str) (px : Pos) (iter : Expr) (y : Str) (py : Pos) (iter2 : Expr) (scope : Scope) (pos : Pos) (env : Env) (noco : scope.isCoroutine = false) :
    eval (gen2 elt x px iter y py iter2 scope pos) env = (eval iter env >>= fun a => standAt iter.pos >>= fun _ => genFold iter env a >>= fun b => holding [b] (pyIter b) >>= fun it => enterFrame >>= fun _ =>
      closureFor scope env >>= fun cl => genexprCode env pos (env.qual ++ "<genexpr>") scope >>= fun code => builtinsFor env.globals env.builtins >>= fun bi =>
      newFunctionEnv scope env.globals cl [(".0", it)] (env.qual ++ "<genexpr>.") none code none bi >>= fun ce => newGenerator (.compStart (gen2 elt x px iter y py iter2 scope pos) 0 it .none ce) "<genexpr>" (env.qual ++ "<genexpr>")) := by
  unfold gen2
  rw [arm_eval_GeneratorExp]
  simp only [noco, Bool.false_eq_true, if_false]
  cases iter <;> rfl
theorem make2 {env : Env} {elt iter iter2 : Expr} {x y : Str} {px py : Pos} {scope : Scope} {cl : List (Str × Addr)} {pos : Pos} {Q : Value → Shared → Prop}
    (noco : scope.isCoroutine = false) (clo : closureFor scope env = pure cl) (nocell : ∀ z ∈ scope.names, z.2 ≠ .cell) (dot0 : scope.names.lookup (".0" : Str) = some NameKind.local) (kd : scope.kind = .function) (room : A.depth < recursionLimit)
    (h : wpAny (model prog w) A (eval iter env) (fun xv t1 => wpAny (model prog w) A (pyIter xv) (fun it t2 => t2.heap.NoLimit ∧
      wpAny (model prog w) A (genexprCode env pos (env.qual ++ "<genexpr>") scope) (fun code t3 => wpAny (model prog w) A (builtinsFor env.globals env.builtins) (fun bi t4 =>
        ∀ hp, hp.Ns t4.heap.objs.size (fun z => if z = ".0" then some it else none) → Heap.SameBut t4.heap.objs.size (t4.heap.push { cls := .type "frame", data := .dict #[] }) hp →
          Q (.ref hp.objs.size) { t4 with gens := t4.gens.push (.fresh (.compStart (gen2 elt x px iter y py iter2 scope pos) 0 it .none (genEnv scope cl t4.heap.objs.size code bi env))), toks := t4.toks + 1 + 1 + 1, heap := hp.push { cls := .type "generator", data := .fields #[.int t4.gens.size 0, .str "<genexpr>" (t4.toks + 1), .str (env.qual ++ "<genexpr>") (t4.toks + 1 + 1)] } }) E t3) E t2) E t1) E s)
    (nofold : ∀ v, genFold iter env v = pure v) : wpAny (model prog w) A (eval (gen2 elt x px iter y py iter2 scope pos) env) Q E s := by
  rw [eval_gen2 _ _ _ _ _ _ _ _ _ _ noco, clo]
  refine wpAny_bind (wpAny_mono h (fun xv t1 a1 => ?_) fun _ _ z => z)
  refine wpAny_bind (wpAny_standAt (wpAny_bind (wpAny_of_eq (nofold xv) (wpAny_bind (wpAny_holding (wpAny_mono a1 (fun it t2 a2 => ?_) fun _ _ z => z))))))
  refine wpAny_bind (wpAny_enterFrame a2.1 room (wpAny_bind (wpAny_pure (wpAny_bind (wpAny_mono a2.2 (fun code t3 a3 => wpAny_bind (wpAny_mono a3 (fun bi t4 a4 => ?_) fun _ _ z => z)) fun _ _ z => z)))))
  have loc : ∀ z ∈ ([((".0" : Str), it)] : List (Str × Value)), scope.names.lookup z.1 = some NameKind.local := fun z hz => by
    rw [List.mem_singleton.mp hz]
    exact dot0
  refine wpAny_bind (wpAny_newFunctionEnv nocell loc (fun hp n same => ?_) kd)
  have same1 : (fun z : Str => ([((".0" : Str), it)] : List (Str × Value)).reverse.lookup z) = fun z : Str => if z = (".0" : Str) then some it else none := by
    funext z
    by_cases e : z = ".0"
    · rw [e]
      simp
    · have b : (z == (".0" : Str)) = false := by simpa using e
      simp [List.lookup, b, e]
  rw [same1] at n
  (simp only [newGenerator, newFields])
  exact wpAny_bind (wpAny_newGen (wpAny_bind (wpAny_mkText (wpAny_bind (wpAny_mkText (wpAny_newObj_type (a4 hp n same) (by size_fits)))))))
end
end V3
namespace V3
open PySem.Spec PySem L2 PyProof.Rows GxR
/-- of the heap ref all but I stands, of the frames fs all but the slots -/
def KT (ref : Heap) (I : Addr) (fs : List Addr) (h : Heap) : Prop := ∀ b o, b ≠ I → ref.get? b = some o → (b ∉ fs → h.get? b = some o) ∧ ∃ sl, h.get? b = some { o with slots := sl }
def live (h : Heap) (I : Addr) : List Addr := (List.range h.objs.size).filter fun b => b != I && (h.get? b).isSome
theorem mem_live {h : Heap} {I b : Addr} : b ∈ live h I ↔ b ≠ I ∧ ∃ o, h.get? b = some o := by
  unfold live
  rw [List.mem_filter, List.mem_range, Bool.and_eq_true, bne_iff_ne, Option.isSome_iff_exists]
  exact ⟨fun z => z.2, fun z => ⟨by obtain ⟨_, o, e⟩ := z; exact Heap.lt_size e, z⟩⟩
section
variable {w : World} {prog : Program} {A : Around} {E : Value → Shared → Prop} {s : Shared}
theorem AtN.fresh {elt iter iter2 : Expr} {x y : Str} {px py : Pos} {scope : Scope} {pos : Pos} {I a : Addr} {g : Nat} {ce : Env} {keep fs : List Addr} {n : Nat} {m base : Nat → Nat} {Dr : Nat → Value → Prop} {Dr2 : Nat → Nat → Value → Prop} {St : Nat → Heap → Prop} {F : Nat → Value → Prop} {P2 : Nat → Value → Shared → Prop} {fr : Option (List Env)} {G : Heap → Prop}
    (quiet0 : A.handled = none) {D U : Nat} (frA : (A.in1.over (lp elt x px iter y py iter2 scope pos ce 0 I) []).frames = fr) (qd : A.depth + 3 ≤ D) (qu : A.units + 10 ≤ U)
    (Wk : ∀ B : Around, B.handled = none → Walks prog w B I [I] [I] n Dr St) (IC : I ≠ ce.locals) (If : I ∉ fs) (Ik : I ∉ keep) (Ck : ce.locals ∉ keep) (Slow : ∀ i h, St i h → I < h.objs.size)
    (kx : ce.kindOf x = some .local) (ky : ce.kindOf y = some .local) (plain : (ce.scope.kind == .class || (ce.scope.kind == .module && ce.locals != ce.globals)) = false) (noco : ce.scope.isCoroutine = false) (xy : x ≠ y)
    (b0 : base 0 = 0) (bS : ∀ i, base (i + 1) = base i + m i) (fold : ∀ v, foldedSetIterable iter2 ce v = pure v) (T : Two prog w ce elt iter2 x y keep fs n m base Dr Dr2 P2 F G fr D U)
    {t : Shared} {mp : Str → Option Value} (gen : t.heap.IsGen a g) (new : t.gens[g]? = some (.fresh (st2 elt x px iter y py iter2 scope pos ce I))) (st : St 0 t.heap) (ns : t.heap.Ns ce.locals mp) (lim : t.heap.NoLimit) (bare : AllBare t.gens)
    (gt : ∀ h : Heap, (∀ b o, t.heap.get? b = some o → h.get? b = some o) → G h) : AtN prog w A a g keep fs (base n) F 0 t :=
  ⟨gen, lim, bare, _, new, fun u hal bu => ⟨rfl, seg_first (A := A.in1) quiet0 frA qd (by show A.units + 1 + 9 ≤ U; omega) Wk IC If Ik Ck Slow kx ky plain noco xy b0 bS fold T u u mp ((Wk A quiet0).frame _ _ _ st fun b _ o it => hal b o it) (gt _ hal) (ns.at' fun o it => hal _ o it) (SinceK.refl bu)⟩⟩
/-- what the maker of such a generator has to know, behind the code object and the builtins -/
def MadeN (prog : Program) (w : World) (A : Around) (env : Env) (elt iter : Expr) (x : Str) (px : Pos) (y : Str) (py : Pos) (iter2 : Expr) (scope : Scope) (cl : List (Str × Addr)) (pos : Pos) (Q : Value → Shared → Prop) (it code : Value) (bi : Addr) (t : Shared) : Prop :=
  AllBare t.gens ∧ ∃ (I : Addr) (fs : List Addr) (n : Nat) (m base : Nat → Nat) (Dr : Nat → Value → Prop) (Dr2 : Nat → Nat → Value → Prop) (P2 : Nat → Value → Shared → Prop) (St : Nat → Heap → Prop) (F : Nat → Value → Prop), it = .ref I ∧ (∀ B : Around, B.handled = none → Walks prog w B I [I] [I] n Dr St) ∧ St 0 t.heap ∧
    (∀ i h, St i h → I < h.objs.size) ∧ t.heap.NoLimit ∧ cStatics ≠ I ∧ (∀ b ∈ fs, b = t.heap.objs.size ∨ ∃ o, t.heap.get? b = some o) ∧ I ∉ fs ∧ cStatics ∉ fs ∧ base 0 = 0 ∧ (∀ i, base (i + 1) = base i + m i) ∧ (∀ v, foldedSetIterable iter2 (genEnv scope cl t.heap.objs.size code bi env) v = pure v) ∧
    (∀ (B : Around) Ex i v (u : Shared) mp, B.handled = none → B.frames = (A.in4.in1.over (lp elt x px iter y py iter2 scope pos (genEnv scope cl t.heap.objs.size code bi env) 0 I) []).frames → B.depth ≤ A.depth + 3 → B.units ≤ A.units + 14 → AllBare u.gens → i < n → Dr i v → KT t.heap I fs u.heap → u.heap.Ns t.heap.objs.size mp → mp x = some v →
      wpAny (model prog w) B (eval iter2 (genEnv scope cl t.heap.objs.size code bi env)) (fun q t1 => KeptG fs u t1 ∧ P2 i q t1) Ex u) ∧
    (∀ (B : Around) Ex i q (u : Shared), B.handled = none → P2 i q u → AllBare u.gens → wpAny (model prog w) B (pyIter q) (fun jt t2 => Inner prog w (Dr2 i) (m i) fs u t2 jt) Ex u) ∧
    (∀ (B : Around) Ex i v j z (u : Shared) mp, B.handled = none → B.frames = (A.in4.in1.over (lp elt x px iter y py iter2 scope pos (genEnv scope cl t.heap.objs.size code bi env) 0 I) []).frames → B.depth ≤ A.depth + 3 → B.units ≤ A.units + 14 → AllBare u.gens → i < n → Dr i v → j < m i → Dr2 i j z → KT t.heap I fs u.heap → u.heap.Ns t.heap.objs.size mp → mp x = some v → mp y = some z →
      wpAny (model prog w) B (eval elt (genEnv scope cl t.heap.objs.size code bi env)) (fun q t1 => F (base i + j) q ∧ KeptG fs u t1) Ex u) ∧
    ∀ a hp tk gs keep, gs.bare = true → t.heap.objs.size < a → hp.objs.size = a + 1 → (∀ b o, t.heap.get? b = some o → hp.get? b = some o) → (∀ b o, b ≠ I → t.heap.get? b = some o → b ∈ keep) →
      WalksN prog w A.in4 a keep fs (base n) F (AtN prog w A.in4 a t.gens.size keep fs (base n) F) →
      AtN prog w A.in4 a t.gens.size keep fs (base n) F 0 { t with gens := t.gens.push gs, toks := tk, heap := hp } → Q (.ref a) { t with gens := t.gens.push gs, toks := tk, heap := hp }
theorem genexpN {env : Env} {elt iter iter2 : Expr} {x y : Str} {px py : Pos} {scope : Scope} {cl : List (Str × Addr)} {pos : Pos} {Q : Value → Shared → Prop}
    (quiet0 : A.handled = none) (noco : scope.isCoroutine = false) (clo : closureFor scope env = pure cl) (nocell : ∀ z ∈ scope.names, z.2 ≠ .cell) (dot0 : scope.names.lookup (".0" : Str) = some NameKind.local)
    (kx : scope.names.lookup x = some .local) (ky : scope.names.lookup y = some .local) (xy : x ≠ y) (kd : scope.kind = .function) (room : A.depth < recursionLimit)
    (h : wpAny (model prog w) A (eval iter env) (fun xv t1 => wpAny (model prog w) A (pyIter xv) (fun it t2 => t2.heap.NoLimit ∧
      wpAny (model prog w) A (genexprCode env pos (env.qual ++ "<genexpr>") scope) (fun code t3 => wpAny (model prog w) A (builtinsFor env.globals env.builtins) (fun bi t4 => MadeN prog w A env elt iter x px y py iter2 scope cl pos Q it code bi t4) E t3) E t2) E t1) E s)
    (nofold : ∀ v, genFold iter env v = pure v) : wpAny (model prog w) A (eval (gen2 elt x px iter y py iter2 scope pos) env) Q E s := by
  refine make2 noco clo nocell dot0 kd room (wpAny_mono h (fun xv t1 a1 => wpAny_mono a1 (fun it t2 a2 => ⟨a2.1, wpAny_mono a2.2 (fun code t3 a3 => wpAny_mono a3 (fun bi t4 a4 => ?_) fun _ _ z => z) fun _ _ z => z⟩) fun _ _ z => z) fun _ _ z => z) nofold
  obtain ⟨bare, I, fs, n, m, base, Dr, Dr2, P2, St, F, rfl, Wk, st, slow, lim, csI, liveF, If, csF, b0, bS, fold, hin, hit, hel, want⟩ := a4
  have csAt : ∃ o, t4.heap.get? cStatics = some o := by
    obtain ⟨_, q, _⟩ := lim
    obtain ⟨o, _, _, at_, _⟩ := q
    exact ⟨o, at_⟩
  intro hp nsp same
  have sz : hp.objs.size = t4.heap.objs.size + 1 := by rw [same.1, Heap.size_push]
  have ne5 : ∀ b o, t4.heap.get? b = some o → hp.get? b = some o := fun b o it => same.extBut b o (Nat.ne_of_lt (Heap.lt_size it)) (Heap.get?_push_of_some _ it)
  have keep5 : ∀ b o, t4.heap.get? b = some o → (hp.push { cls := .type "generator", data := .fields #[.int t4.gens.size 0, .str "<genexpr>" (t4.toks + 1), .str (env.qual ++ "<genexpr>") (t4.toks + 1 + 1)] }).get? b = some o :=
    fun b o it => Heap.get?_push_of_some _ (ne5 b o it)
  have IL : I < t4.heap.objs.size := slow _ _ st
  have aF : hp.objs.size ∉ fs := fun z => by
    rcases liveF _ z with e | ⟨o, e⟩
    · rw [sz] at e
      exact Nat.succ_ne_self _ e
    · have lt := Heap.lt_size e
      rw [sz] at lt
      exact Nat.lt_irrefl _ (Nat.lt_of_succ_lt lt)
  have aI : hp.objs.size ≠ I := fun z => by
    rw [← z, sz] at IL
    exact Nat.lt_irrefl _ (Nat.lt_of_succ_lt IL)
  have inK : ∀ b o, b ≠ I → t4.heap.get? b = some o → b ∈ hp.objs.size :: live t4.heap I := fun b o ne it => List.mem_cons_of_mem _ (mem_live.mpr ⟨ne, o, it⟩)
  have Ck : t4.heap.objs.size ∉ hp.objs.size :: live t4.heap I := fun z => by
    rcases List.mem_cons.mp z with e | e
    · rw [sz] at e
      exact Nat.succ_ne_self _ e.symm
    · obtain ⟨_, o, q⟩ := mem_live.mp e
      exact Nat.lt_irrefl _ (Heap.lt_size q)
  have Ik : I ∉ hp.objs.size :: live t4.heap I := fun z => by
    rcases List.mem_cons.mp z with e | e
    · exact aI e.symm
    · exact (mem_live.mp e).1 rfl
  obtain ⟨oC, csO⟩ := csAt
  refine want _ _ _ _ (hp.objs.size :: live t4.heap I) rfl (by omega) (by rw [Heap.size_push]) keep5 inK (walksN (A := A.in4) quiet0 _ _ _ fs _ F (List.mem_cons_self ..) aF room (inK _ _ csI csO) csF) ?_
  obtain ⟨hq, ehq⟩ : ∃ hq : Heap, hq = hp.push { cls := .type "generator", data := .fields #[.int t4.gens.size 0, .str "<genexpr>" (t4.toks + 1), .str (env.qual ++ "<genexpr>") (t4.toks + 1 + 1)] } := ⟨_, rfl⟩
  have atA : ∃ o, hq.get? hp.objs.size = some o := ⟨_, by rw [ehq]; exact Heap.get?_push_size _ rfl⟩
  have all : ∀ b ∈ hp.objs.size :: live t4.heap I, ∃ o, hq.get? b = some o := fun b hb => by
    rcases List.mem_cons.mp hb with (e | e)
    · rw [e]
      exact atA
    · obtain ⟨_, o, q⟩ := mem_live.mp e
      exact ⟨o, by rw [ehq]; exact keep5 b o q⟩
  have down : ∀ u : Heap, (∀ b ∈ hp.objs.size :: live t4.heap I, ∀ o, hq.get? b = some o → (b ∉ fs → u.get? b = some o) ∧ ∃ sl, u.get? b = some { o with slots := sl }) → KT t4.heap I fs u := fun u k b o ne it => k b (inK b o ne it) o (by rw [ehq]; exact keep5 b o it)
  refine AtN.fresh (A := A.in4) (ce := genEnv scope cl t4.heap.objs.size code bi env) (mp := fun z => if z = ".0" then some (.ref I) else none) (D := A.depth + 3) (U := A.units + 14) (m := m) (Dr2 := Dr2) (P2 := P2)
    (G := fun u => ∀ b ∈ hp.objs.size :: live t4.heap I, ∀ o, hq.get? b = some o → (b ∉ fs → u.get? b = some o) ∧ ∃ sl, u.get? b = some { o with slots := sl })
    quiet0 rfl (Nat.le_refl _) (Nat.le_refl _) Wk (Nat.ne_of_lt IL) If Ik Ck slow kx ky (by simp [genEnv, kd]) noco xy b0 bS fold ⟨?_, ?_, ?_, hit, ?_⟩ ⟨_, _, _, Heap.get?_push_size _ rfl, rfl, rfl, rfl⟩ (Array.getElem?_push_size ..) ((Wk A quiet0).frame _ _ _ st fun b _ o it => keep5 b o it) (nsp.push _) (lim.keeps keep5) (bare.push rfl) ?_
  · intro u u2 g k b hb o it
    obtain ⟨p1, sl, p2⟩ := g b hb o it
    obtain ⟨_, sl2, q2⟩ := k b _ hb p2
    exact ⟨fun nf => (k b o hb (p1 nf)).1 nf, sl2, q2⟩
  · intro u g b hb nC
    have hk : b ∈ hp.objs.size :: live t4.heap I := hb.elim (fun z => (liveF b z).elim (fun e => absurd e nC) fun e => by
      obtain ⟨o, q⟩ := e
      exact inK b o (fun e2 => If (e2 ▸ z)) q) id
    obtain ⟨o, q⟩ := all b hk
    obtain ⟨_, sl, z⟩ := g b hk o q
    exact Heap.lt_size z
  · exact fun B Ex i v u mp q1 q2 q3 q4 q5 q6 q7 q8 q9 q10 => hin B Ex i v u mp q1 q2 q3 q4 q5 q6 q7 (down _ q8) q9 q10
  · exact fun B Ex i v j z u mp q1 q2 q3 q4 q5 q6 q7 q8 q9 q10 q11 q12 q13 => hel B Ex i v j z u mp q1 q2 q3 q4 q5 q6 q7 q8 q9 (down _ q10) q11 q12 q13
  · intro u k b hb o it
    have e := k b o (by rw [← ehq]; exact it)
    exact ⟨fun _ => e, o.slots, e⟩
end
end V3
/-! v[i][j] == v[j][i] and range(i), whatever the frame. -/
namespace V3
open PySem.Spec PySem L2 PyProof.Rows GxR
section
variable {w : World} {prog : Program} {B : Around} {E : Value → Shared → Prop} {t : Shared} {env : Env}
/-- a name (or what else) whose value is known, read without any change -/
def Gives (prog : Program) (w : World) (B : Around) (E : Value → Shared → Prop) (env : Env) (e : Expr) (u : Value) (t : Shared) : Prop := ∀ Q : Value → Shared → Prop, Q u t → wpAny (model prog w) B (eval e env) Q E t
theorem item_of {a b : Expr} {p : Pos} {V : Addr} {its : Array Value} {i : Nat} {ti : Tok} {x : Value} (ga : Gives prog w B E env a (.ref V) t) (gb : Gives prog w B E env b (.int i ti) t) (hs : PlainIx b) (hV : IsTup t.heap V its) (small : its.size < 2 ^ 63) (hx : its[i]? = some x) :
    Gives prog w B E env (.Subscript a b p) x t := by
  intro Q q
  have lt : i < its.size := (Array.getElem?_eq_some_iff.mp hx).1
  refine Subscript_ (ga _ (gb _ (subscriptTail_builtinR (x := x) hV.typeIs slot_tuple_getitem.lookup (getItem_tuple (j := i) hV (by omega) (by omega) ?_ hx ⟨rfl, q⟩) (hs _ _))))
  have e : seqIndex? (i : Int) its.size = some (i : Int).toNat := PySem.StrLaws.seqIndex_nonneg (by omega) (by omega)
  rw [e]
  rfl
theorem eq_cross {a a2 b b2 c c2 : Expr} {p1 p2 p3 p4 p5 : Pos} {V Ri Rj : Addr} {rows ci cj : Array Value} {i j : Nat} {ti tj : Tok} {u u2 : Value} {d d2 : PyData} {as bs : List Addr} {Q : Value → Shared → Prop}
    (ga : Gives prog w B E env a (.ref V) t) (ga2 : Gives prog w B E env a2 (.ref V) t) (gb : Gives prog w B E env b (.int i ti) t) (gb2 : Gives prog w B E env b2 (.int i ti) t) (gc : Gives prog w B E env c (.int j tj) t) (gc2 : Gives prog w B E env c2 (.int j tj) t)
    (pb : PlainIx b) (pb2 : PlainIx b2) (pc : PlainIx c) (pc2 : PlainIx c2) (hV : IsTup t.heap V rows) (s0 : rows.size < 2 ^ 63) (hi : rows[i]? = some (.ref Ri)) (hj : rows[j]? = some (.ref Rj)) (hRi : IsTup t.heap Ri ci) (s1 : ci.size < 2 ^ 63) (hRj : IsTup t.heap Rj cj) (s2 : cj.size < 2 ^ 63)
    (hu : ci[j]? = some u) (hu2 : cj[i]? = some u2) (r1 : Reads t.heap u d as) (r2 : Reads t.heap u2 d2 bs) (sd : SeqAt.shaped d = true) (sd2 : SeqAt.shaped d2 = true) (un : B.units + 64 < cLine) (q : Q (.bool (PyData.eqv d d2)) t) (hm : behindInMarks .Eq (.Subscript (.Subscript a2 c2 p3) b2 p4) = false) :
    wpAny (model prog w) B (eval (.Compare (.Subscript (.Subscript a b p1) c p2) [.Eq] [.Subscript (.Subscript a2 c2 p3) b2 p4] p5) env) Q E t :=
  wpAny_Compare1 (item_of (item_of ga gb pb hV s0 hi) gc pc hRi s1 hu _ (item_of (item_of ga2 gc2 pc2 hV s0 hj) gb2 pb2 hRj s2 hu2 _ (SeqAt.compareEq_shaped r1 r2 sd sd2 un q))) hm
/-- range(i), called as a type with one whole number, and walked -/
theorem range_called {i : Nat} {ti : Tok} {Q : Value → Shared → Prop} (h : ∀ (R : Addr) (t1 : Shared) (tv tw : Tok), KeptG [] t t1 → IsRange t1.heap R 0 i 1 tv ti tw → AllBare t1.gens → Q (.ref R) t1) (bare : AllBare t.gens) : wpAny (model prog w) B (call (.type "range") [.int i ti]) Q E t := by
  refine call_range_1 (h _ _ _ _ ⟨rfl, bare, KM.exact fun b o it => Heap.get?_push_of_some _ it⟩ (IsRange.new ..) bare)
theorem range_walked {i : Nat} {R : Addr} {tv ti tw : Tok} {fs : List Addr} (hr : IsRange t.heap R 0 i 1 tv ti tw) (big : i < 2 ^ 62) (bare : AllBare t.gens) : wpAny (model prog w) B (pyIter (.ref R)) (fun jt t2 => Inner prog w (fun j v => ∃ tj, v = .int (0 + (j : Nat) * 1) tj) i fs t t2 jt) E t := by
  refine wpAny_pyIter_range hr (small_one (by omega) (by omega) (by omega) (by omega)) ?_
  refine ⟨⟨rfl, bare, KM.exact fun b o it => Heap.get?_push_of_some _ it⟩, t.heap.objs.size, _, rfl, Nat.le_refl _, fun B2 q => Walks.range q _ 0 1 i, ?_⟩
  have e1 : (0 : Int) + ((0 : Nat) : Int) * 1 = 0 := by simp
  have e2 : ((i : Nat) : Int) - ((0 : Nat) : Int) = Builtin.Range.rangeSize 0 i 1 := by
    rw [rangeSize_one]
    split <;> omega
  show IsRangeIter _ _ (0 + ((0 : Nat) : Int) * 1) (((i : Nat) : Int) - ((0 : Nat) : Int)) 1
  rw [e1, e2]
  (exact Heap.get?_push_size _ rfl)
end
end V3
namespace V3
open PySem.Spec PySem L2 PyProof.Rows GxR
section
variable {X : Cx}
abbrev callXC (fn x cn : Str) (p0 p1 p2 pos0 : Pos) : Expr := .Call (.Name fn p0) [.Name x p1, .Name cn p2] [] pos0
abbrev genXC (fn x cn : Str) (p0 p1 p2 pos0 px gpos : Pos) (iter : Expr) (scope : Scope) : Expr := .GeneratorExp (callXC fn x cn p0 p1 p2 pos0) [⟨.Name x px, iter, [], 0⟩] scope gpos
theorem pe_allC {c P : Addr} {iter : Expr} {x cn fn : Str} {px p p0 p1 p2 pos0 gpos pos : Pos} {scope : Scope} {te : TE} {k : Nat} {ps : List Str} {sp : Sp} {ic : Nat}
    (hr : Room (k + 1) X.A) (hg : Gl X "all") (hma : X.mg "all" = none) (TB : TabB X.base X.mg c P) (hcode : X.env.code = .ref c) (S : GenS X.env scope x) (hi : PE X iter te) (D : Df X.prog X.w X.K X.mg X.base fn k ps sp) (Cc : Cap X scope cn ic)
    (kf : scope.names.lookup fn = some .globalImplicit) (dx : (x == ("__debug__" : Str)) = false) (df : (fn == ("__debug__" : Str)) = false) (nofold : ∀ v, genFold iter X.env v = pure v)
    (he : starEach [genXC fn x cn p0 p1 p2 pos0 px gpos iter scope] X.env = (false, eval (genXC fn x cn p0 p1 p2 pos0 px gpos iter scope) X.env) :: starEach [] X.env := by rfl) :
    PE X (.Call (.Name "all" p) [genXC fn x cn p0 p1 p2 pos0 px gpos iter scope] [] pos) (tAllC X P ic sp te) := by
  obtain ⟨f, fd, gf, kp, bd, G, _⟩ := D.ex
  (refine ⟨fun pins s σ H Q I h => ?_⟩)
  refine wpAny_Call_Name_kw (ld_blt (u := .builtin "all") I hg hma (by decide +kernel) ?_)
  refine PyProof.Rows.callWith_builtin1 (id := "all") ?_ he (by rfl)
  rw [he]
  show wpAny _ _ (spliced ((false, eval (genXC fn x cn p0 p1 p2 pos0 px gpos iter scope) X.env) :: backTo pos (starEach [] X.env))) _ _ s
  refine Calls.spliced_cons (genexpF hr.hd S.co (closure_ok S.free) S.cell S.dot S.loc S.kind (by have := hr.dp; omega) ?_ nofold)
  refine thn (hi.run pins s σ H _ I h) fun xv s1 ⟨v, H1, I1, rv, a, xs, vc, tr, ev, hsq, tab, hvc, ask, want⟩ => ?_
  subst ev
  cases rv
  obtain ⟨ptab, hP, htr⟩ := tab
  obtain ⟨its, rvs, pl, zl⟩ := I1.tuple hsq
  have lenI := rvs.length
  have tupA : s1.heap.IsTuple a its.toArray := by
    obtain ⟨ob, q1, q2, q3, q4⟩ := pl
    exact ⟨ob, q1, q2, q3, q4⟩
  refine wpAny_pyIter_tuple tupA ?_
  obtain ⟨oI, hoI⟩ : ∃ oI : Obj, oI = { cls := .type "tuple_iterator", data := .fields #[.ref a, .int 0 0] } := ⟨_, rfl⟩
  rw [← hoI]
  have freshO : oI.isFreed = false := by rw [hoI]; rfl
  have atP : s1.heap.get? P = some { cls := .none, data := .fields ptab } := I1.hok P _ hP
  have ltP : P < s1.heap.objs.size := Heap.lt_size atP
  have atP2 : (s1.heap.push oI).get? P = some { cls := .none, data := .fields ptab } := Heap.get?_push_of_some _ atP
  have hdC : PySem.W.CodeHd (s1.heap.push oI) c P := TB.code.keeps fun b u e => Heap.get?_push_of_some _ (I1.bk b u e)
  have nol : (s1.heap.push oI).NoLimit := I1.nolimit.push oI
  have szO : (s1.heap.push oI).objs.size = s1.heap.objs.size + 1 := Heap.size_push ..
  have csB : ∃ o, X.base.get? cStatics = some o := by
    obtain ⟨_, q, _⟩ := I1.ok.mod.nolimit
    obtain ⟨o, es, ep, ho, _⟩ := q
    exact ⟨o, ho⟩
  have notFr : ∀ b o, X.base.get? b = some o → b ∉ frs X.stack := fun b o it z => by
    have := (frs_apart I1.stack z).1
    rw [it] at this
    cases this
  have frLow : ∀ b ∈ frs X.stack, b < s1.heap.objs.size := fun b z => by
    obtain ⟨_, o, ho, _⟩ := frs_apart I1.stack z
    exact Heap.lt_size ho
  have frNotP : P ∉ frs X.stack := fun z => by
    have := I1.stkFree P z
    rw [hP] at this
    cases this
  have aFr : a ∉ frs X.stack := fun z => by
    rcases hsq with ((e | ⟨o, e⟩) | ⟨o, it2, n2, e, _⟩)
    · have := I1.stkFree a z
      rw [e] at this
      cases this
    · have := I1.stkFree a z
      rw [e] at this
      cases this
    · exact notFr a o (I1.ok.mod.kin a o e) z
  have aLow : a < s1.heap.objs.size := by
    obtain ⟨ob, q1, _⟩ := tupA
    exact Heap.lt_size q1
  -- behind the code object
  have cont : ∀ (code : Value) (hp3 : Heap) (tk : Nat) (ptab3 : Array Value), Heap.ExtBut P (s1.heap.push oI) hp3 → (s1.heap.push oI).objs.size ≤ hp3.objs.size → hp3.get? P = some { cls := .none, data := .fields ptab3 } → (∃ more, ptab3 = ptab ++ more) → TriplesOk ptab3.toList →
      wpAny (model X.prog X.w) X.A (builtinsFor X.env.globals X.env.builtins) (fun bi t4 => MadeF X.prog X.w X.A X.env (callXC fn x cn p0 p1 p2 pos0) iter x px [] scope (cloFrom X.env.cells scope.names []) gpos
        (fun g t5 => wpAny (model X.prog X.w) X.A (spliced (backTo pos (starEach [] X.env))) (fun vs t6 => wpAny (model X.prog X.w) X.A (call (.builtin "all") (g :: vs)) (EP X pins σ Q) X.xe t6) X.xe t5) (.ref s1.heap.objs.size) code bi t4) X.xe { s1 with heap := hp3, toks := tk } := by
    intro code hp3 tk ptab3 hx3 sz3 atP3 grown ok3
    (obtain ⟨bm, ob, e1, e2, e3, e4, e5, e6, e7, e8⟩ := TB.bm)
    have keep3 : ∀ b u, b ≠ P → s1.heap.get? b = some u → hp3.get? b = some u := fun b u nb it => hx3 b u nb (Heap.get?_push_of_some _ it)
    have big3 : s1.heap.objs.size + 1 ≤ hp3.objs.size := by
      rw [← szO]
      exact sz3
    have baseNP : ∀ b o, X.base.get? b = some o → b ≠ P := fun b o it z => by
      have := (I1.bs b o it).2
      rw [z, hP] at this
      cases this
    obtain ⟨oCs, csAt⟩ := csB
    have csLow : cStatics < s1.heap.objs.size := Heap.lt_size (I1.bk _ _ csAt)
    have aNP : a ≠ P := fun z => by
      obtain ⟨ob2, q1, _, _, q4⟩ := tupA
      rw [z, atP] at q1
      cases q1
      cases q4
    refine wpAny_builtinsFor (m := X.mg) (by rw [I1.ok.glob]; exact ((I1.mod.glob.keeps I1.bk).push oI).extBut hx3 TB.gP) e1 e2 (keep3 _ _ e4 (I1.bk _ _ e5)) e6 e7 e8 ?_
    refine ⟨I1.bare, s1.heap.objs.size, [s1.heap.objs.size, a], [s1.heap.objs.size], hp3.objs.size :: frs X.stack, its.toArray.size, (fun i v => its.toArray[i]? = some v), (fun i h => h.IsTupleIter s1.heap.objs.size a i ∧ h.IsTuple a its.toArray), (fun _ => true), (fun i y => y = .bool (tr i)), rfl,
      fun B hB => Walks.tuple hB _ a (Nat.ne_of_lt aLow) _, ⟨⟨oI, hx3 _ _ (Nat.ne_of_gt ltP) (Heap.get?_push_size _ freshO), by rw [hoI], by rw [hoI]; rfl⟩, ?_⟩, ?_, nol.extBut hx3 (baseNP _ _ csAt), ?_, ?_, ?_, ?_, ?_, ?_⟩
    · obtain ⟨ob2, q1, q2⟩ := tupA
      exact ⟨ob2, keep3 _ _ aNP q1, q2⟩
    · intro b hb
      show b < hp3.objs.size
      rcases List.mem_cons.mp hb with (z | z)
      · rw [z]
        exact big3
      · (rw [List.mem_singleton.mp z])
        exact Nat.lt_of_lt_of_le aLow (Nat.le_trans (Nat.le_succ _) big3)
    · intro z
      have := List.mem_singleton.mp z
      rw [this] at csLow
      exact Nat.lt_irrefl _ csLow
    · intro b hb
      show b ≤ hp3.objs.size
      rcases List.mem_cons.mp hb with (z | z)
      · rw [z]
        exact Nat.le_refl _
      · exact Nat.le_of_lt (Nat.lt_of_lt_of_le (frLow b z) (Nat.le_trans (Nat.le_succ _) big3))
    · intro b hb hf
      rcases List.mem_cons.mp hb with (z | z)
      · subst z
        rcases List.mem_cons.mp hf with (y | y)
        · exact Nat.ne_of_lt big3 y
        · exact Nat.lt_irrefl _ (frLow _ y)
      · have z2 := List.mem_singleton.mp z
        subst z2
        rcases List.mem_cons.mp hf with (y | y)
        · exact Nat.ne_of_lt (Nat.lt_of_lt_of_le aLow (Nat.le_trans (Nat.le_succ _) big3)) y
        · exact aFr y
    · intro z
      rcases List.mem_cons.mp z with (y | y)
      · exact Nat.ne_of_lt (Nat.lt_of_lt_of_le csLow (Nat.le_trans (Nat.le_succ _) big3)) y
      · exact notFr _ _ csAt y
    · intro ref href
      refine ⟨fun B Ex i v t mp hB fB dB uB bT dv ns hv kept => tests_none ⟨rfl, ⟨rfl, bT, KM.exact (fun _ _ it => it)⟩⟩, fun B Ex i v t mp hB fB dB uB bT dv _ ns hv kept => ?_⟩
      rw [over_frames I1.ok.frames] at fB
      have both : ∀ b o, b ≠ P → s1.heap.get? b = some o → (b ∉ frs X.stack → t.heap.get? b = some o) ∧ ∃ sl, t.heap.get? b = some { o with slots := sl } := fun b o nb it => by
        have lt := Heap.lt_size it
        have ltc : b < hp3.objs.size := Nat.lt_of_lt_of_le lt (Nat.le_trans (Nat.le_succ _) big3)
        obtain ⟨p1, p2⟩ := kept b (List.mem_range.mpr ltc) (fun z => by rw [List.mem_singleton.mp z] at lt; exact Nat.lt_irrefl _ lt) o (href _ _ (keep3 b o nb it))
        exact ⟨fun nf => p1 fun z => (List.mem_cons.mp z).elim (fun y => Nat.ne_of_lt ltc y) nf, p2⟩
      have baseT : ∀ b o, X.base.get? b = some o → t.heap.get? b = some o := fun b o it => (both b o (baseNP b o it) (I1.bk b o it)).1 (notFr b o it)
      obtain ⟨oC, esC, epC, atC, datC, moreC⟩ := id ns
      have ltC : hp3.objs.size < t.heap.objs.size := Heap.lt_size atC
      have bszS : X.base.objs.size ≤ s1.heap.objs.size := Nat.le_trans I1.ok.bsz I1.sz
      have gi : ∀ bi : Addr, InGen X H1 s1.heap (genEnv scope (cloFrom X.env.cells scope.names []) hp3.objs.size code bi X.env) hp3.objs.size t := by
        intro bi
        refine ⟨baseT, Nat.le_trans bszS (Nat.le_of_lt (Nat.lt_of_le_of_lt (Nat.le_trans (Nat.le_succ _) big3) ltC)), ⟨?_, ⟨hp3.objs.size, oC, rfl, ?_, atC, fun vs z => ?_⟩, ?_⟩, fun b hb => ?_, ?_, bT⟩
        · show scope.kind ≠ .module
          rw [S.kind]
          exact fun z => nomatch z
        · cases eb : X.base.get? hp3.objs.size with
          | none => rfl
          | some o =>
            have := Nat.lt_of_lt_of_le (Heap.lt_size eb) bszS
            omega
        · rw [datC] at z
          cases z
        · refine Heap.FunFrames.of_keeps (fun b o it nf => ?_) I1.stack
          have nb : b ≠ P := fun z => by
            rw [z, atP] at it
            cases it
            exact nf _ rfl
          obtain ⟨_, sl, z⟩ := both b o nb it
          exact ⟨_, z, rfl⟩
        · rcases List.mem_cons.mp hb with (z | z)
          · rw [z]
            exact I1.hok.fresh (Nat.le_trans (Nat.le_succ _) big3)
          · exact I1.stkFree b z
        · refine fast_ok I1.hok fun b u o e nt it => (both b o (fun z => ?_) it).1 fun z => ?_
          · rw [z, hP] at e
            exact nt ptab (Option.some.inj e).symm
          · have := I1.stkFree b z
            rw [e] at this
            cases this
      have li : i < its.length := by
        have := (Array.getElem?_eq_some_iff.mp dv).1
        simpa using this
      have hxi : xs[i]? = some xs[i] := List.getElem?_eq_getElem (by omega)
      obtain ⟨u, hu, ru⟩ := rvs.get hxi
      have ev : u = v := by
        have q : its.toArray[i]? = some u := by simpa using hu
        rw [q] at dv
        exact Option.some.inj dv
      subst ev
      obtain ⟨cc, uc, rc, look, cellAt⟩ := Cc.at I1 hvc
      have cellT : t.heap.IsCell cc (some uc) := by
        obtain ⟨o, ho, hd⟩ := cellAt
        have nb : cc ≠ P := fun z => by
          rw [z, atP] at ho
          cases ho
          cases hd
        obtain ⟨_, sl, z⟩ := both cc o nb ho
        exact ⟨_, z, hd⟩
      refine wpAny_Call_Name_kw (Calls.Name_function_global S.kind kf (Calls.loadGlobal_global (by show t.heap.Ns X.env.globals X.mg; rw [I1.ok.glob]; exact I1.mod.glob.keeps baseT) gf ?_) df)
      refine PySem.W.callWith_K (h₀ := X.base) I1.ok.mod.kin kp ?_
      show wpAny _ B (spliced ((false, eval (.Name x p1) (genEnv scope (cloFrom X.env.cells scope.names []) hp3.objs.size code _ X.env)) :: (false, eval (.Name cn p2) (genEnv scope (cloFrom X.env.cells scope.names []) hp3.objs.size code _ X.env)) :: [])) _ _ t
      refine Calls.spliced_cons (wpAny_Name (wpAny_loadName_local (by exact S.kind) (by exact S.loc) ns hv ?_) dx)
      refine Calls.spliced_cons (Cc.eval S.kind rfl rfl look cellT ?_)
      refine Calls.spliced_nil ⟨I1.ok.mod.kin.keeps baseT, ?_⟩
      exact gen_call I1 G bd hr (gi _) hB fB dB uB (.cons ru (.cons rc .nil)) (ask _ I1.hok i xs[i] hxi) fun v2 u2 t2 qv rv2 kg => ⟨by subst qv; exact rv2, kg⟩
    · intro g hp5 tk5 gs gsb ltg szg k5 Wk at5
      refine Calls.spliced_nil (call_allV ?_)
      have pall : passing (fun _ => true) its.toArray.size 0 = List.range its.toArray.size := GxR.passing_true _
      refine Wk.in4.self _ _ _ at5 ⟨g, _, _, _, _, _, tr, rfl, Wk.in4, at5, fun j y hy => ?_, fun t' mv => ?_⟩
      · obtain ⟨i, hi2, hf⟩ := hy
        rw [pall, List.getElem?_range (by
          have := (List.getElem?_eq_some_iff.mp hi2).1
          rw [List.length_range] at this
          exact this)] at hi2
        rw [Option.some.inj hi2]
        exact hf
      · obtain ⟨more, rfl⟩ := grown
        have offW : ∀ b, b < s1.heap.objs.size → b ∉ hp3.objs.size :: [s1.heap.objs.size] := fun b lt z => by
          rcases List.mem_cons.mp z with (y | y)
          · exact Nat.ne_of_lt (Nat.lt_of_lt_of_le lt (Nat.le_trans (Nat.le_succ _) big3)) y
          · exact Nat.ne_of_lt lt (List.mem_singleton.mp y)
        have kB : ∀ b o, b < s1.heap.objs.size → hp3.get? b = some o → (b ∉ frs X.stack → t'.heap.get? b = some o) ∧ ∃ sl, t'.heap.get? b = some { o with slots := sl } := fun b o lt it => by
          obtain ⟨p1, p2⟩ := mv.heap b o (offW b lt) (k5 b o it)
          exact ⟨fun nf => p1 fun z => (List.mem_cons.mp z).elim (fun y => Nat.ne_of_lt (Nat.lt_of_lt_of_le lt (Nat.le_trans (Nat.le_succ _) big3)) y) nf, p2⟩
        have J := inv_gen (t' := t') (more := more) I1 hP mv.os mv.bare (fun b o nb it => kB b o (Heap.lt_size it) (keep3 b o nb it)) ((kB P _ ltP atP3).1 frNotP)
        have len : (passing (fun _ => true) its.toArray.size 0).length = xs.length := by
          rw [pall, List.length_range, List.size_toArray]
          omega
        rw [len]
        exact ⟨.bl _, _, J, rfl, want _ ⟨⟨ptab ++ more, upd_same, ok3⟩, fun b nb => upd_ne nb⟩⟩
  refine ⟨nol, ?_⟩
  cases among : codeAmong gpos ptab.toList with
  | none =>
    refine wpAny_genexprCodeX hcode (hdC.code atP2 htr) (hdC.tab atP2) among fun c2 hp2 tk hx2 ge2 lt2 isC _ tabA _ => ?_
    obtain ⟨o1, vs, f1, tf, fl, tg, inF, tx, tt, op, _, _, _, _, _, _, _, _, _, trs, _⟩ := isC
    exact cont _ hp2 tk _ hx2 (Nat.le_trans ge2 (Nat.le_of_lt lt2)) tabA.2 ⟨_, rfl⟩ trs
  | some cv =>
    refine wpAny_genexprCode_hit hcode (hdC.code atP2 htr) among ?_
    exact cont cv (s1.heap.push oI) s1.toks ptab (Heap.ExtBut.refl _ _) (Nat.le_refl _) atP2 ⟨#[], by simp⟩ htr
end
end V3
/-! all(v[i][j] == v[j][i] for i in range(n) for j in range(i)) as a rule. -/
namespace V3
open PySem.Spec PySem L2 PyProof.Rows GxR
/-- how many pairs stand before row i -/
def tri : Nat → Nat
  | 0 => 0
  | i + 1 => tri i + i
theorem tri_mono : ∀ {i k : Nat}, i ≤ k → tri i ≤ tri k := fun {i k} h => by
  induction h with
  | refl => exact Nat.le_refl _
  | step _ ih => exact Nat.le_trans ih (Nat.le_add_right ..)
theorem tri_inj {i j k l : Nat} (h1 : j < i) (h2 : l < k) (e : tri i + j = tri k + l) : i = k ∧ j = l := by
  have a : ∀ {i j k l : Nat}, j < i → l < k → tri i + j = tri k + l → ¬ i < k := fun {i j k l} h1 h2 e lt => by
    have m : tri (i + 1) ≤ tri k := tri_mono lt
    have s : tri (i + 1) = tri i + i := rfl
    omega
  have q : i = k := by
    rcases Nat.lt_trichotomy i k with z | z | z
    · exact absurd z (a h1 h2 e)
    · exact z
    · exact absurd z (a h2 h1 e.symm)
  subst q
  exact ⟨rfl, by omega⟩
theorem flat_all (f : Nat → Nat → Bool) : ∃ tr : Nat → Bool, (∀ i j, j < i → tr (tri i + j) = f i j) ∧ ∀ n, (List.range (tri n)).all tr = (List.range n).all fun i => (List.range i).all (f i) := by
  classical
  refine ⟨fun k => decide (∀ i j, j < i → k = tri i + j → f i j = true), ?_, ?_⟩
  · intro i j h
    cases e : f i j with
    | true =>
      refine decide_eq_true fun i2 j2 h2 q => ?_
      obtain ⟨rfl, rfl⟩ := tri_inj h h2 q
      exact e
    | false => exact decide_eq_false fun z => by rw [z i j h rfl] at e; cases e
  · have at_ : ∀ i j, j < i → (decide (∀ i2 j2, j2 < i2 → tri i + j = tri i2 + j2 → f i2 j2 = true)) = f i j := fun i j h => by
      cases e : f i j with
      | true =>
        refine decide_eq_true fun i2 j2 h2 q => ?_
        obtain ⟨rfl, rfl⟩ := tri_inj h h2 q
        exact e
      | false => exact decide_eq_false fun z => by rw [z i j h rfl] at e; cases e
    intro n
    induction n with
    | zero => rfl
    | succ n ih =>
      show (List.range (tri n + n)).all _ = _
      rw [List.range_add, List.all_append, ih, List.range_succ, List.all_append, List.all_map]
      congr 1
      simp only [List.all_cons, List.all_nil, Bool.and_true]
      (rw [Bool.eq_iff_iff, List.all_eq_true, List.all_eq_true])
      exact ⟨fun z j hj => by have := z j hj; rw [← at_ n j (List.mem_range.mp hj)]; exact this, fun z j hj => by have := z j hj; rw [← at_ n j (List.mem_range.mp hj)] at this; exact this⟩
theorem over_frames2 {A : Around} {elt : Expr} {x : Str} {px : Pos} {iter : Expr} {y : Str} {py : Pos} {iter2 : Expr} {scope : Scope} {pos : Pos} {I : Addr} {ce : Env} {l : List Env} (e : A.frames = some l) :
    (A.in4.in1.over (lp elt x px iter y py iter2 scope pos ce 0 I) []).frames = some (ce :: l) := by
  have e5 : A.in4.in1.frames = some l := e
  simp only [Around.over, List.map_nil]
  rw [e5]
  rfl
end V3
namespace V3
open PySem.Spec PySem L2 PyProof.Rows GxR
mutual
/-- data is read again where all but one address stands, and that is no list, tuple or dict -/
theorem reads_but {P : Addr} {ps : Array Value} {h h2 : Heap} (at_ : h.get? P = some { cls := .none, data := .fields ps }) (k : ∀ b o, b ≠ P → h.get? b = some o → h2.get? b = some o) : ∀ {v : Value} {d : PyData} {as : List Addr}, Reads h v d as → Reads h2 v d as
  | _, _, _, .none => .none
  | _, _, _, .bool b => .bool b
  | _, _, _, .int z tk => .int z tk
  | _, _, _, .str z tk => .str z tk
  | _, _, _, .list e1 e2 e3 r => .list (k _ _ (fun z => by rw [z, at_] at e1; cases e1; cases e3) e1) e2 e3 (readsAll_but at_ k r)
  | _, _, _, .tuple e1 e2 e3 r => .tuple (k _ _ (fun z => by rw [z, at_] at e1; cases e1; cases e3) e1) e2 e3 (readsAll_but at_ k r)
  | _, _, _, .dict e1 e2 e3 r r2 => .dict (k _ _ (fun z => by rw [z, at_] at e1; cases e1; cases e3) e1) e2 e3 (readsAll_but at_ k r) (readsAll_but at_ k r2)
theorem readsAll_but {P : Addr} {ps : Array Value} {h h2 : Heap} (at_ : h.get? P = some { cls := .none, data := .fields ps }) (k : ∀ b o, b ≠ P → h.get? b = some o → h2.get? b = some o) : ∀ {vs : List Value} {ds : List PyData} {as : List Addr}, ReadsAll h vs ds as → ReadsAll h2 vs ds as
  | _, _, _, .nil => .nil
  | _, _, _, .cons r r2 => .cons (reads_but at_ k r) (readsAll_but at_ k r2)
end
/-- the rows at a, known in H: the first N of each of the first N are the data d -/
def Square (K : PySem.W.Frag) (H : Hp) (a : Addr) (N : Nat) (d : Nat → Nat → PyData) : Prop :=
  ∃ rows, SqT K H a rows ∧ ∀ i, i < N → ∃ r cs, rows[i]? = some (.ref r) ∧ SqT K H r cs ∧ ∀ j, j < N → ∃ c, cs[j]? = some c ∧ Dp K H c (d i j) ∧ SeqAt.shaped (d i j) = true
/-- the truth of all(v[i][j] == v[j][i] for i in range(n) for j in range(i)) -/
def tAll2 (X : Cx) (P : Addr) (ic : Nat) (ta : TA) : TE := fun σ H Q => ta σ H fun vs H1 => ∃ (N : Nat) (a : Addr) (d : Nat → Nat → PyData), vs = [.int N] ∧ N < 2 ^ 62 ∧ TabG H1 P ∧ σ[ic]? = some (some (.ref a)) ∧ Square X.K H1 a N d ∧
  ∀ H2, Tabbed P H1 H2 → Q (.bl ((List.range N).all fun i => (List.range i).all fun j => PyData.eqv (d i j) (d j i))) H2
section
variable {X : Cx}
abbrev cross (v x y : Str) (q1 q2 q3 q4 q5 q6 q7 q8 q9 qa qb : Pos) : Expr := .Compare (.Subscript (.Subscript (.Name v q1) (.Name x q2) q3) (.Name y q4) q5) [.Eq] [.Subscript (.Subscript (.Name v q6) (.Name y q7) q8) (.Name x q9) qa] qb
abbrev rangeOf (e : Expr) (q0 q2 : Pos) : Expr := .Call (.Name "range" q0) [e] [] q2
theorem pe_all2 {c P : Addr} {n : Expr} {v x y : Str} {ta : TA} {px py p q1 q2 q3 q4 q5 q6 q7 q8 q9 qa qb r0 r1 r2 r3 r4 gpos pos : Pos} {scope : Scope} {k ic : Nat}
    (hr : Room (k + 1) X.A) (hg : Gl X "all") (hma : X.mg "all" = none) (hgr : Gl X "range") (hmr : X.mg "range" = none) (TB : TabB X.base X.mg c P) (hcode : X.env.code = .ref c) (S : GenS X.env scope x) (sy : scope.names.lookup y = some .local) (xy : x ≠ y) (ha : PA X [n] ta) (Cc : Cap X scope v ic)
    (kf : scope.names.lookup ("range" : Str) = some .globalImplicit) (dx : (x == ("__debug__" : Str)) = false) (dy : (y == ("__debug__" : Str)) = false)
    (hs : starEach [n] X.env = [(false, eval n X.env)] := by rfl)
    (he : starEach [gen2 (cross v x y q1 q2 q3 q4 q5 q6 q7 q8 q9 qa qb) x px (rangeOf n r0 r1) y py (rangeOf (.Name x r2) r3 r4) scope gpos] X.env = (false, eval (gen2 (cross v x y q1 q2 q3 q4 q5 q6 q7 q8 q9 qa qb) x px (rangeOf n r0 r1) y py (rangeOf (.Name x r2) r3 r4) scope gpos) X.env) :: starEach [] X.env := by rfl) :
    PE X (.Call (.Name "all" p) [gen2 (cross v x y q1 q2 q3 q4 q5 q6 q7 q8 q9 qa qb) x px (rangeOf n r0 r1) y py (rangeOf (.Name x r2) r3 r4) scope gpos] [] pos) (tAll2 X P ic ta) := by
  (refine ⟨fun pins s σ H Q I h => ?_⟩)
  refine wpAny_Call_Name_kw (ld_blt (u := .builtin "all") I hg hma (by decide +kernel) ?_)
  refine PyProof.Rows.callWith_builtin1 (id := "all") ?_ he (by rfl)
  rw [he]
  show wpAny _ _ (spliced ((false, eval (gen2 (cross v x y q1 q2 q3 q4 q5 q6 q7 q8 q9 qa qb) x px (rangeOf n r0 r1) y py (rangeOf (.Name x r2) r3 r4) scope gpos) X.env) :: backTo pos (starEach [] X.env))) _ _ s
  refine Calls.spliced_cons (genexpN hr.hd S.co (closure_ok S.free) S.cell S.dot S.loc sy xy S.kind (by have := hr.dp; omega) ?_ (fun _ => rfl))
  refine Call_ (ld_blt I hgr hmr boot_range (PyProof.Rows.callWith_type1 (thn (ha.run r1 pins s σ H _ I h) fun us s1 ⟨vs, H1, I1, rs, N, a, d, ev, big, tab, hvc, sq, want⟩ => ?_) hs rfl))
  subst ev
  cases rs with
  | cons rn rr =>
  cases rr
  obtain ⟨tn, rfl⟩ := rn
  refine call_range_1 (wpAny_pyIter_range (IsRange.new ..) (small_one (by omega) (by omega) (by omega) (by omega)) ?_)
  obtain ⟨ptab, hP, htr⟩ := tab
  have nums : ((0 : Int) + ((0 : Nat) : Int) * 1 = 0) ∧ (((N : Nat) : Int) - ((0 : Nat) : Int) = Builtin.Range.rangeSize 0 N 1) := by
    refine ⟨by simp, ?_⟩
    rw [rangeSize_one]
    split <;> omega
  obtain ⟨oR, eR⟩ : ∃ oR : Obj, oR = { cls := .type "range", data := .fields #[.int 0 s1.toks, .int N tn, .int 1 (s1.toks + 1)] } := ⟨_, rfl⟩
  obtain ⟨oJ, eJ⟩ : ∃ oJ : Obj, oJ = { cls := .type "range_iterator", data := .fields #[rawInt 0, rawInt (Builtin.Range.rangeSize 0 N 1), rawInt 1] } := ⟨_, rfl⟩
  rw [← eR, ← eJ]
  have freshO : oJ.isFreed = false := by rw [eJ]; rfl
  obtain ⟨h2, eh⟩ : ∃ h2 : Heap, h2 = (s1.heap.push oR).push oJ := ⟨_, rfl⟩
  obtain ⟨J, eA⟩ : ∃ J : Addr, J = (s1.heap.push oR).objs.size := ⟨_, rfl⟩
  have k2 : ∀ b o, s1.heap.get? b = some o → h2.get? b = some o := fun b o it => by rw [eh]; exact Heap.get?_push_of_some _ (Heap.get?_push_of_some _ it)
  have atJ : h2.get? J = some oJ := by rw [eh, eA]; exact Heap.get?_push_size _ freshO
  have Jbig : s1.heap.objs.size ≤ J := by rw [eA, Heap.size_push]; exact Nat.le_succ _
  have nol : h2.NoLimit := by rw [eh]; exact (I1.nolimit.push oR).push oJ
  rw [← eh, ← eA]
  have atP : s1.heap.get? P = some { cls := .none, data := .fields ptab } := I1.hok P _ hP
  have atP2 : h2.get? P = some { cls := .none, data := .fields ptab } := k2 _ _ atP
  have hdC : PySem.W.CodeHd h2 c P := TB.code.keeps fun b u e => k2 b u (I1.bk b u e)
  obtain ⟨tr, trAt, trAll⟩ := flat_all (fun i j => PyData.eqv (d i j) (d j i))
  have csB : ∃ o, X.base.get? cStatics = some o := by
    obtain ⟨_, z, _⟩ := I1.ok.mod.nolimit
    obtain ⟨o, _, _, ho, _⟩ := z
    exact ⟨o, ho⟩
  have baseNP : ∀ b o, X.base.get? b = some o → b ≠ P := fun b o it z => by
    have e := (I1.bs b o it).2
    rw [z, hP] at e
    cases e
  have ltP : P < s1.heap.objs.size := Heap.lt_size atP
  have frNotP : P ∉ frs X.stack := fun z => by
    have e := I1.stkFree P z
    rw [hP] at e
    cases e
  have cont : ∀ (code : Value) (hp3 : Heap) (tk : Nat) (ptab3 : Array Value), Heap.ExtBut P h2 hp3 → hp3.get? P = some { cls := .none, data := .fields ptab3 } → (∃ more, ptab3 = ptab ++ more) → TriplesOk ptab3.toList →
      wpAny (model X.prog X.w) X.A (builtinsFor X.env.globals X.env.builtins) (fun bi t4 => MadeN X.prog X.w X.A X.env (cross v x y q1 q2 q3 q4 q5 q6 q7 q8 q9 qa qb) (rangeOf n r0 r1) x px y py (rangeOf (.Name x r2) r3 r4) scope (cloFrom X.env.cells scope.names []) gpos
        (fun g t5 => wpAny (model X.prog X.w) X.A (spliced (backTo pos (starEach [] X.env))) (fun vs t6 => wpAny (model X.prog X.w) X.A (call (.builtin "all") (g :: vs)) (EP X pins σ Q) X.xe t6) X.xe t5) (.ref J) code bi t4) X.xe { s1 with heap := hp3, toks := tk } := by
    intro code hp3 tk ptab3 hx3 atP3 grown ok3
    (obtain ⟨bm, ob, e1, e2, e3, e4, e5, e6, e7, e8⟩ := TB.bm)
    have keep3 : ∀ b u, b ≠ P → s1.heap.get? b = some u → hp3.get? b = some u := fun b u nb it => hx3 b u nb (k2 b u it)
    have nJ : ∀ b u, s1.heap.get? b = some u → b ≠ J := fun b u it z => by
      have lt := Heap.lt_size it
      rw [z] at lt
      exact absurd Jbig (Nat.not_le.mpr lt)
    have JP : J ≠ P := fun z => by
      rw [z] at Jbig
      exact absurd Jbig (Nat.not_le.mpr ltP)
    obtain ⟨oCs, csAt⟩ := csB
    refine wpAny_builtinsFor (m := X.mg) (by rw [I1.ok.glob]; exact ((I1.mod.glob.keeps I1.bk).keeps k2).extBut hx3 TB.gP) e1 e2 (keep3 _ _ e4 (I1.bk _ _ e5)) e6 e7 e8 ?_
    refine ⟨I1.bare, J, [], N, (fun i => i), tri, (fun i q => ∃ ti, q = .int (0 + (i : Nat) * 1) ti), (fun _ j q => ∃ tj, q = .int (0 + (j : Nat) * 1) tj), (fun i q t1 => ∃ R tv ti tw, q = .ref R ∧ i < N ∧ IsRange t1.heap R 0 i 1 tv ti tw), (fun i h => IsRangeIter h J (0 + (i : Nat) * 1) ((N : Int) - (i : Nat)) 1), (fun k u => u = .bool (tr k)), rfl,
      fun B hB => Walks.range hB J 0 1 N, ?_, fun i h z => Heap.lt_size z, nol.extBut hx3 (baseNP _ _ csAt), nJ _ _ (I1.bk _ _ csAt), fun b z => absurd z (by simp), by simp, by simp, rfl, fun _ => rfl, fun _ => rfl, ?_, ?_, ?_, ?_⟩
    · show IsRangeIter hp3 J (0 + ((0 : Nat) : Int) * 1) (((N : Nat) : Int) - ((0 : Nat) : Int)) 1
      rw [nums.1, nums.2]
      have z := hx3 J _ JP atJ
      rw [eJ] at z
      exact z
    · intro B Ex i u0 u mp hB fB dB uB bu il dv kt ns hv
      obtain ⟨ti, rfl⟩ := dv
      have baseU : ∀ b o, X.base.get? b = some o → u.heap.get? b = some o := fun b o it => (kt b o (nJ _ _ (I1.bk b o it)) (keep3 b o (baseNP b o it) (I1.bk b o it))).1 (by simp)
      obtain ⟨mb, b1, b2⟩ := I1.mod.blt
      refine wpAny_Call_Name_kw (Calls.Name_function_global S.kind kf (Calls.loadGlobal_builtin (env := genEnv scope (cloFrom X.env.cells scope.names []) hp3.objs.size code builtinsNs X.env) (v := .type "range") (by show u.heap.Ns X.env.globals X.mg; rw [I1.ok.glob]; exact I1.mod.glob.keeps baseU) hmr (show u.heap.Ns builtinsNs mb from b1.keeps baseU) ((b2 _ (by decide)).trans boot_range) ?_))
      refine PyProof.Rows.callWith_type1 ?_ rfl rfl
      refine Calls.spliced_cons (wpAny_Name (wpAny_loadName_local (by exact S.kind) (by exact S.loc) ns hv ?_) dx)
      refine Calls.spliced_nil ?_
      have e : (0 : Int) + (i : Nat) * 1 = (i : Nat) := by simp
      rw [e]
      exact range_called (fun R t1 tv tw kg hr bt => ⟨kg, R, tv, ti, tw, rfl, il, hr⟩) bu
    · intro B Ex i q u hB p2 bu
      obtain ⟨R, tv, ti, tw, rfl, il, hr⟩ := p2
      exact range_walked hr (Nat.lt_trans il big) bu
    · intro B Ex i ui j uj u mp hB fB dB uB bu il dv jl dj kt ns hv hy
      obtain ⟨ti, rfl⟩ := dv
      obtain ⟨tj, rfl⟩ := dj
      have jN : j < N := Nat.lt_trans jl il
      have ei : (0 : Int) + (i : Nat) * 1 = (i : Nat) := by simp
      have ej : (0 : Int) + (j : Nat) * 1 = (j : Nat) := by simp
      rw [ei] at hv
      rw [ej] at hy
      have both : ∀ b o, b ≠ P → s1.heap.get? b = some o → u.heap.get? b = some o := fun b o nb it => (kt b o (nJ _ _ it) (keep3 b o nb it)).1 (by simp)
      obtain ⟨cc, uc, rc, look, cellAt⟩ := Cc.at I1 hvc
      cases rc
      have cellU : u.heap.IsCell cc (some (.ref a)) := by
        obtain ⟨o, ho, hd⟩ := cellAt
        refine ⟨o, both cc o (fun z => ?_) ho, hd⟩
        rw [z, atP] at ho
        cases ho
        cases hd
      have tupU : ∀ (b : Addr) (cs : List V), SqT X.K H1 b cs → ∃ its : List Value, Vals cs its ∧ IsTup u.heap b its.toArray ∧ its.toArray.size < 2 ^ 63 := fun b cs z => by
        obtain ⟨its, rv, pl, zl⟩ := I1.tuple z
        obtain ⟨o, o1, o2, m, o3⟩ := pl
        have l63 := line63
        have len := rv.length
        refine ⟨its, rv, ⟨o, both b o (fun z => ?_) o1, o2, m, o3⟩, by rw [List.size_toArray]; omega⟩
        rw [z, atP] at o1
        cases o1
        cases o3
      obtain ⟨rows, sqr, more⟩ := sq
      obtain ⟨its, rv, isV, zV⟩ := tupU _ _ sqr
      obtain ⟨ri, ci, gi, sqi, ati⟩ := more i il
      obtain ⟨rj, cj, gj, sqj, atj⟩ := more j jN
      obtain ⟨ii, rvi, isI, zI⟩ := tupU _ _ sqi
      obtain ⟨jj, rvj, isJ, zJ⟩ := tupU _ _ sqj
      obtain ⟨w1, v1, y1⟩ := rv.get gi
      obtain ⟨w2, v2, y2⟩ := rv.get gj
      cases y1
      cases y2
      obtain ⟨c1, g1, dp1, sh1⟩ := ati j jN
      obtain ⟨c2, g2, dp2, sh2⟩ := atj i il
      obtain ⟨w3, v3, y3⟩ := rvi.get g1
      obtain ⟨w4, v4, y4⟩ := rvj.get g2
      obtain ⟨as, rd1⟩ := Dp.reads I1 _ _ _ dp1 y3
      obtain ⟨bs, rd2⟩ := Dp.reads I1 _ _ _ dp2 y4
      have ga : ∀ pq : Pos, Gives X.prog X.w B Ex (genEnv scope (cloFrom X.env.cells scope.names []) hp3.objs.size code builtinsNs X.env) (.Name v pq) (.ref a) u := fun pq R z => Cc.eval S.kind rfl rfl look cellU z
      have gx : ∀ pq : Pos, Gives X.prog X.w B Ex (genEnv scope (cloFrom X.env.cells scope.names []) hp3.objs.size code builtinsNs X.env) (.Name x pq) (.int i ti) u := fun pq R z => wpAny_Name (wpAny_loadName_local (by exact S.kind) (by exact S.loc) ns hv z) dx
      have gy : ∀ pq : Pos, Gives X.prog X.w B Ex (genEnv scope (cloFrom X.env.cells scope.names []) hp3.objs.size code builtinsNs X.env) (.Name y pq) (.int j tj) u := fun pq R z => wpAny_Name (wpAny_loadName_local (by exact S.kind) (by exact sy) ns hy z) dy
      have plain : ∀ (z : Str) (pq : Pos), PlainIx (.Name z pq) := fun _ _ _ _ => rfl
      refine eq_cross (ga _) (ga _) (gx _) (gx _) (gy _) (gy _) (plain _ _) (plain _ _) (plain _ _) (plain _ _) isV zV (by simpa using v1) (by simpa using v2) isI zI isJ zJ (by simpa using v3) (by simpa using v4) (reads_but atP both rd1) (reads_but atP both rd2) sh1 sh2 (by have := hr.un; omega) ⟨?_, rfl, bu, KM.exact fun _ _ it => it⟩ (nomark _)
      show Value.bool _ = Value.bool (tr (tri i + j))
      rw [trAt i j jl]
    · intro g hp5 tk5 gs keep gsb ltg szg k5 inK Wk at5
      refine Calls.spliced_nil (call_allN ?_)
      refine Wk.in4.self _ _ _ at5 ⟨g, keep, [], _, _, _, tr, rfl, Wk.in4, at5, fun j u hu => hu, fun t' mv => ?_⟩
      obtain ⟨more, rfl⟩ := grown
      have fin := inv_gen (t' := t') (more := more) I1 hP mv.os mv.bare (fun b o nb it => by
        obtain ⟨z1, z2⟩ := mv.heap b (inK b o (nJ _ _ it) (keep3 b o nb it)) o (k5 b o (keep3 b o nb it))
        exact ⟨fun _ => z1 (by simp), z2⟩) ((mv.heap P (inK P _ JP.symm atP3) _ (k5 P _ atP3)).1 (by simp))
      rw [trAll]
      exact ⟨.bl _, _, fin, rfl, want _ ⟨⟨ptab ++ more, upd_same, ok3⟩, fun b nb => upd_ne nb⟩⟩
  refine ⟨nol, ?_⟩
  cases among : codeAmong gpos ptab.toList with
  | none =>
    refine wpAny_genexprCodeX hcode (hdC.code atP2 htr) (hdC.tab atP2) among fun c2 hp2 tk hx2 ge2 lt2 isC _ tabA _ => ?_
    obtain ⟨o1, vs, f1, tf, fl, tg, inF, tx, tt, op, _, _, _, _, _, _, _, _, _, trs, _⟩ := isC
    exact cont _ hp2 tk _ hx2 tabA.2 ⟨_, rfl⟩ trs
  | some cv =>
    refine wpAny_genexprCode_hit hcode (hdC.code atP2 htr) among ?_
    exact cont cv h2 _ ptab (Heap.ExtBut.refl _ _) atP2 ⟨#[], by simp⟩ htr
end
end V3
/-! Fractions as rational numbers: sizes, and what the reckoning of the program and of the law is. -/
namespace V3
theorem radd (x y : Rat) : x + y = Rat.divInt (x.num * (y.den : Int) + y.num * (x.den : Int)) ((x.den : Int) * (y.den : Int)) := by
  rw [Rat.add_def', ← Rat.divInt_ofNat, Int.natCast_mul]
theorem rsub (x y : Rat) : x - y = Rat.divInt (x.num * (y.den : Int) - y.num * (x.den : Int)) ((x.den : Int) * (y.den : Int)) := by
  rw [Rat.sub_def', ← Rat.divInt_ofNat, Int.natCast_mul]
theorem rmul (x y : Rat) : x * y = Rat.divInt (x.num * y.num) ((x.den : Int) * (y.den : Int)) := by
  rw [Rat.mul_def', ← Rat.divInt_ofNat, Int.natCast_mul]
theorem rdiv (x y : Rat) : x / y = Rat.divInt (x.num * (y.den : Int)) ((x.den : Int) * y.num) := by
  have e : x / y = (Rat.divInt x.num x.den) * (Rat.divInt y.den y.num) := by
    rw [Rat.div_def, Rat.inv_def, Rat.num_divInt_den]
  rw [e, Rat.divInt_mul_divInt]
theorem rnum_pos {y : Rat} (h : 0 < y) : 0 < y.num := by
  have := (Rat.lt_iff 0 y).mp h
  simpa using this
theorem rden_pos (x : Rat) : 0 < (x.den : Int) := by
  have := x.den_pos
  omega
theorem dnum {n u : Int} (h : 0 < u) : (Rat.divInt n u).num = n / (Int.gcd n u : Int) := by
  rw [Rat.num_divInt, Int.sign_eq_one_of_pos h, Int.one_mul, Int.gcd_comm]
theorem dden {n u : Int} (h : 0 < u) : ((Rat.divInt n u).den : Int) = u / (Int.gcd n u : Int) := by
  rw [Rat.den_divInt, if_neg (by omega), Int.gcd_comm]
  have : (u.natAbs : Int) = u := by omega
  rw [Int.natCast_ediv, this]
theorem rle (x y : Rat) : decide (x.num * (y.den : Int) ≤ y.num * (x.den : Int)) = decide (x ≤ y) := by
  rw [decide_eq_decide]
  exact (Rat.le_iff x y).symm
theorem rlt (x y : Rat) : decide (x.num * (y.den : Int) < y.num * (x.den : Int)) = decide (x < y) := by
  rw [decide_eq_decide]
  exact (Rat.lt_iff x y).symm
/-- sizes -/
structure Bq (b : Nat) (x : Rat) : Prop where
  n : x.num.natAbs < 2 ^ b
  d : x.den < 2 ^ b
theorem pw {a b : Nat} (h : a ≤ b) : 2 ^ a ≤ 2 ^ b := Nat.pow_le_pow_right (by decide) h
theorem Bq.mono {a b : Nat} {x : Rat} (h : Bq a x) (l : a ≤ b) : Bq b x := ⟨Nat.lt_of_lt_of_le h.n (pw l), Nat.lt_of_lt_of_le h.d (pw l)⟩
theorem bq_div {n u : Int} {b : Nat} (h : 0 < u) (hn : n.natAbs < 2 ^ b) (hu : u.natAbs < 2 ^ b) : Bq b (Rat.divInt n u) := by
  refine ⟨?_, ?_⟩
  · rw [dnum h]
    refine Nat.lt_of_le_of_lt ?_ hn
    rw [Int.natAbs_ediv_of_dvd (Int.gcd_dvd_left ..)]
    exact Nat.div_le_self _ _
  · have e := dden (n := n) h
    have l : u / (Int.gcd n u : Int) ≤ u := Int.ediv_le_self _ (by omega)
    omega
theorem mul_lt_pw {m n a b : Nat} (h1 : m < 2 ^ a) (h2 : n < 2 ^ b) : m * n < 2 ^ (a + b) := by
  rw [Nat.pow_add]
  exact Nat.mul_lt_mul'' h1 h2
theorem add_lt_pw {i j : Int} {a : Nat} (h1 : i.natAbs < 2 ^ a) (h2 : j.natAbs < 2 ^ a) : (i + j).natAbs < 2 ^ (a + 1) := by
  rw [Nat.pow_succ]
  omega
theorem sub_lt_pw {i j : Int} {a : Nat} (h1 : i.natAbs < 2 ^ a) (h2 : j.natAbs < 2 ^ a) : (i - j).natAbs < 2 ^ (a + 1) := by
  rw [Nat.pow_succ]
  omega
theorem mulI {i j : Int} {a b : Nat} (h1 : i.natAbs < 2 ^ a) (h2 : j.natAbs < 2 ^ b) : (i * j).natAbs < 2 ^ (a + b) := by
  rw [Int.natAbs_mul]
  exact mul_lt_pw h1 h2
theorem natI {n b : Nat} (h : n < 2 ^ b) : (n : Int).natAbs < 2 ^ b := by
  rw [Int.natAbs_natCast]
  exact h
theorem Bq.add {a b c : Nat} {x y : Rat} (hx : Bq a x) (hy : Bq b y) (hc : a + b + 1 ≤ c) : Bq c (x + y) := by
  refine Bq.mono ?_ hc
  rw [radd]
  refine bq_div (Int.mul_pos (rden_pos x) (rden_pos y)) ?_ ?_
  · refine add_lt_pw (mulI hx.n (natI hy.d)) ?_
    rw [Nat.add_comm]
    exact mulI hy.n (natI hx.d)
  · exact Nat.lt_of_lt_of_le (mulI (natI hx.d) (natI hy.d)) (pw (by omega))
theorem Bq.sub {a b c : Nat} {x y : Rat} (hx : Bq a x) (hy : Bq b y) (hc : a + b + 1 ≤ c) : Bq c (x - y) := by
  refine Bq.mono ?_ hc
  rw [rsub]
  refine bq_div (Int.mul_pos (rden_pos x) (rden_pos y)) ?_ ?_
  · refine sub_lt_pw (mulI hx.n (natI hy.d)) ?_
    rw [Nat.add_comm]
    exact mulI hy.n (natI hx.d)
  · exact Nat.lt_of_lt_of_le (mulI (natI hx.d) (natI hy.d)) (pw (by omega))
theorem Bq.mul {a b c : Nat} {x y : Rat} (hx : Bq a x) (hy : Bq b y) (hc : a + b ≤ c) : Bq c (x * y) := by
  refine Bq.mono ?_ hc
  rw [rmul]
  exact bq_div (Int.mul_pos (rden_pos x) (rden_pos y)) (mulI hx.n hy.n) (mulI (natI hx.d) (natI hy.d))
theorem Bq.div {a b c : Nat} {x y : Rat} (hx : Bq a x) (hy : Bq b y) (p : 0 < y) (hc : a + b ≤ c) : Bq c (x / y) := by
  refine Bq.mono ?_ hc
  rw [rdiv]
  exact bq_div (Int.mul_pos (rden_pos x) (rnum_pos p)) (mulI hx.n (natI hy.d)) (mulI (natI hx.d) hy.n)
/-- a number over D, the number up to Z -/
def Sc (D Z : Nat) (x : Rat) : Prop := ∃ z : Int, x = Rat.divInt z (D : Int) ∧ z.natAbs ≤ Z
theorem Sc.mono {D Z Z' : Nat} {x : Rat} (h : Sc D Z x) (l : Z ≤ Z') : Sc D Z' x := by
  obtain ⟨z, e, b⟩ := h
  exact ⟨z, e, by omega⟩
theorem Sc.up {D Z : Nat} {x : Rat} (k : Nat) (k0 : 0 < k) (h : Sc D Z x) : Sc (k * D) (k * Z) x := by
  obtain ⟨z, e, b⟩ := h
  refine ⟨k * z, ?_, ?_⟩
  · rw [e, Int.natCast_mul, Rat.divInt_mul_left (by omega)]
  · rw [Int.natAbs_mul, Int.natAbs_natCast]
    exact Nat.mul_le_mul_left k b
theorem Sc.add {D Z Z' : Nat} {x y : Rat} (d0 : 0 < D) (h : Sc D Z x) (g : Sc D Z' y) : Sc D (Z + Z') (x + y) := by
  obtain ⟨z, e, b⟩ := h
  obtain ⟨z', e', b'⟩ := g
  refine ⟨z + z', ?_, by omega⟩
  rw [e, e', Rat.divInt_add_divInt _ _ (by omega) (by omega), ← Int.add_mul, Rat.divInt_mul_right (by omega)]
theorem Sc.sub {D Z Z' : Nat} {x y : Rat} (d0 : 0 < D) (h : Sc D Z x) (g : Sc D Z' y) : Sc D (Z + Z') (x - y) := by
  obtain ⟨z, e, b⟩ := h
  obtain ⟨z', e', b'⟩ := g
  refine ⟨z - z', ?_, by omega⟩
  rw [e, e', Rat.divInt_sub_divInt _ _ (by omega) (by omega), ← Int.sub_mul, Rat.divInt_mul_right (by omega)]
theorem Sc.mul {D D' Z Z' : Nat} {x y : Rat} (h : Sc D Z x) (g : Sc D' Z' y) : Sc (D * D') (Z * Z') (x * y) := by
  obtain ⟨z, e, b⟩ := h
  obtain ⟨z', e', b'⟩ := g
  refine ⟨z * z', ?_, ?_⟩
  · rw [e, e', Rat.divInt_mul_divInt, Int.natCast_mul]
  · rw [Int.natAbs_mul]
    exact Nat.mul_le_mul b b'
theorem Sc.bq {D Z b : Nat} {x : Rat} (h : Sc D Z x) (d0 : 0 < D) (hD : D < 2 ^ b) (hZ : Z < 2 ^ b) : Bq b x := by
  obtain ⟨z, e, l⟩ := h
  rw [e]
  exact bq_div (by omega) (by omega) (natI hD)
theorem Sc.of {n : Int} {D : Nat} : Sc D n.natAbs (Rat.divInt n (D : Int)) := ⟨n, rfl, Nat.le_refl _⟩
/-! what is outside -/
def half : Rat := Rat.divInt 1 2
theorem half_two : half + half = 1 := by
  unfold half
  rw [Rat.divInt_add_divInt _ _ (by decide) (by decide)]
  rfl
def sureR (m s l h : Rat) : Bool := decide (s ≤ (m - l) * (h - m))
def stepR (m s l h : Rat) : Rat := if h < m then half * (m - h) else if m < l then s / (l - m) + 1 else if m = h then (m - l) + 1 else half * ((m - l) + s / (h - m))
theorem half_pos : 0 < half := by
  have := half_two
  grind
theorem sure_law {m s l h : Rat} (s0 : 0 ≤ s) (lh : l ≤ h) : sureR m s l h = (decide (l ≤ m) && decide (m ≤ h) && decide (s ≤ (m - l) * (h - m))) := by
  by_cases h1 : l ≤ m
  · by_cases h2 : m ≤ h
    · simp [h1, h2, sureR]
    · have e : (m - l) * (h - m) < 0 := by
        have a : 0 < m - l := by grind
        have b : 0 < m - h := by grind
        have := Rat.mul_pos a b
        grind
      have : ¬ s ≤ (m - l) * (h - m) := by grind
      simp [h1, h2, sureR, this]
  · have e : (m - l) * (h - m) < 0 := by
      have a : 0 < l - m := by grind
      have b : 0 < h - m := by grind
      have := Rat.mul_pos a b
      grind
    have : ¬ s ≤ (m - l) * (h - m) := by grind
    simp [h1, sureR, this]
theorem div_nonneg' {s a : Rat} (s0 : 0 ≤ s) (a0 : 0 < a) : 0 ≤ s / a := by
  rw [Rat.div_def]
  exact Rat.mul_nonneg s0 (Rat.le_of_lt (Rat.inv_pos.mpr a0))
theorem div_pos' {s a : Rat} (s0 : 0 < s) (a0 : 0 < a) : 0 < s / a := by
  rw [Rat.div_def]
  exact Rat.mul_pos s0 (Rat.inv_pos.mpr a0)
theorem step_pos {m s l h : Rat} (s0 : 0 ≤ s) (ns : ¬ s ≤ (m - l) * (h - m)) : 0 < stepR m s l h := by
  unfold stepR
  split
  · exact Rat.mul_pos half_pos (by grind)
  · split
    · have a : 0 < l - m := by grind
      have := div_nonneg' s0 a
      grind
    · split
      · grind
      · have a : 0 < h - m := by grind
        have b := div_nonneg' s0 a
        by_cases c : m = l
        · subst c
          have : 0 < s := by grind
          have := div_pos' this a
          exact Rat.mul_pos half_pos (by grind)
        · exact Rat.mul_pos half_pos (by grind)
theorem step_low {m s l h : Rat} (s0 : 0 ≤ s) (lh : l ≤ h) (ns : ¬ s ≤ (m - l) * (h - m)) : ¬ (l ≤ m - stepR m s l h ∧ m - stepR m s l h ≤ h) := by
  have ht := half_two
  have hp := half_pos
  unfold stepR
  split
  · rename_i c
    have e : half * (m - h) + half * (m - h) = m - h := by
      rw [← Rat.add_mul, ht, Rat.one_mul]
    have := Rat.mul_pos hp (show 0 < m - h by grind)
    grind
  · split
    · rename_i c
      have a : 0 < l - m := by grind
      have := div_nonneg' s0 a
      grind
    · split
      · grind
      · rename_i c1 c2 c3
        have a : 0 < h - m := by grind
        have k : m - l < s / (h - m) := by
          rw [Rat.lt_div_iff a]
          grind
        have e : half * ((m - l) + s / (h - m)) + half * ((m - l) + s / (h - m)) = (m - l) + s / (h - m) := by
          rw [← Rat.add_mul, ht, Rat.one_mul]
        grind
theorem step_up {m s l h : Rat} (s0 : 0 ≤ s) (lh : l ≤ h) (ns : ¬ s ≤ (m - l) * (h - m)) : ¬ (l ≤ m + s / stepR m s l h ∧ m + s / stepR m s l h ≤ h) := by
  have ht := half_two
  have hp := half_pos
  have st := step_pos s0 ns
  have q := div_nonneg' s0 st
  by_cases c1 : h < m
  · grind
  · by_cases c2 : m < l
    · have e : stepR m s l h = s / (l - m) + 1 := by
        unfold stepR
        rw [if_neg c1, if_pos c2]
      rw [e] at st q ⊢
      have a : 0 < l - m := by grind
      have k : s / (s / (l - m) + 1) < l - m := by
        rw [Rat.div_lt_iff' st]
        have := Rat.div_mul_cancel (a := s) (b := l - m) (by grind)
        grind
      grind
    · by_cases c3 : m = h
      · have : 0 < s := by
          subst c3
          grind
        have := div_pos' this st
        grind
      · have e : stepR m s l h = half * ((m - l) + s / (h - m)) := by
          unfold stepR
          rw [if_neg c1, if_neg c2, if_neg c3]
        rw [e] at st q ⊢
        have a : 0 < h - m := by grind
        have k : m - l < s / (h - m) := by
          rw [Rat.lt_div_iff a]
          grind
        have e2 : half * ((m - l) + s / (h - m)) + half * ((m - l) + s / (h - m)) = (m - l) + s / (h - m) := by
          rw [← Rat.add_mul, ht, Rat.one_mul]
        have k2 : h - m < s / (half * ((m - l) + s / (h - m))) := by
          rw [Rat.lt_div_iff st]
          have e3 := Rat.div_mul_cancel (a := s) (b := h - m) (by grind)
          generalize hz : s / (h - m) = z at *
          generalize hy : half * (m - l + z) = y at *
          have : y < z := by grind
          have := Rat.mul_lt_mul_of_pos_left this a
          grind
        grind
theorem out_facts {m s t : Rat} (s0 : 0 ≤ s) (t0 : 0 < t) : 0 < t * t + s ∧ 0 ≤ s / (t * t + s) ∧ 0 ≤ 1 - s / (t * t + s) ∧ m - t ≤ m + s / t ∧
    s / (t * t + s) * (m - t) + (1 - s / (t * t + s)) * (m + s / t) = m ∧ (m + s / t - (m - t)) * (m + s / t - (m - t)) * (s / (t * t + s) * (1 - s / (t * t + s))) = s := by
  have p : 0 < t * t + s := by
    have := Rat.mul_pos t0 t0
    grind
  have q := div_nonneg' s0 p
  have q2 := div_nonneg' s0 t0
  have e1 := Rat.div_mul_cancel (a := s) (b := t * t + s) (by grind)
  have e2 := Rat.div_mul_cancel (a := s) (b := t) (by grind)
  refine ⟨p, q, ?_, by grind, ?_, ?_⟩
  · have : s / (t * t + s) ≤ 1 := by
      rw [Rat.div_def]
      have := Rat.mul_le_mul_of_nonneg_right (show s ≤ t * t + s by have := Rat.mul_pos t0 t0; grind) (Rat.le_of_lt (Rat.inv_pos.mpr p))
      rw [Rat.mul_inv_cancel _ (by grind)] at this
      exact this
    grind
  · generalize s / (t * t + s) = x at *
    generalize s / t = y at *
    have : x * (t + y) = y := by
      have : t * (x * (t + y)) = t * y := by grind
      have h : t⁻¹ * (t * (x * (t + y))) = t⁻¹ * (t * y) := by rw [this]
      rw [← Rat.mul_assoc t⁻¹ t, ← Rat.mul_assoc t⁻¹ t, Rat.inv_mul_cancel _ (by grind), Rat.one_mul, Rat.one_mul] at h
      exact h
    grind
  · generalize s / (t * t + s) = x at *
    generalize s / t = y at *
    have k : x * (t + y) = y := by
      have : t * (x * (t + y)) = t * y := by grind
      have h : t⁻¹ * (t * (x * (t + y))) = t⁻¹ * (t * y) := by rw [this]
      rw [← Rat.mul_assoc t⁻¹ t, ← Rat.mul_assoc t⁻¹ t, Rat.inv_mul_cancel _ (by grind), Rat.one_mul, Rat.one_mul] at h
      exact h
    grind
end V3
set_option maxHeartbeats 4100000
set_option exponentiation.threshold 10000
/-! Words that stand in many laws: the well of draws, what lasts while it changes, fractions as data. -/
namespace V3
open PySem.Spec PySem L2 PyProof.Rows RZ GxR
theorem take_more {α : Type} : ∀ {l : List α} {i : Nat} {x : α}, l[i]? = some x → (l.take (i + 1) = l.take i ++ [x])
  | [], i, x, hnil => by simp at hnil
  | a :: l, 0, x, h => by
    (have e : a = x := Option.some.inj h)
    subst e
    rfl
  | a :: l, i + 1, x, h => by
    (have ih := take_more (l := l) (i := i) (x := x) h)
    (show a :: l.take (i + 1) = a :: l.take i ++ [x])
    rw [ih]
    rfl
theorem ixNat {n : Nat} {k : Int} {i : Nat} (e : k = (i : Int)) (h : i < n) : ixN n k = some i := by
  subst e
  unfold ixN
  (rw [if_pos (by omega), if_pos (by omega)])
  simp
theorem same_updN {H H' : Hp} {p : Addr} {o : HO} (s : Same H H') (h : H p = none) : Same H (upd H' p o) := fun b x e => by
  rw [upd_ne (ne_of_none e h)]
  exact s b x e
theorem dtAll_set {K : PySem.W.Frag} {H : Hp} {v : V} {d : PyData} : ∀ {vs : List V} {ds : List PyData} (i : Nat), DpTAll K H vs ds → DpT K H v d → DpTAll K H (vs.set i v) (ds.set i d)
  | _, _, _, .nil, _ => .nil
  | _, _, 0, .cons a b, h => .cons h b
  | _, _, i + 1, .cons a b, h => .cons a (dtAll_set i b h)
theorem cutV_mem {xs : List V} {lo hi : Option Int} {x : V} (h : x ∈ cutV xs lo hi) : x ∈ xs := List.mem_of_mem_drop (List.mem_of_mem_take h)
theorem tyT {K : PySem.W.Frag} {H : Hp} {a : Addr} {xs : List V} (h : SqT K H a xs) : TyX K H (.ref a) (.type "tuple") := by
  rcases h with (h | ⟨o, h⟩) | ⟨o, its, n, h1, h2, _⟩
  · exact .base (.tup h)
  · exact .fTuple h
  · exact .kTuple h1 h2
theorem tyL {K : PySem.W.Frag} {H : Hp} {a : Addr} {xs : List V} (h : SqL K H a xs) : TyX K H (.ref a) (.type "list") := by
  rcases h with (h | ⟨o, h⟩) | ⟨o, its, n, h1, h2, _⟩
  · exact .base (.lst h)
  · exact .base (.frz h)
  · exact .kList h1 h2
theorem at20 {α : Type} {x y : α} : atI [x, y] 0 = some x := atI_nat (j := 0) rfl
theorem at21 {α : Type} {x y : α} : atI [x, y] 1 = some y := atI_nat (j := 1) rfl
theorem at32 {α : Type} {x y z : α} : atI [x, y, z] 2 = some z := atI_nat (j := 2) rfl
theorem at30 {α : Type} {x y z : α} : atI [x, y, z] 0 = some x := atI_nat (j := 0) rfl
theorem at31 {α : Type} {x y z : α} : atI [x, y, z] 1 = some y := atI_nat (j := 1) rfl
theorem eqv_nil (ds : List PyData) : PyData.eqv (.list ds) (.list []) = decide (ds = []) := by
  cases ds with
  | nil => rfl
  | cons a r => rfl
/-- an item of a list, a tuple, inside of a comprehension -/
theorem ixLK {X : Cx} {K : PySem.W.Frag} (h : X.K = K) : IxR X (rIxL K) := by
  subst h
  exact ix_list
theorem ixTK {X : Cx} {K : PySem.W.Frag} (h : X.K = K) : IxR X (rIxT K) := by
  subst h
  exact ix_tup
/-! ### the well -/
def Well (H : Hp) (a : Addr) (k : Nat) : Prop := ∃ x y z : Int, H a = some (.lst [.int x, .int y, .int z]) ∧ 0 ≤ x ∧ 0 ≤ y ∧ y < 2147483647 ∧ 0 ≤ z ∧ z ≤ k
theorem Well.mono {H : Hp} {a : Addr} {k l : Nat} (h : Well H a k) (hk : k ≤ l) : Well H a l := by
  obtain ⟨x, y, z, h1, h2, h3, h4, h5, h6⟩ := h
  exact ⟨x, y, z, h1, h2, h3, h4, h5, by omega⟩
theorem Well.same {H H' : Hp} {a : Addr} {k : Nat} (h : Well H a k) (e : Same H H') : Well H' a k := by
  obtain ⟨x, y, z, h1, h2⟩ := h
  exact ⟨x, y, z, e _ _ h1, h2⟩
theorem Well.lst {H : Hp} {a : Addr} {k : Nat} (h : Well H a k) : ∃ xs, H a = some (.lst xs) := by
  obtain ⟨x, y, z, h1, _⟩ := h
  exact ⟨_, h1⟩
theorem Well.ne {H : Hp} {a p : Addr} {k : Nat} (h : Well H a k) (e : H p = none) : a ≠ p := fun z => by
  obtain ⟨xs, hx⟩ := h.lst
  rw [z, e] at hx
  cases hx
theorem Well.upd {H : Hp} {a p : Addr} {o : HO} {k : Nat} (h : Well H a k) (n : a ≠ p) : Well (L2.upd H p o) a k := by
  obtain ⟨x, y, z, h1, h2⟩ := h
  exact ⟨x, y, z, by rw [upd_ne n]; exact h1, h2⟩
theorem But.upd {P : Addr} {H H' : Hp} {o : HO} (e : But P H H') : But P H (upd H' P o) := fun b x n h => by
  rw [upd_ne n]
  exact e b x n h
theorem But.updN {P p : Addr} {H H' : Hp} {o : HO} (e : But P H H') (h : H p = none) : But P H (L2.upd H' p o) := fun b x n hb => by
  rw [upd_ne (ne_of_none hb h)]
  exact e b x n hb
theorem But.ktL {P : Addr} {H H' : Hp} {xs : List V} (h : But P H H') (hP : H P = some (.lst xs)) : KeepT H H' :=
  ⟨fun b xs e => h b _ (fun z => by rw [z, hP] at e; cases e) e, fun b o u e => h b _ (fun z => by rw [z, hP] at e; cases e) e⟩
theorem But.ktW {a : Addr} {k : Nat} {H H' : Hp} (h : But a H H') (hP : Well H a k) : KeepT H H' := by
  obtain ⟨xs, e⟩ := hP.lst
  exact h.ktL e
/-! ### fractions as data -/
def frd (x : Rat) : PyData := .tuple [.int x.num, .int (x.den : Int)]
def frO (x : Rat) : HO := .tup [.int x.num, .int (x.den : Int)]
section
variable {K : PySem.W.Frag} {H H' : Hp}
theorem fqT {v : V} {x : Rat} (h : DpT K H v (frd x)) : ∃ p, v = .ref p ∧ SqT K H p [.int x.num, .int (x.den : Int)] := dpFr (q := (x.num, (x.den : Int))) h.dp
theorem fqO {p : Addr} {x : Rat} (h : H p = some (frO x)) : DpT K H (.ref p) (frd x) := .tup (SqT.of h) (.cons (.int _) (.cons (.int _) .nil))
theorem fqI {p : Addr} {x : Rat} {a b : Int} (h : H p = some (.tup [.int a, .int b])) (e1 : x.num = a) (e2 : (x.den : Int) = b) : DpT K H (.ref p) (frd x) := by
  subst e1 e2
  exact fqO h
theorem fqSame {v : V} {x : Rat} (h : DpT K H v (frd x)) (s : Same H H') : DpT K H' v (frd x) := DpT.keep (Same.kt s) h
theorem eqv_frd (x y : Rat) : PyData.eqv (frd x) (frd y) = decide (x = y) := by
  have h : (x = y) ↔ (x.num = y.num ∧ (x.den : Int) = (y.den : Int)) := by
    constructor
    · intro h
      subst h
      exact ⟨rfl, rfl⟩
    · rintro ⟨h1, h2⟩
      exact Rat.ext h1 (by omega)
  have h2 : PyData.eqv (frd x) (frd y) = decide (x.num = y.num ∧ (x.den : Int) = (y.den : Int)) := by
    unfold frd
    simp [PyData.eqv, PyData.eqvAll]
    rfl
  rw [h2, decide_eq_decide]
  exact h.symm
theorem shaped_frd (x : Rat) : SeqAt.shaped (frd x) = true := rfl
theorem shaped_frds (qs : List Rat) : SeqAt.shaped (.list (qs.map frd)) = true := by
  have h1 : ∀ qs : List Rat, PyData.canLayAll0 (qs.map frd) = true := fun qs => by
    induction qs with
    | nil => rfl
    | cons a r ih => simp only [List.map_cons, PyData.canLayAll0, PyData.canLay0, frd, ih, Bool.and_self]
  have h2 : ∀ qs : List Rat, PyData.depthAll (qs.map frd) ≤ 1 := fun qs => by
    induction qs with
    | nil => exact Nat.zero_le _
    | cons a r ih =>
      have e : PyData.depth (frd a) = 1 := rfl
      rw [List.map_cons, PyData.depthAll, e]
      omega
  have := h2 qs
  unfold SeqAt.shaped
  rw [Bool.and_eq_true, decide_eq_true_eq, PyData.depth]
  exact ⟨by rw [PyData.canLay0]; exact h1 qs, by omega⟩
theorem fqLen {vs : List V} {qs : List Rat} (h : DpTAll K H vs (qs.map frd)) : vs.length = qs.length := by rw [dtAll_len h, List.length_map]
theorem fqGet {vs : List V} {qs : List Rat} {i : Nat} {x : Rat} (h : DpTAll K H vs (qs.map frd)) (e : qs[i]? = some x) : ∃ v, vs[i]? = some v ∧ DpT K H v (frd x) := dtAll_get h (by rw [List.getElem?_map, e]; rfl)
theorem fqGetV {vs : List V} {qs : List Rat} {i : Nat} {v : V} (h : DpTAll K H vs (qs.map frd)) (e : vs[i]? = some v) : ∃ x, qs[i]? = some x ∧ DpT K H v (frd x) := by
  obtain ⟨d, hd, hdp⟩ := dtAll_getV h e
  rw [List.getElem?_map] at hd
  obtain ⟨x, hx, rfl⟩ := Option.map_eq_some_iff.mp hd
  exact ⟨x, hx, hdp⟩
end
/-! ### promises of reckoning -/
def spFrac : Sp := fun vs H Q _ => ∃ n u : Int, vs = [.int n, .int u] ∧ 0 < u ∧ u.natAbs < 2 ^ 9000 ∧ ∀ H' p, Same H H' → H' p = some (frO (Rat.divInt n u)) → Q (.ref p) H'
def spR2 (K : PySem.W.Frag) (f : Rat → Rat → Rat) (pre : Rat → Prop) : Sp := fun vs H Q _ => ∃ (v w : V) (x y : Rat), vs = [v, w] ∧ DpT K H v (frd x) ∧ DpT K H w (frd y) ∧ Bq 4000 x ∧ Bq 4000 y ∧ pre y ∧
  ∀ H' p, Same H H' → H' p = some (frO (f x y)) → Q (.ref p) H'
def spR2b (K : PySem.W.Frag) (f : Rat → Rat → Bool) : Sp := fun vs H Q _ => ∃ (v w : V) (x y : Rat), vs = [v, w] ∧ DpT K H v (frd x) ∧ DpT K H w (frd y) ∧ Bq 4000 x ∧ Bq 4000 y ∧ Q (.bl (f x y)) H
theorem mulW4 {i j : Int} (h : i.natAbs < 2 ^ 4000) (h' : j.natAbs < 2 ^ 4000) : CMulW i j := wide_mul h h' (by decide) (by decide) (by decide)
theorem sz4 {i j : Int} (h : i.natAbs < 2 ^ 4000) (h' : j.natAbs < 2 ^ 4000) : (i * j).natAbs < 2 ^ 9000 := Nat.lt_of_lt_of_le (mulI h h') (pw (by decide))
theorem gcdP {n u : Int} (h : 0 < u) : 0 < (Int.gcd n u : Int) := by
  have : 0 < Int.gcd n u := Int.gcd_pos_of_ne_zero_right n (by omega)
  omega
theorem gcdL {n u : Int} (h : 0 < u) : (Int.gcd n u : Int) ≤ u := Int.le_of_dvd h (Int.gcd_dvd_right ..)
/-- what makes a fraction is that number -/
theorem made {n u : Int} {H : Hp} {p : Addr} (h : 0 < u) (e : H p = some (.tup [.int (n / (Int.gcd n u : Int)), .int (u / (Int.gcd n u : Int))])) : H p = some (frO (Rat.divInt n u)) := by
  rw [e]
  unfold frO
  rw [dnum h, dden h]
end V3
namespace V3
open PySem.Spec PySem L2 PyProof.Rows RZ GxR
theorem pi_listK {X : Cx} {K : PySem.W.Frag} {tg l : Expr} {tl : TE} (h : X.K = K) (hl : PE X l tl) : PI X tg l (iList K tl) := by
  subst h
  exact pi_list hl
theorem pi_tupK {X : Cx} {K : PySem.W.Frag} {tg l : Expr} {tl : TE} (h : X.K = K) (hl : PE X l tl) : PI X tg l (iTup K tl) := by
  subst h
  exact pi_tup hl
end V3
/-! Any values: their kinds, how they last, a sequence beside the empty one, repr of a truth. -/
namespace V3
open PySem.Spec PySem L2 PyProof.Rows RZ GxR
/-- a value: a whole number, a tuple, or anything else -/
inductive D where
  | int (i : Int)
  | oth
  | tup (ds : List D)
mutual
/-- v is such a value; nothing of it stands at a -/
inductive An (K : PySem.W.Frag) (a : Addr) (H : Hp) : V → D → Prop
  | int (i : Int) : An K a H (.int i) (.int i)
  | non : An K a H .non .oth
  | bl (b : Bool) : An K a H (.bl b) .oth
  | str (x : Str) : An K a H (.str x) .oth
  | lst {p : Addr} {xs : List V} : SqL K H p xs → p ≠ a → An K a H (.ref p) .oth
  | dic {p : Addr} {kvs : List (Key × V)} : (H p = some (.dK kvs) ∨ ∃ o, H p = some (.frz o (.dK kvs))) → p ≠ a → An K a H (.ref p) .oth
  | tup {p : Addr} {xs : List V} {ds : List D} : SqT K H p xs → True → AnAll K a H xs ds → An K a H (.ref p) (.tup ds)
inductive AnAll (K : PySem.W.Frag) (a : Addr) (H : Hp) : List V → List D → Prop
  | nil : AnAll K a H [] []
  | cons {v : V} {vs : List V} {d : D} {ds : List D} : An K a H v d → AnAll K a H vs ds → AnAll K a H (v :: vs) (d :: ds)
end
/-- all but what stands at a, and but tables of code, stands -/
def KeepA (a : Addr) (H H' : Hp) : Prop := ∀ b o, (b ≠ a ∨ ∀ xs, o ≠ .lst xs) → (∀ q, o ≠ .tbl q) → H b = some o → H' b = some o
section
variable {K : PySem.W.Frag} {a : Addr} {H H' H2 : Hp}
theorem KeepA.trans (h : KeepA a H H') (g : KeepA a H' H2) : KeepA a H H2 := fun b o n t e => g b o n t (h b o n t e)
theorem But.keepA {xs : List V} (h : But a H H') (l : H a = some (.lst xs)) : KeepA a H H' := fun b o n _ e => h b o (fun z => by
  subst z
  rw [l] at e
  cases e
  exact n.elim (fun u => u rfl) (fun u => u xs rfl)) e
theorem Same.keepA (h : Same H H') : KeepA a H H' := fun b o _ _ e => h b o e
theorem Tabbed.keepA {P : Addr} (t : TabG H P) (h : But P H H') : KeepA a H H' := fun b o n tb e => h b o (fun z => by
  obtain ⟨ps, hp, _⟩ := t
  rw [z, hp] at e
  exact tb ps (Option.some.inj e).symm) e
theorem KeepA.sqT {p : Addr} {xs : List V} (k : KeepA a H H') (_ : True) (h : SqT K H p xs) : SqT K H' p xs := by
  (rcases h with (h | ⟨o, h⟩) | h)
  · exact .inl (.inl (k _ _ (.inr fun _ z => nomatch z) (fun _ z => nomatch z) h))
  · exact .inl (.inr ⟨o, k _ _ (.inr fun _ z => nomatch z) (fun _ z => nomatch z) h⟩)
  · exact .inr h
theorem KeepA.sqL {p : Addr} {xs : List V} (k : KeepA a H H') (n : p ≠ a) (h : SqL K H p xs) : SqL K H' p xs := by
  (rcases h with (h | ⟨o, h⟩) | h)
  · exact .inl (.inl (k _ _ (.inl n) (fun _ z => nomatch z) h))
  · exact .inl (.inr ⟨o, k _ _ (.inl n) (fun _ z => nomatch z) h⟩)
  · exact .inr h
theorem KeepA.dic {p : Addr} {kvs : List (Key × V)} (k : KeepA a H H') (n : p ≠ a) (h : H p = some (.dK kvs) ∨ ∃ o, H p = some (.frz o (.dK kvs))) : H' p = some (.dK kvs) ∨ ∃ o, H' p = some (.frz o (.dK kvs)) := by
  rcases h with e | ⟨o, e⟩
  · exact .inl (k _ _ (.inl n) (fun _ z => nomatch z) e)
  · exact .inr ⟨o, k _ _ (.inl n) (fun _ z => nomatch z) e⟩
theorem fastDic {P : Program} {w : World} {h : Heap} {p : Addr} {kvs : List (Key × V)} (ok : HOk P w H h) (x : H p = some (.dK kvs) ∨ ∃ o, H p = some (.frz o (.dK kvs))) : V3.fast h H p = some (.dK kvs) ∨ ∃ o, V3.fast h H p = some (.frz o (.dK kvs)) := by
  rcases x with e | ⟨o, e⟩
  · exact .inr (fast_dK ok e)
  · exact .inr ⟨o, by unfold V3.fast; rw [e]⟩
end
mutual
theorem An.keep {K : PySem.W.Frag} {a : Addr} {H H' : Hp} (k : KeepA a H H') : ∀ {v : V} {d : D}, An K a H v d → An K a H' v d
  | _, _, .int i => .int i
  | _, _, .non => .non
  | _, _, .bl b => .bl b
  | _, _, .str x => .str x
  | _, _, .lst h n => .lst (k.sqL n h) n
  | _, _, .dic h n => .dic (k.dic n h) n
  | _, _, .tup h n x => .tup (k.sqT n h) n (AnAll.keep k x)
theorem AnAll.keep {K : PySem.W.Frag} {a : Addr} {H H' : Hp} (k : KeepA a H H') : ∀ {vs : List V} {ds : List D}, AnAll K a H vs ds → AnAll K a H' vs ds
  | _, _, .nil => .nil
  | _, _, .cons x y => .cons (An.keep k x) (AnAll.keep k y)
end
mutual
theorem An.fast {P : Program} {w : World} {K : PySem.W.Frag} {a : Addr} {h : Heap} {H : Hp} (ok : HOk P w H h) : ∀ {v : V} {d : D}, An K a H v d → An K a (V3.fast h H) v d
  | _, _, .int i => .int i
  | _, _, .non => .non
  | _, _, .bl b => .bl b
  | _, _, .str x => .str x
  | _, _, .lst s n => .lst (fastL ok s) n
  | _, _, .dic e n => .dic (fastDic ok e) n
  | _, _, .tup s n x => .tup (fastT ok s) n (AnAll.fast ok x)
theorem AnAll.fast {P : Program} {w : World} {K : PySem.W.Frag} {a : Addr} {h : Heap} {H : Hp} (ok : HOk P w H h) : ∀ {vs : List V} {ds : List D}, AnAll K a H vs ds → AnAll K a (V3.fast h H) vs ds
  | _, _, .nil => .nil
  | _, _, .cons x y => .cons (An.fast ok x) (AnAll.fast ok y)
end
/-- the name of the kind, as far as it is asked -/
def D.kind : D → String → Prop
  | .int _, T => T = "int"
  | .tup _, T => T = "tuple"
  | .oth, T => T ≠ "int" ∧ T ≠ "tuple"
section
variable {K : PySem.W.Frag} {a : Addr} {H : Hp}
theorem anLen {vs : List V} {ds : List D} (h : AnAll K a H vs ds) : vs.length = ds.length := by
  induction ds generalizing vs with
  | nil =>
    cases h
    rfl
  | cons d ds ih =>
    cases h with
    | cons x y => rw [List.length_cons, List.length_cons, ih y]
theorem anGetV {vs : List V} {ds : List D} {i : Nat} {v : V} (h : AnAll K a H vs ds) (e : vs[i]? = some v) : ∃ d, ds[i]? = some d ∧ An K a H v d := by
  induction ds generalizing vs i with
  | nil =>
    cases h
    simp at e
  | cons x ds ih =>
    cases h with
    | cons b c =>
      cases i with
      | zero =>
        have q := Option.some.inj e
        subst q
        exact ⟨_, rfl, b⟩
      | succ i =>
        have q := ih (i := i) c
        exact q e
theorem anGet {vs : List V} {ds : List D} {i : Nat} {d : D} (h : AnAll K a H vs ds) (e : ds[i]? = some d) : ∃ v, vs[i]? = some v ∧ An K a H v d := by
  induction ds generalizing vs i with
  | nil => simp at e
  | cons x ds ih =>
    cases h with
    | cons b c =>
      cases i with
      | zero =>
        have q : x = d := Option.some.inj e
        subst q
        exact ⟨_, rfl, b⟩
      | succ i =>
        have q := ih (i := i) c
        exact q e
theorem anApp {vs ws : List V} {ds es : List D} (h : AnAll K a H vs ds) (g : AnAll K a H ws es) : AnAll K a H (vs ++ ws) (ds ++ es) := by
  induction ds generalizing vs with
  | nil =>
    cases h
    exact g
  | cons x ds ih =>
    cases h with
    | cons b c => exact .cons b (ih c)
theorem anTake : ∀ {vs : List V} {ds : List D} (i : Nat), AnAll K a H vs ds → AnAll K a H (vs.take i) (ds.take i)
  | _, _, 0, _ => .nil
  | _, _, _ + 1, .nil => .nil
  | _, _, i + 1, .cons x y => .cons x (anTake i y)
theorem anDrop : ∀ {vs : List V} {ds : List D} (i : Nat), AnAll K a H vs ds → AnAll K a H (vs.drop i) (ds.drop i)
  | _, _, 0, h => h
  | _, _, _ + 1, .nil => .nil
  | _, _, i + 1, .cons x y => anDrop i y
theorem anTup {v : V} {ds : List D} (h : An K a H v (.tup ds)) : ∃ p xs, v = .ref p ∧ SqT K H p xs ∧ True ∧ AnAll K a H xs ds := by
  cases h with
  | tup x n y => exact ⟨_, _, rfl, x, n, y⟩
theorem anInt {v : V} {i : Int} (h : An K a H v (.int i)) : v = .int i := by
  cases h
  rfl
/-- its kind, for isinstance -/
theorem An.tyx {v : V} {d : D} (h : An K a H v d) : ∃ T, TyX K H v (.type T) ∧ d.kind T := by
  cases h with
  | int i => exact ⟨"int", .base (.int i), rfl⟩
  | non => exact ⟨"NoneType", .base .non, by decide, by decide⟩
  | bl b => exact ⟨"bool", .base (.bl b), by decide, by decide⟩
  | str x => exact ⟨"str", .base (.str x), by decide, by decide⟩
  | lst s n => exact ⟨"list", tyL s, by decide, by decide⟩
  | dic e n =>
    rcases e with e | ⟨o, e⟩
    · exact ⟨"dict", .base (.dK e), by decide, by decide⟩
    · exact ⟨"dict", .fDict e, by decide, by decide⟩
  | tup s n x => exact ⟨"tuple", tyT s, rfl⟩
end
/-! ### type(x), also of a dict that is held fast -/
section
variable {X : Cx}
variable {pins : List (Addr × Obj)} {σ : L2.St} {H : Hp} {s : Shared}
def rTypA (K : PySem.W.Frag) : List V → Hp → VK → Prop := fun vs H Q => ∃ a x d, vs = [x] ∧ An K a H x d ∧ ∀ T, d.kind T → Q (.ty T) H
theorem An.is {a : Addr} {x : V} {u : Value} {d : D} (I : Inv X pins σ H s) (rx : RelV x u) (t : An X.K a H x d) : ∃ T, s.TypeIs u T ∧ d.kind T ∧ (Value.type T == Value.type "builtin_function_or_method") = false := by
  cases t with
  | int i => exact ⟨"int", (TyB.int i).is I rx, rfl, by decide +kernel⟩
  | non => exact ⟨"NoneType", TyB.non.is I rx, ⟨by decide, by decide⟩, by decide +kernel⟩
  | bl b => exact ⟨"bool", (TyB.bl b).is I rx, ⟨by decide, by decide⟩, by decide +kernel⟩
  | str y => exact ⟨"str", (TyB.str y).is I rx, ⟨by decide, by decide⟩, by decide +kernel⟩
  | lst h n => exact ⟨"list", (TyB.lst h).is I rx, ⟨by decide, by decide⟩, by decide +kernel⟩
  | @dic p kvs h n =>
    rcases h with h | ⟨o, h⟩
    · exact ⟨"dict", (TyB.dK h).is I rx, ⟨by decide, by decide⟩, by decide +kernel⟩
    · refine ⟨"dict", ?_, ⟨by decide, by decide⟩, by decide +kernel⟩
      cases (show u = Value.ref p from rx)
      obtain ⟨_, _, _, vs, _, pr⟩ := (show ObjOk X.prog X.w H s.heap p (.frz o (.dK kvs)) from I.hok p _ h)
      exact pr.typeIs
  | tup h n y => exact ⟨"tuple", (TyB.tup h).is I rx, rfl, by decide +kernel⟩
theorem call_typeA : CallR X (.type "type") (rTypA X.K) := by
  (intro pins s σ H xs us Q I r h)
  obtain ⟨a, x, d, rfl, t, q⟩ := h
  (obtain ⟨u, rfl, rx⟩ := vals1 r)
  obtain ⟨T, h1, h2, h3⟩ := t.is I rx
  exact call_type_of h1 h3 ⟨.ty T, H, I, rfl, q T h2⟩
/-! ### repr of a truth -/
theorem call_repr_bl : CallR X (.builtin "repr") (fun xs H Q => ∃ b, xs = [.bl b] ∧ Q (.str (if b then "True" else "False")) H) := by
  (intro pins s σ H xs us Q I r h)
  obtain ⟨b, rfl, q⟩ := h
  (obtain ⟨u, rfl, rx⟩ := vals1 r)
  cases rx
  exact PySem.P.repr_of_bool ⟨.str _, H, I.tok _, ⟨_, rfl⟩, q⟩
/-! ### a list, a tuple, beside the empty one -/
def rNeNil (K : PySem.W.Frag) : R2 := fun x y H Q => ∃ p q xs, x = .ref p ∧ y = .ref q ∧ ((SqL K H p xs ∧ SqL K H q []) ∨ (SqT K H p xs ∧ SqT K H q [])) ∧ Q (.bl (!decide (xs = []))) H
theorem op_neNil (hu : X.A.units + 64 < cLine) : OpR X (compareOp .NotEq) (rNeNil X.K) := by
  (intro pins s σ H x y v u Q I rx ry h)
  obtain ⟨p, q, xs, rfl, rfl, hh, qq⟩ := h
  (cases (show v = Value.ref p from rx))
  cases (show u = Value.ref q from ry)
  have room : X.A.units < cLine := by omega
  rcases hh with ⟨h1, h2⟩ | ⟨h1, h2⟩
  · obtain ⟨its, rv, pl, zl⟩ := I.list h1
    obtain ⟨its2, rv2, pl2, zl2⟩ := I.list h2
    have l1 := rv.length
    cases rv2
    by_cases e : xs = []
    · subst e
      cases rv
      refine SeqAt.RcNeAt.lists pl.isList pl2.isList rfl room (e := fun _ => true) (fun j h1 h2 => absurd h1 (by simp)) X.prog X.w _ _ ?_
      exact ⟨.bl _, H, I, rfl, qq⟩
    · refine SeqAt.RcNeAt.lists_lengths pl.isList pl2.isList ?_ room X.prog X.w _ _ ?_
      · have : its.length ≠ 0 := by
          rw [← l1]
          exact fun z => e (List.length_eq_zero_iff.mp z)
        simp
        intro z
        rw [z] at this
        exact this rfl
      · have e2 : (!decide (xs = [])) = true := by simp [e]
        rw [e2] at qq
        exact ⟨.bl _, H, I, rfl, qq⟩
  · obtain ⟨its, rv, ⟨o1, a1, a2, n1, a3⟩, zl⟩ := I.tuple h1
    obtain ⟨its2, rv2, ⟨o2, b1, b2, n2, b3⟩, zl2⟩ := I.tuple h2
    have l1 := rv.length
    cases rv2
    refine SeqAt.RcNeAt.tuples (items := its.toArray) (items2 := #[]) ⟨o1, a1, a2, n1, a3⟩ ⟨o2, b1, b2, n2, b3⟩ room (e := fun _ => true) (fun j h1 h2 => absurd h2 (by simp)) X.prog X.w _ _ ?_
    have e2 : (!((List.range (min its.toArray.size (#[] : Array Value).size)).all (fun _ => true) && its.toArray.size == (#[] : Array Value).size)) = !decide (xs = []) := by
      cases xs with
      | nil =>
        cases rv
        rfl
      | cons x r =>
        cases rv with
        | cons u us => rfl
    rw [e2]
    exact ⟨.bl _, H, I, rfl, qq⟩
end
mutual
/-- data of tuples, numbers and others, as a value -/
def conv : PyData → D
  | .int i => .int i
  | .tuple ds => .tup (convs ds)
  | _ => .oth
def convs : List PyData → List D
  | [] => []
  | d :: r => conv d :: convs r
end
theorem convs_map : ∀ (ds : List PyData), convs ds = ds.map conv
  | [] => rfl
  | d :: r => by
    rw [List.map_cons, ← convs_map r]
    rfl
mutual
theorem DpT.an {K : PySem.W.Frag} {a : Addr} {H : Hp} : ∀ {v : V} {d : PyData}, DpT K H v d → An K a H v (conv d)
  | _, _, .non => .non
  | _, _, .bl b => .bl b
  | _, _, .int i => .int i
  | _, _, .str x => .str x
  | _, _, .tup s x => .tup s trivial (DpTAll.an x)
theorem DpTAll.an {K : PySem.W.Frag} {a : Addr} {H : Hp} : ∀ {vs : List V} {ds : List PyData}, DpTAll K H vs ds → AnAll K a H vs (convs ds)
  | _, _, .nil => .nil
  | _, _, .cons x y => .cons (DpT.an x) (DpTAll.an y)
end
end V3
/-! Defs that are called where no repr is under way: their promise, a call of one, and the law's end. -/
namespace V3
open PySem.Spec PySem L2 PyProof.Rows RZ GxR
/-- a promise of a def wherever no repr is under way -/
structure FnG (P : Program) (w : World) (K : PySem.W.Frag) (mg : Str → Option Value) (base : Heap) (k : Nat) (f : Addr) (fd : FuncData) (ps : List Str) (sp : Sp) : Prop where
  many : ∀ vs H Q E, sp vs H Q E → vs.length = ps.length
  goes : ∀ (B : Around) (over : List Env) (t : Shared) (H : Hp) (gs : Args) (ws : List Value) (vs : List V) (Q : VK) (E : XK), B.guards = some [] → Room k B → Env0 P w K mg base B over t H → BindsTo t fd gs (ps.zip ws) → Vals vs ws → sp vs H Q E →
    codeAny (model P w) B (.call (.ref f) gs) (CR CX0 over P w H t Q E) t
structure Dg (P : Program) (w : World) (K : PySem.W.Frag) (mg : Str → Option Value) (base : Heap) (x : Str) (k : Nat) (ps : List Str) (sp : Sp) : Prop where
  ex : ∃ (f : Addr) (fd : FuncData), mg x = some (.ref f) ∧ PySem.W.keepIn K (.ref f) = true ∧ Binds K fd ps [] ∧ FnG P w K mg base k f fd ps sp ∧ ∃ (oc : Value) (od : Option Addr) (osl : Array (Option Value)), K.lookup f = some ⟨oc, od, .func fd, osl⟩
section
variable {mg : Str → Option Value} {base : Heap} {K : PySem.W.Frag} {P : Program} {w : World}
theorem Df.g {x : Str} {ps : List Str} {k : Nat} {sp : Sp} (D : Df P w K mg base x k ps sp) : Dg P w K mg base x k ps sp := by
  obtain ⟨f, fd, g, kp, b, G, l⟩ := D.ex
  exact ⟨f, fd, g, kp, b, ⟨G.len, fun B over t H gs ws vs Q E _ hr => G.run B over t H gs ws vs Q E hr⟩, l⟩
theorem Dg.mk' {x : Str} {st : Stmt} {N ps : List Str} {k : Nat} {sp : Sp} (F : At K mg x st) (S : FnScope N ps (defScope st)) (many : ∀ vs H Q E, sp vs H Q E → vs.length = ps.length)
    (hb : ∀ (kV doc pm : Value) (an : Option Addr) (cdv ct : Value) (us : List Value), us.length = ps.length → bindArgs (PySem.W.fnOf x x (defArgs st) (defBody st) (defScope st) .none kV doc pm an cdv ct) ⟨us, []⟩ = pure (ps.zip us))
    (does : ∀ (f : Addr) (cdv : Value) (B : Around) (outer : List Env) (s : Shared) (H : Hp) (vs : List V) (Q : VK) (E : XK), Room k (B.deeper (envOfC x (defScope st) s.heap.objs.size f cdv)) → B.guards = some [] → sp vs H Q E →
      ∃ t, PSs (cxOf CX0 P w K mg base N x (defScope st) f cdv B outer s H E).nox (defBody st) t ∧ t { nx := fun _ H' => Q .non H', rt := Q } (start N vs) H) : Dg P w K mg base x (k + 1) ps sp := by
  obtain ⟨f, fd, g, F⟩ := F.ex
  have F' := F
  obtain ⟨oc, od, kV, doc, pm, an, cdv, ct, osl, e, lk, code⟩ := F.ex
  subst e
  refine ⟨f, _, g, F.kp, F'.binds hb, ⟨many, fun B over t H gs ws vs Q E quiet room e0 bound same ask => ?_⟩, oc, od, osl, lk⟩
  obtain ⟨tr, typed, reads⟩ := does f cdv B over t H vs Q E (room.deeper _) quiet ask
  have there : ∀ b o, base.get? b = some o → t.heap.get? b = some o := fun b o it => (e0.bs b o it).1
  have kin := e0.mod.kin.keeps there
  refine codeAny_call_function room.depth (kin _ _ lk) rfl S.co S.gen rfl (PySem.W.codeRec_of kin code) (bound _ _ _ _ (wpAny_newFunctionEnv_cells S.kind (fun y hy => ?_) fun env he t1 new => ?_))
  · obtain ⟨n, v⟩ := y
    exact (S.par n (List.of_mem_zip hy).1).imp id fun c => ⟨c, PySem.W.cellsFrom_some _ _ _ (.inl c)⟩
  subst he
  have start := inv_start (CX := CX0) (E := E) S room.hd e0 (many _ _ _ _ ask) same new
  refine ⟨(e0.mod.nolimit.keeps there).keeps new.toInCall.keep, codeAny_func (wpAny_mono (typed.nox.run [] t1 _ H _ start reads) (fun fl t2 done => ?_) fun _ _ z => z)⟩
  cases fl with
  | next =>
    obtain ⟨σ2, H2, J, q⟩ := done
    exact ⟨.non, H2, J.os, J.bare, J.base, J.hok, rfl, q⟩
  | ret u =>
    obtain ⟨v, σ2, H2, J, rv, q⟩ := done
    exact ⟨v, H2, J.os, J.bare, J.base, J.hok, rv, q⟩
  | brk =>
    obtain ⟨_, _, _, never⟩ := done
    exact never.elim
  | cont =>
    obtain ⟨_, _, _, never⟩ := done
    exact never.elim
end
section
variable {X : Cx}
/-- a call of such a def, no repr under way here -/
theorem pe_fng {x : Str} {p pos : Pos} {e : Expr} {es : List Expr} {ta : TA} {k k0 : Nat} {ps : List Str} {sp : Sp} (D : Dg X.prog X.w X.K X.mg X.base x k ps sp) (hk : k ≤ k0) (hr : Room k0 X.A) (quiet : X.A.guards = some []) (ha : PA X (e :: es) ta)
    (hg : Gl X x := by rfl) (hdb : (x == ("__debug__" : Str)) = false := by decide) (he : starEach (e :: es) X.env = (false, eval e X.env) :: starEach es X.env := by rfl) (hpl : (backTo pos (starEach es X.env)).any (·.1) = false := by rfl) :
    PE X (.Call (.Name x p) (e :: es) [] pos) (tFn sp ta) := by
  obtain ⟨f, fd, g, kept, bd, G, _⟩ := D.ex
  refine ⟨fun pins s σ H Q I asks => wpAny_Call_Name_kw (ld_glob I hg g (PySem.W.callWith_K (h₀ := X.base) I.ok.mod.kin kept (thn (ha.run pos pins s σ H _ I asks) fun us s1 ⟨vs, H1, J, same, ask⟩ => ⟨J.kIn, ?_⟩) he hpl) hdb)⟩
  have size : us.length = ps.length := same.length.symm.trans (G.many _ _ _ _ ask)
  have bs := bd s1 us J.kIn (by rw [List.append_nil]; exact size)
  rw [List.append_nil] at bs
  refine wpAny_call (codeAny_mono (G.goes X.A X.stack s1 H1 _ us vs Q E0 quiet (hr.mono hk) J.env0 bs same ask) fun r s2 done => ?_)
  match r, done with
  | .ok (.ret u), done => exact J.after done
end
end V3
/-! repr of data where none is under way; the end of a law whose defs want that. -/
namespace V3
open PySem.Spec PySem L2 PyProof.Rows RZ GxR
def rReprD (K : PySem.W.Frag) : List V → Hp → VK → Prop := fun xs H Q => ∃ v d, xs = [v] ∧ Dp K H v d ∧ isDisplay d = true ∧ d.showable = true ∧ d.hasDict = false ∧ d.depth ≤ 60 ∧ d.shown.length ≤ sizeLine ∧ Q (.str d.shown) H
theorem call_reprD {X : Cx} (quiet : X.A.guards = some []) (small : X.A.units + 64 < cLine) : CallR X (.builtin "repr") (rReprD X.K) := by
  (intro pins s σ H xs us Q I r h)
  obtain ⟨v, d, rfl, hd, disp, sh, nd, dep, len, q⟩ := h
  (obtain ⟨u, rfl, ru⟩ := vals1 r)
  obtain ⟨as, rd⟩ := Dp.reads I d v u hd ru
  obtain ⟨b, rfl⟩ := isRef_of_reads rd disp
  exact repr_of_reads' rd sh (PyData.noDict_hsm nd) quiet (by omega) (fun _ _ z => z) (fun h2 tx tk grown => ⟨.str _, H, I.kept grown, ⟨tx, rfl⟩, q⟩) len
/-- what is tracked when a law begins: its script, if it is none of the kept objects, and the tables of code -/
def scripted (K : PySem.W.Frag) (a : Addr) (T : List Addr) (o : Obj) (ns : List Int) : Hp := fun b => if b ∈ T then some (.tbl #[]) else if b = a ∧ K.lookup a = none then some (.frz o (.lst (ns.map V.int))) else none
section
variable {K : PySem.W.Frag} {a b : Addr} {T : List Addr} {o : Obj} {ns : List Int}
theorem scripted_tab (h : b ∈ T) : scripted K a T o ns b = some (.tbl #[]) := if_pos h
theorem scripted_out (h : b ∉ T) (n : b ≠ a) : scripted K a T o ns b = none := by
  unfold scripted
  rw [if_neg h, if_neg fun z => n z.1]
theorem scripted_some {u : HO} (h : scripted K a T o ns b = some u) : (b ∈ T ∧ u = .tbl #[]) ∨ (b ∉ T ∧ b = a ∧ K.lookup a = none ∧ u = .frz o (.lst (ns.map V.int))) := by
  unfold scripted at h
  by_cases hT : b ∈ T
  · rw [if_pos hT] at h
    exact .inl ⟨hT, (Option.some.inj h).symm⟩
  · rw [if_neg hT] at h
    by_cases hn : b = a ∧ K.lookup a = none
    · rw [if_pos hn] at h
      exact .inr ⟨hT, hn.1, hn.2, (Option.some.inj h).symm⟩
    · rw [if_neg hn] at h
      cases h
end
/-- what stands when a law begins -/
structure Begun (K : PySem.W.Frag) (mg : Str → Option Value) (cs : List (Addr × Addr)) (a : Addr) (vs : List Value) (ns : List Int) (s : Shared) : Prop where
  kin : K.In s.heap
  glob : s.heap.Ns mainGlobals mg
  blt : ∃ mb, s.heap.Ns builtinsNs mb ∧ ∀ x : Str, x ≠ "__name__" → mb x = bootBuiltins x
  nolim : s.heap.NoLimit
  gens : s.gens = #[]
  empty : ∀ p ∈ cs, s.heap.get? p.2 = some { cls := .none, data := .fields #[] }
  out : ∀ p ∈ cs, K.lookup p.2 = none
  head : ∀ p ∈ cs, PySem.W.CodeHd s.heap p.1 p.2
  bm : ∃ (bm : Addr) (ob : Obj), mg "__builtins__" = some (.ref bm) ∧ bm ≠ builtinsNs ∧ s.heap.get? bm = some ob ∧ ob.cls = .type "module" ∧ ob.dict = some builtinsNs ∧ ob.data = .plain
  script : s.heap.get? a = some { cls := .type "list", data := .seq vs.toArray }
  nums : IntsAre vs ns
  few : ns.length ≤ sizeLine
section
variable {K : PySem.W.Frag} {mg : Str → Option Value} {cs : List (Addr × Addr)} {a : Addr} {vs : List Value} {ns : List Int} {s : Shared}
abbrev Hb (K : PySem.W.Frag) (cs : List (Addr × Addr)) (a : Addr) (vs : List Value) (ns : List Int) : Hp := scripted K a (cs.map (·.2)) { cls := .type "list", data := .seq vs.toArray } ns
theorem Begun.tabs (B : Begun K mg cs a vs ns s) {b : Addr} (h : b ∈ cs.map (·.2)) : s.heap.get? b = some { cls := .none, data := .fields #[] } := by
  (obtain ⟨p, hp, rfl⟩ := List.mem_map.mp h)
  exact B.empty p hp
/-- what is neither a list nor a table is not tracked -/
theorem Begun.free (B : Begun K mg cs a vs ns s) {b : Addr} {o : Obj} (e : s.heap.get? b = some o) (n1 : ∀ us n, o.data ≠ .seq us n) (n2 : o.data ≠ .fields #[]) : Hb K cs a vs ns b = none := by
  refine scripted_out (fun z => ?_) fun z => ?_
  · rw [B.tabs z] at e
    exact n2 (by rw [← Option.some.inj e])
  · rw [z, B.script] at e
    cases e
    exact n1 _ _ rfl
theorem Begun.kept (B : Begun K mg cs a vs ns s) {b : Addr} {o : Obj} (e : s.heap.get? b = some o) (n : Hb K cs a vs ns b = none) : (hidT s.heap (Hb K cs a vs ns)).get? b = some o := hidT_get e n
theorem Begun.nsB (B : Begun K mg cs a vs ns s) {b : Addr} {m : Str → Option Value} (h : s.heap.Ns b m) : (hidT s.heap (Hb K cs a vs ns)).Ns b m := by
  obtain ⟨o, es, ep, e, d, r⟩ := h
  exact ⟨o, es, ep, B.kept e (B.free e (fun us n z => by rw [d] at z; cases z) fun z => by rw [d] at z; cases z), d, r⟩
theorem Begun.hok (B : Begun K mg cs a vs ns s) {P : Program} {w : World} : HOk P w (Hb K cs a vs ns) s.heap := by
  intro b u e
  rcases scripted_some e with ⟨m, rfl⟩ | ⟨_, rfl, _, rfl⟩
  · exact B.tabs m
  · exact ⟨B.script, by rw [List.length_map]; exact B.few, vs, _, vals_ints B.nums, B.script⟩
theorem Begun.kinB (B : Begun K mg cs a vs ns s) : K.In (hidT s.heap (Hb K cs a vs ns)) := by
  intro b o e
  refine B.kept (B.kin b o e) ?_
  cases q : Hb K cs a vs ns b with
  | none => rfl
  | some u =>
    rcases scripted_some q with ⟨m, _⟩ | ⟨_, rfl, n, _⟩
    · obtain ⟨p, hp, rfl⟩ := List.mem_map.mp m
      rw [B.out p hp] at e
      cases e
    · rw [n] at e
      cases e
theorem Begun.seq (B : Begun K mg cs a vs ns s) : SqL K (Hb K cs a vs ns) a (ns.map V.int) := by
  have notT : a ∉ cs.map (·.2) := fun z => by
    have e := B.tabs z
    rw [B.script] at e
    cases e
  cases hk : K.lookup a with
  | none => exact .inl (.inr ⟨{ cls := .type "list", data := .seq vs.toArray }, by show scripted _ _ _ _ _ a = _; unfold scripted; rw [if_neg notT, if_pos ⟨rfl, hk⟩]⟩)
  | some o =>
    have e := B.kin a o hk
    rw [B.script] at e
    cases e
    exact .inr ⟨_, vs.toArray, _, hk, rfl, rfl, rfl, by rw [List.size_toArray, B.nums.length]; exact B.few, by simpa using vals_ints B.nums⟩
theorem Begun.tabB (B : Begun K mg cs a vs ns s) {p : Addr × Addr} (hp : p ∈ cs) : LamX.TabB (hidT s.heap (Hb K cs a vs ns)) mg p.1 p.2 := by
  have tp := B.empty p hp
  refine ⟨?_, ?_, fun z => ?_⟩
  · obtain ⟨o, us, f1, f2, f3, f4, f5, f6, f7, at_, r1, r2, r3, r⟩ := B.head p hp
    refine ⟨o, us, f1, f2, f3, f4, f5, f6, f7, B.kept at_ (B.free at_ (fun ws n z => ?_) fun z => ?_), r1, r2, r3, r⟩
    · rw [r2] at z
      cases z
    · rw [r2] at z
      cases z
      simp at r3
  · obtain ⟨bm, ob, b1, b2, b3, b4, b5, b6⟩ := B.bm
    refine ⟨bm, ob, b1, b2, fun z => ?_, fun z => ?_, B.kept b3 (B.free b3 (fun ws n z => by rw [b6] at z; cases z) fun z => by rw [b6] at z; cases z), b4, b5, b6⟩
    · obtain ⟨o, es, ep, e, d, _⟩ := B.glob
      rw [z, e] at b3
      cases b3
      rw [d] at b6
      cases b6
    · rw [z, tp] at b3
      cases b3
      cases b6
  · obtain ⟨o, es, ep, e, d, _⟩ := B.glob
    rw [z, tp] at e
    cases e
    cases d
theorem Begun.env (B : Begun K mg cs a vs ns s) {P : Program} {w : World} : Env0 P w K mg (hidT s.heap (Hb K cs a vs ns)) callerA [] s (Hb K cs a vs ns) := by
  obtain ⟨mb, m1, m2⟩ := B.blt
  obtain ⟨mc, l1, l2⟩ := B.nolim
  exact ⟨rfl, ⟨B.kinB, B.nsB B.glob, ⟨mb, B.nsB m1, m2⟩, ⟨mc, B.nsB l1, l2⟩⟩, fun b o e => of_hidT e, Nat.le_of_eq (hidT_size _ _), trivial, (fun b hb => absurd (show b ∈ ([] : List Addr) from hb) List.not_mem_nil), B.hok, .of_eq B.gens⟩
/-- what was stands after: all but the tables, which grow -/
theorem Begun.old (B : Begun K mg cs a vs ns s) {P : Program} {w : World} {H' : Hp} {h' : Heap} (un : Un [] [] (Hb K cs a vs ns) H' s.heap h') (ok : HOk P w H' h') : OldK s.heap h' := by
  have way : ∀ b o, s.heap.get? b = some o → asItWas s.heap h' b o ∧ ∃ o', h'.get? b = some o' := fun b o e => by
    cases q : Hb K cs a vs ns b with
    | none =>
      have z := un.keep b o e q (fun x => nomatch x) (fun x => nomatch x)
      exact ⟨.inl z, o, z⟩
    | some u =>
      rcases scripted_some q with ⟨m, rfl⟩ | ⟨_, rfl, _, rfl⟩
      · obtain ⟨p, hp, rfl⟩ := List.mem_map.mp m
        obtain ⟨more, grown⟩ := un.tbls _ _ q
        have z := ok _ _ grown
        have e1 := B.empty p hp
        rw [e1] at e
        cases e
        exact ⟨.inr (.inl ⟨((B.head p hp).tab e1).isCodeTable, rfl, #[], more, rfl, z⟩), _, z⟩
      · have z := (ok _ _ (un.frzs _ _ _ q)).1
        rw [B.script] at e
        cases e
        exact ⟨.inl z, _, z⟩
  exact ⟨fun b o e => (way b o e).1, fun b o e => (way b o e).2⟩
/-- the law's end, its defs' promises given where no repr is under way -/
theorem Begun.runs (B : Begun K mg cs a vs ns s) {P : Program} {w : World} {k : Nat} {fa : Addr} {fd : FuncData} {x : Str} {sp : Sp} (room : Room k callerA)
    (F : FnG P w K mg (hidT s.heap (Hb K cs a vs ns)) k fa fd [x] sp) (bound : BindsTo s fd ⟨[.ref a], []⟩ [(x, .ref a)])
    (ask : sp [.ref a] (Hb K cs a vs ns) (fun v _ => v = .bl true) fun _ _ _ => False) :
    codeAny (model P w) callerA (.call (.ref fa) ⟨[.ref a], []⟩) (fun r s' => r = .ok (.ret (.bool true)) ∧ OldK s.heap s'.heap ∧ s'.os = s.os ∧ AllBare s'.gens) s := by
  refine codeAny_mono (F.goes callerA [] s _ _ [.ref a] [.ref a] _ _ rfl room B.env bound (.cons rfl .nil) ask) fun r s2 done => ?_
  match r, done with
  | .ok (.ret u), done =>
    obtain ⟨v, H2, os, bare, un, ok, rv, rfl⟩ := done
    exact ⟨by rw [show u = .bool true from rv], B.old un ok, os, bare⟩
end
/-- as the library's own, for promises where no repr is under way -/
def LawG (l : PySem.W.OpenLaw) (w : World) (K : PySem.W.Frag) (k n : Nat) (x : Str) (mg : Str → Option Value) (fa : Addr) (h : Heap) : Prop :=
  ∃ (fd : FuncData) (cs : List (Addr × Addr)) (sp : Sp), (∀ r ∈ cs, h.get? r.2 = some { cls := .none, data := .fields #[] }) ∧ (∀ r ∈ cs, K.lookup r.2 = none) ∧ (∀ r ∈ cs, PySem.W.CodeHd h r.1 r.2) ∧ (∀ (s : Shared) (u : Value), BindsTo s fd ⟨[u], []⟩ [(x, u)]) ∧
    (∀ (H : Hp) (a : Addr) (ns : List Int), ns.length ≤ n → (∀ p ∈ cs, H p.2 = some (.tbl #[])) → SqL K H a (ns.map V.int) → sp [.ref a] H (fun v _ => v = .bl true) fun _ _ _ => False) ∧
    ∀ base : Heap, K.In base → base.Ns mainGlobals mg → (∀ p ∈ cs, LamX.TabB base mg p.1 p.2) → FnG l.prog w K mg base k fa fd [x] sp
theorem walkG {l : PySem.W.OpenLaw} {n k : Nat} {q : Program} {loose : List Str} {XP : (Str → Option Value) → Heap → Prop} {YP : World → Heap → Prop} {d : DefRec} {x : Str} (most : l.most = some n) (few : n ≤ sizeLine) (plain : d.params.defaults = []) (room : Room k callerA)
    (F : ∀ (w : World) (mg : Str → Option Value) (fa : Addr) (h : Heap), YP w h → h.Ns mainGlobals mg → mg d.name = some (.ref fa) → ∃ K : PySem.W.Frag, K.In h ∧ LawG l w K k n x mg fa h) : PySem.W.WalkO q loose XP YP l.row.toRowW d [] (fun f vs => PySem.call f vs) := by
  refine Att.attach_callB most plain fun w s0 s mg mb fa o pm cd doc a vs ns G Y _ _ _ named script nums short _ none_ => ?_
  obtain ⟨K, kin, fd, cs, sp, empty, out, head, bound, asks, does⟩ := F w mg fa _ Y G.T.g named
  have B : Begun K mg cs a vs ns s := ⟨kin, G.T.g, ⟨mb, G.T.b, G.T.builtins⟩, G.T.nolimit, none_, empty, out, head, G.T.bmain, script, nums, Nat.le_trans short few⟩
  exact B.runs room (does _ B.kinB (B.nsB B.glob) fun p hp => B.tabB hp) (bound _ _) (asks _ a ns short (fun p hp => scripted_tab (List.mem_map.mpr ⟨p, hp, rfl⟩)) B.seq)
end V3
set_option maxHeartbeats 8100000
/-! any(x[0] for x in t). -/
namespace V3
open PySem.Spec PySem L2 PyProof.Rows GxR
theorem any_range (zs : List Int) : ((List.range zs.length).any fun i => (zs[i]?.getD 0) != 0) = zs.any fun z => z != 0 := by
  (rw [Bool.eq_iff_iff, List.any_eq_true, List.any_eq_true])
  constructor
  · rintro ⟨i, hi, h⟩
    have l := List.mem_range.mp hi
    rw [List.getElem?_eq_getElem l] at h
    exact ⟨zs[i], List.getElem_mem l, h⟩
  · rintro ⟨z, hz, h⟩
    obtain ⟨i, hi⟩ := List.getElem?_of_mem hz
    refine ⟨i, List.mem_range.mpr (List.getElem?_eq_some_iff.mp hi).1, ?_⟩
    rw [hi]
    exact h
section
variable {w : World} {prog : Program} {A : Around}
/-- any(..) over such a walk of whole numbers -/
theorem any_loopI {I : Addr} {wr fs : List Addr} {n : Nat} {P : Nat → Value → Prop} {St : Nat → Shared → Prop} {R : Result → Shared → Prop} (Wk : WalksV prog w A.in1 I wr fs n P St) (tr : Nat → Bool) (isI : ∀ i v, P i v → ∃ z tz, v = .int z tz ∧ (z != 0) = tr i) :
    ∀ (k i : Nat) (t : Shared), n - i = k → i ≤ n → St i t → (∀ t', MovedV wr fs t t' → R (.ok (.ret (.bool (((List.range n).drop i).any tr)))) t') → codeAny (model prog w) A (.builtin "any.loop" ⟨[.ref I], []⟩) R t := by
  intro k
  induction k with
  | zero =>
    intro i t ek il st want
    obtain rfl : i = n := by omega
    (refine codeAny_builtin F.entry_any_loop ?_)
    (rw [Around.under_plainId F.plain_any_loop _])
    show wpAny _ A.in1 (pyNext (.ref I) >>= _) _ _ t
    refine wpAny_bind (Wk.done t _ _ st fun t' mv => wpAny_bind (wpAny_rule (wpAny_pure ?_)))
    have z := want t' mv
    rw [List.drop_of_length_le (Nat.le_of_eq List.length_range)] at z
    exact z
  | succ k again =>
    intro i t ek il st want
    have lt : i < n := by omega
    have cut : (List.range n).drop i = i :: (List.range n).drop (i + 1) := range_drop lt
    (refine codeAny_builtin F.entry_any_loop ?_)
    (rw [Around.under_plainId F.plain_any_loop _])
    show wpAny _ A.in1 (pyNext (.ref I) >>= _) _ _ t
    refine wpAny_bind (Wk.item i t _ _ lt st fun v t' pv st' mv => ?_)
    obtain ⟨z0, tz, rfl, ez⟩ := isI i v pv
    (refine wpAny_bind (wpAny_holding (truthy_int ?_)))
    rw [ez]
    (refine wpAny_bind (wpAny_letGo ?_))
    rw [cut] at want
    cases eb : tr i with
    | false =>
      simp only [Bool.false_eq_true, if_false, ite_false]
      refine wpAny_pure ⟨plainId_quiet F.plain_any_loop _, again (i + 1) _ (by omega) lt st' fun t2 mv2 => ?_⟩
      have z := want t2 (mv.trans mv2)
      rw [List.any_cons, eb, Bool.false_or] at z
      exact z
    | true =>
      simp only [if_true]
      (refine wpAny_bind (wpAny_rule (wpAny_pure ?_)))
      have z := want t' mv
      rw [List.any_cons, eb, Bool.true_or] at z
      exact z
theorem call_anyI {E : Value → Shared → Prop} {s : Shared} {x : Value} {Q : Value → Shared → Prop}
    (h : wpAny (model prog w) A.in1 (pyIter x) (fun it t => ∃ I wr fs n P St tr, it = .ref I ∧ WalksV prog w A.in1 I wr fs n P St ∧ St 0 t ∧ (∀ i v, P i v → ∃ z tz, v = .int z tz ∧ (z != 0) = tr i) ∧ ∀ t', MovedV wr fs t t' → Q (.bool ((List.range n).any tr)) t') E s) :
    (wpAny (model prog w) A (call (.builtin "any") [x]) Q E s) := by
  (refine call_function_tree F.kind_any F.plain_any F.entry_any (F.args_any1 _) ?_)
  unfold Builtin.«any»
  (refine wpAny_bind (m := oneArg "any" _) (wpAny_pure ?_))
  refine wpAny_bind (wpAny_mono h (fun it t ht => ?_) fun _ _ z => z)
  obtain ⟨I, wr, fs, n, P, St, tr, rfl, Wk, st, isI, want⟩ := ht
  exact wpAny_pure ⟨plainId_quiet F.plain_any_loop _, any_loopI Wk tr isI n 0 t rfl (Nat.zero_le _) st fun t' mv => by simpa using want t' mv⟩
end
section
variable {X : Cx}
/-- x[0] -/
abbrev firstX (x : Str) (p0 p1 p2 : Pos) (jc : Nat) : Expr := .Subscript (.Name x p0) (.Constant (.int 0) jc p1) p2
/-- a tuple of tuples whose first items are these whole numbers -/
def Firsts (K : PySem.W.Frag) (H : Hp) (xs : List V) (zs : List Int) : Prop := xs.length = zs.length ∧ ∀ (i : Nat) (x : V) (z : Int), xs[i]? = some x → zs[i]? = some z → ∃ (b : Addr) (ys : List V), x = .ref b ∧ SqT K H b ys ∧ ys[0]? = some (.int z)
def tAnyF (X : Cx) (P : Addr) (te : TE) : TE := fun σ H Q => te σ H fun v H1 => ∃ (a : Addr) (xs : List V) (zs : List Int), v = .ref a ∧ SqT X.K H1 a xs ∧ TabG H1 P ∧ Firsts X.K H1 xs zs ∧ ∀ H2, Tabbed P H1 H2 → Q (.bl (zs.any fun z => z != 0)) H2
theorem pe_anyF {c P : Addr} {iter : Expr} {x : Str} {px p p0 p1 p2 gpos pos : Pos} {jc : Nat} {scope : Scope} {te : TE} {k : Nat}
    (hr : Room (k + 1) X.A) (hg : Gl X "any") (hma : X.mg "any" = none) (TB : TabB X.base X.mg c P) (hcode : X.env.code = .ref c) (S : GenS X.env scope x) (hi : PE X iter te)
    (dx : (x == ("__debug__" : Str)) = false) (nofold : ∀ v, genFold iter X.env v = pure v)
    (he : starEach [.GeneratorExp (firstX x p0 p1 p2 jc) [⟨.Name x px, iter, [], 0⟩] scope gpos] X.env = (false, eval (.GeneratorExp (firstX x p0 p1 p2 jc) [⟨.Name x px, iter, [], 0⟩] scope gpos) X.env) :: starEach [] X.env := by rfl) :
    PE X (.Call (.Name "any" p) [.GeneratorExp (firstX x p0 p1 p2 jc) [⟨.Name x px, iter, [], 0⟩] scope gpos] [] pos) (tAnyF X P te) := by
  (refine ⟨fun pins s σ H Q I h => ?_⟩)
  refine wpAny_Call_Name_kw (ld_blt (u := .builtin "any") I hg hma (by decide +kernel) ?_)
  refine PyProof.Rows.callWith_builtin1 (id := "any") ?_ he (by rfl)
  rw [he]
  show wpAny _ _ (spliced ((false, eval (.GeneratorExp (firstX x p0 p1 p2 jc) [⟨.Name x px, iter, [], 0⟩] scope gpos) X.env) :: backTo pos (starEach [] X.env))) _ _ s
  refine Calls.spliced_cons (genexpF hr.hd S.co (closure_ok S.free) S.cell S.dot S.loc S.kind (by have := hr.dp; omega) ?_ nofold)
  refine thn (hi.run pins s σ H _ I h) fun xv s1 ⟨v, H1, I1, rv, a, xs, zs, ev, hsq, tab, firsts, want⟩ => ?_
  subst ev
  cases rv
  obtain ⟨ptab, hP, htr⟩ := tab
  obtain ⟨its, rvs, pl, zl⟩ := I1.tuple hsq
  have lenI := rvs.length
  have tupA : s1.heap.IsTuple a its.toArray := by
    obtain ⟨ob, q1, q2, q3, q4⟩ := pl
    exact ⟨ob, q1, q2, q3, q4⟩
  refine wpAny_pyIter_tuple tupA ?_
  obtain ⟨oI, hoI⟩ : ∃ oI : Obj, oI = { cls := .type "tuple_iterator", data := .fields #[.ref a, .int 0 0] } := ⟨_, rfl⟩
  rw [← hoI]
  have freshO : oI.isFreed = false := by rw [hoI]; rfl
  have atP : s1.heap.get? P = some { cls := .none, data := .fields ptab } := I1.hok P _ hP
  have ltP : P < s1.heap.objs.size := Heap.lt_size atP
  have atP2 : (s1.heap.push oI).get? P = some { cls := .none, data := .fields ptab } := Heap.get?_push_of_some _ atP
  have hdC : PySem.W.CodeHd (s1.heap.push oI) c P := TB.code.keeps fun b u e => Heap.get?_push_of_some _ (I1.bk b u e)
  have nol : (s1.heap.push oI).NoLimit := I1.nolimit.push oI
  have szO : (s1.heap.push oI).objs.size = s1.heap.objs.size + 1 := Heap.size_push ..
  have csB : ∃ o, X.base.get? cStatics = some o := by
    obtain ⟨_, q, _⟩ := I1.ok.mod.nolimit
    obtain ⟨o, es, ep, ho, _⟩ := q
    exact ⟨o, ho⟩
  have notFr : ∀ b o, X.base.get? b = some o → b ∉ frs X.stack := fun b o it z => by
    have := (frs_apart I1.stack z).1
    rw [it] at this
    cases this
  have frLow : ∀ b ∈ frs X.stack, b < s1.heap.objs.size := fun b z => by
    obtain ⟨_, o, ho, _⟩ := frs_apart I1.stack z
    exact Heap.lt_size ho
  have frNotP : P ∉ frs X.stack := fun z => by
    have := I1.stkFree P z
    rw [hP] at this
    cases this
  have aFr : a ∉ frs X.stack := fun z => by
    rcases hsq with ((e | ⟨o, e⟩) | ⟨o, it2, n2, e, _⟩)
    · have := I1.stkFree a z
      rw [e] at this
      cases this
    · have := I1.stkFree a z
      rw [e] at this
      cases this
    · exact notFr a o (I1.ok.mod.kin a o e) z
  have aLow : a < s1.heap.objs.size := by
    obtain ⟨ob, q1, _⟩ := tupA
    exact Heap.lt_size q1
  -- behind the code object
  have cont : ∀ (code : Value) (hp3 : Heap) (tk : Nat) (ptab3 : Array Value), Heap.ExtBut P (s1.heap.push oI) hp3 → (s1.heap.push oI).objs.size ≤ hp3.objs.size → hp3.get? P = some { cls := .none, data := .fields ptab3 } → (∃ more, ptab3 = ptab ++ more) → TriplesOk ptab3.toList →
      wpAny (model X.prog X.w) X.A (builtinsFor X.env.globals X.env.builtins) (fun bi t4 => MadeF X.prog X.w X.A X.env (firstX x p0 p1 p2 jc) iter x px [] scope (cloFrom X.env.cells scope.names []) gpos
        (fun g t5 => wpAny (model X.prog X.w) X.A (spliced (backTo pos (starEach [] X.env))) (fun vs t6 => wpAny (model X.prog X.w) X.A (call (.builtin "any") (g :: vs)) (EP X pins σ Q) X.xe t6) X.xe t5) (.ref s1.heap.objs.size) code bi t4) X.xe { s1 with heap := hp3, toks := tk } := by
    intro code hp3 tk ptab3 hx3 sz3 atP3 grown ok3
    (obtain ⟨bm, ob, e1, e2, e3, e4, e5, e6, e7, e8⟩ := TB.bm)
    have keep3 : ∀ b u, b ≠ P → s1.heap.get? b = some u → hp3.get? b = some u := fun b u nb it => hx3 b u nb (Heap.get?_push_of_some _ it)
    have big3 : s1.heap.objs.size + 1 ≤ hp3.objs.size := by
      rw [← szO]
      exact sz3
    have baseNP : ∀ b o, X.base.get? b = some o → b ≠ P := fun b o it z => by
      have := (I1.bs b o it).2
      rw [z, hP] at this
      cases this
    obtain ⟨oCs, csAt⟩ := csB
    have csLow : cStatics < s1.heap.objs.size := Heap.lt_size (I1.bk _ _ csAt)
    have aNP : a ≠ P := fun z => by
      obtain ⟨ob2, q1, _, _, q4⟩ := tupA
      rw [z, atP] at q1
      cases q1
      cases q4
    refine wpAny_builtinsFor (m := X.mg) (by rw [I1.ok.glob]; exact ((I1.mod.glob.keeps I1.bk).push oI).extBut hx3 TB.gP) e1 e2 (keep3 _ _ e4 (I1.bk _ _ e5)) e6 e7 e8 ?_
    refine ⟨I1.bare, s1.heap.objs.size, [s1.heap.objs.size, a], [s1.heap.objs.size], hp3.objs.size :: frs X.stack, its.toArray.size, (fun i v => its.toArray[i]? = some v), (fun i h => h.IsTupleIter s1.heap.objs.size a i ∧ h.IsTuple a its.toArray), (fun _ => true), (fun i y => ∃ z tz, zs[i]? = some z ∧ y = .int z tz), rfl,
      fun B hB => Walks.tuple hB _ a (Nat.ne_of_lt aLow) _, ⟨⟨oI, hx3 _ _ (Nat.ne_of_gt ltP) (Heap.get?_push_size _ freshO), by rw [hoI], by rw [hoI]; rfl⟩, ?_⟩, ?_, nol.extBut hx3 (baseNP _ _ csAt), ?_, ?_, ?_, ?_, ?_, ?_⟩
    · obtain ⟨ob2, q1, q2⟩ := tupA
      exact ⟨ob2, keep3 _ _ aNP q1, q2⟩
    · intro b hb
      show b < hp3.objs.size
      rcases List.mem_cons.mp hb with (z | z)
      · rw [z]
        exact big3
      · (rw [List.mem_singleton.mp z])
        exact Nat.lt_of_lt_of_le aLow (Nat.le_trans (Nat.le_succ _) big3)
    · intro z
      have := List.mem_singleton.mp z
      rw [this] at csLow
      exact Nat.lt_irrefl _ csLow
    · intro b hb
      show b ≤ hp3.objs.size
      rcases List.mem_cons.mp hb with (z | z)
      · rw [z]
        exact Nat.le_refl _
      · exact Nat.le_of_lt (Nat.lt_of_lt_of_le (frLow b z) (Nat.le_trans (Nat.le_succ _) big3))
    · intro b hb hf
      rcases List.mem_cons.mp hb with (z | z)
      · subst z
        rcases List.mem_cons.mp hf with (y | y)
        · exact Nat.ne_of_lt big3 y
        · exact Nat.lt_irrefl _ (frLow _ y)
      · have z2 := List.mem_singleton.mp z
        subst z2
        rcases List.mem_cons.mp hf with (y | y)
        · exact Nat.ne_of_lt (Nat.lt_of_lt_of_le aLow (Nat.le_trans (Nat.le_succ _) big3)) y
        · exact aFr y
    · intro z
      rcases List.mem_cons.mp z with (y | y)
      · exact Nat.ne_of_lt (Nat.lt_of_lt_of_le csLow (Nat.le_trans (Nat.le_succ _) big3)) y
      · exact notFr _ _ csAt y
    · intro ref href
      refine ⟨fun B Ex i v t mp hB fB dB uB bT dv ns hv kept => tests_none ⟨rfl, ⟨rfl, bT, KM.exact (fun _ _ it => it)⟩⟩, fun B Ex i v t mp hB fB dB uB bT dv _ ns hv kept => ?_⟩
      rw [over_frames I1.ok.frames] at fB
      have both : ∀ b o, b ≠ P → s1.heap.get? b = some o → (b ∉ frs X.stack → t.heap.get? b = some o) ∧ ∃ sl, t.heap.get? b = some { o with slots := sl } := fun b o nb it => by
        have lt := Heap.lt_size it
        have ltc : b < hp3.objs.size := Nat.lt_of_lt_of_le lt (Nat.le_trans (Nat.le_succ _) big3)
        obtain ⟨p1, p2⟩ := kept b (List.mem_range.mpr ltc) (fun z => by rw [List.mem_singleton.mp z] at lt; exact Nat.lt_irrefl _ lt) o (href _ _ (keep3 b o nb it))
        exact ⟨fun nf => p1 fun z => (List.mem_cons.mp z).elim (fun y => Nat.ne_of_lt ltc y) nf, p2⟩
      have baseT : ∀ b o, X.base.get? b = some o → t.heap.get? b = some o := fun b o it => (both b o (baseNP b o it) (I1.bk b o it)).1 (notFr b o it)
      obtain ⟨oC, esC, epC, atC, datC, moreC⟩ := id ns
      have ltC : hp3.objs.size < t.heap.objs.size := Heap.lt_size atC
      have bszS : X.base.objs.size ≤ s1.heap.objs.size := Nat.le_trans I1.ok.bsz I1.sz
      have li : i < its.length := by
        have := (Array.getElem?_eq_some_iff.mp dv).1
        simpa using this
      have hxi : xs[i]? = some xs[i] := List.getElem?_eq_getElem (by omega)
      obtain ⟨u, hu, ru⟩ := rvs.get hxi
      have ev : u = v := by
        have q : its.toArray[i]? = some u := by simpa using hu
        rw [q] at dv
        exact Option.some.inj dv
      subst ev
      have lz : i < zs.length := by
        rw [← firsts.1]
        omega
      have hzi : zs[i]? = some zs[i] := List.getElem?_eq_getElem lz
      obtain ⟨bb, ys, exi, sqb, hy0⟩ := firsts.2 i _ _ hxi hzi
      rw [exi] at ru
      cases (show u = Value.ref bb from ru)
      obtain ⟨its2, rv2, pl2, zl2⟩ := I1.tuple sqb
      obtain ⟨u0, hu0, ru0⟩ := rv2.get hy0
      obtain ⟨tz, rfl⟩ : ∃ tz, u0 = .int zs[i] tz := ru0
      have tupB : t.heap.IsTuple bb its2.toArray := by
        obtain ⟨ob2, q1, q2, q3, q4⟩ := pl2
        have nb : bb ≠ P := fun z => by
          rw [z, atP] at q1
          cases q1
          cases q4
        have nf : bb ∉ frs X.stack := fun z => by
          obtain ⟨_, o3, ho3, n3⟩ := frs_apart I1.stack z
          rcases sqb with ((e | ⟨o, e⟩) | ⟨o, it2, n2, e, _⟩)
          · have := I1.stkFree bb z
            rw [e] at this
            cases this
          · have := I1.stkFree bb z
            rw [e] at this
            cases this
          · exact notFr bb o (I1.ok.mod.kin bb o e) z
        exact ⟨ob2, (both bb ob2 nb q1).1 nf, q2, q3, q4⟩
      have small : its2.toArray.size < 2 ^ 63 := by
        rw [List.size_toArray, ← rv2.length]
        exact Nat.lt_of_le_of_lt zl2 (by decide)
      refine Subscript_ (wpAny_Name (wpAny_loadName_local (by exact S.kind) (by exact S.loc) ns hv ?_) dx)
      refine wpAny_Constant_int (subscriptTail_builtinR (x := .int zs[i] tz) tupB.typeIs slot_tuple_getitem.lookup (getItem_tuple (j := 0) tupB (by omega) (by omega) ?_ (by simpa using hu0) ⟨rfl, ⟨⟨_, _, hzi, rfl⟩, rfl, bT, KM.exact fun _ _ it => it⟩⟩) rfl)
      exact PySem.StrLaws.seqIndex_nonneg (by decide) (by rw [List.size_toArray]; have := (List.getElem?_eq_some_iff.mp hu0).1; omega)
    · intro g hp5 tk5 gs gsb ltg szg k5 Wk at5
      refine Calls.spliced_nil (call_anyI ?_)
      have pall : passing (fun _ => true) its.toArray.size 0 = List.range its.toArray.size := GxR.passing_true _
      refine Wk.in4.self _ _ _ at5 ⟨g, _, _, _, _, _, (fun i => (zs[i]?.getD 0) != 0), rfl, Wk.in4, at5, fun j y hy => ?_, fun t' mv => ?_⟩
      · obtain ⟨i, hi2, hf⟩ := hy
        rw [pall, List.getElem?_range (by
          have := (List.getElem?_eq_some_iff.mp hi2).1
          rw [List.length_range] at this
          exact this)] at hi2
        obtain ⟨z0, tz, h1, h2⟩ := hf
        rw [← Option.some.inj hi2] at h1
        refine ⟨z0, tz, h2, ?_⟩
        show (z0 != 0) = ((zs[j]?.getD 0) != 0)
        rw [h1]
        rfl
      · obtain ⟨more, rfl⟩ := grown
        have offW : ∀ b, b < s1.heap.objs.size → b ∉ hp3.objs.size :: [s1.heap.objs.size] := fun b lt z => by
          rcases List.mem_cons.mp z with (y | y)
          · exact Nat.ne_of_lt (Nat.lt_of_lt_of_le lt (Nat.le_trans (Nat.le_succ _) big3)) y
          · exact Nat.ne_of_lt lt (List.mem_singleton.mp y)
        have kB : ∀ b o, b < s1.heap.objs.size → hp3.get? b = some o → (b ∉ frs X.stack → t'.heap.get? b = some o) ∧ ∃ sl, t'.heap.get? b = some { o with slots := sl } := fun b o lt it => by
          obtain ⟨p1, p2⟩ := mv.heap b o (offW b lt) (k5 b o it)
          exact ⟨fun nf => p1 fun z => (List.mem_cons.mp z).elim (fun y => Nat.ne_of_lt (Nat.lt_of_lt_of_le lt (Nat.le_trans (Nat.le_succ _) big3)) y) nf, p2⟩
        have J := inv_gen (t' := t') (more := more) I1 hP mv.os mv.bare (fun b o nb it => kB b o (Heap.lt_size it) (keep3 b o nb it)) ((kB P _ ltP atP3).1 frNotP)
        have len : (passing (fun _ => true) its.toArray.size 0).length = xs.length := by
          rw [pall, List.length_range, List.size_toArray]
          omega
        rw [len]
        have ev : ((List.range xs.length).any fun i => (zs[i]?.getD 0) != 0) = zs.any fun z => z != 0 := by
          rw [firsts.1]
          exact any_range zs
        rw [ev]
        exact ⟨.bl _, _, J, rfl, want _ ⟨⟨ptab ++ more, upd_same, ok3⟩, fun b nb => upd_ne nb⟩⟩
  refine ⟨nol, ?_⟩
  cases among : codeAmong gpos ptab.toList with
  | none =>
    refine wpAny_genexprCodeX hcode (hdC.code atP2 htr) (hdC.tab atP2) among fun c2 hp2 tk hx2 ge2 lt2 isC _ tabA _ => ?_
    obtain ⟨o1, vs, f1, tf, fl, tg, inF, tx, tt, op, _, _, _, _, _, _, _, _, _, trs, _⟩ := isC
    exact cont _ hp2 tk _ hx2 (Nat.le_trans ge2 (Nat.le_of_lt lt2)) tabA.2 ⟨_, rfl⟩ trs
  | some cv =>
    refine wpAny_genexprCode_hit hcode (hdC.code atP2 htr) among ?_
    exact cont cv (s1.heap.push oI) s1.toks ptab (Heap.ExtBut.refl _ _) (Nat.le_refl _) atP2 ⟨#[], by simp⟩ htr
end
end V3
set_option maxHeartbeats 4100000
/-! A generator expression with any target, told by what each turn binds. -/
namespace V3
open PySem.Spec PySem L2 PyProof.Rows GxR
/-- each turn: what is next, the owned tuple let go, the target bound -/
structure Draws2 (prog : Program) (w : World) (tgt : Expr) (ce : Env) (I : Addr) (fp wr : List Addr) (n : Nat) (Bd : Nat → (Str → Option Value) → Prop) (St : Nat → Heap → Prop) : Prop where
  sub : ∀ b ∈ wr, b ∈ fp
  (frame : ∀ i h h', St i h → (∀ b ∈ fp, ∀ o, h.get? b = some o → h'.get? b = some o) → St i h')
  one : ∀ (B : Around), B.handled = none → ∀ i (t : Shared) mp (K : Option Value → Shared → Prop) (E : Value → Shared → Prop), i < n → St i t.heap → t.heap.Ns ce.locals mp →
    (∀ v t1, wpAny (model prog w) B (letOwnedTupleGo tgt (.ref I) v) (fun _ t2 => wpAny (model prog w) B (assign tgt ce v) (fun _ t3 => ∃ h' tk mp', t3 = { t with heap := h', toks := tk } ∧ Bd i mp' ∧ St (i + 1) h' ∧ h'.Ns ce.locals mp' ∧
      ∀ b o, b ≠ ce.locals → b ∉ wr → t.heap.get? b = some o → h'.get? b = some o) (fun _ _ => False) t2) (fun _ _ => False) t1 → K (some v) t1) → wpAny (model prog w) B (pyNext (.ref I)) K E t
  done : ∀ (B : Around), B.handled = none → ∀ (t : Shared) (K : Option Value → Shared → Prop) (E : Value → Shared → Prop), St n t.heap →
    (∀ h' tk, (∀ b o, b ∉ wr → t.heap.get? b = some o → h'.get? b = some o) → K none { t with heap := h', toks := tk }) → wpAny (model prog w) B (pyNext (.ref I)) K E t
  self : ∀ (B : Around), B.handled = none → ∀ (t : Shared) (K : Value → Shared → Prop) (E : Value → Shared → Prop), St 0 t.heap → K (.ref I) t → wpAny (model prog w) B (pyIter (.ref I)) K E t
structure QuietD (prog : Program) (w : World) (ce : Env) (ifs : List Expr) (elt : Expr) (old wr fs : List Addr) (Bd : Nat → (Str → Option Value) → Prop) (pz : Nat → Bool) (F : Nat → Value → Prop) (ref : Heap) (fr : Option (List Env)) (D U : Nat) : Prop where
  tests : ∀ (B : Around) Ex i (t : Shared) mp, B.handled = none → B.frames = fr → B.depth ≤ D → B.units ≤ U → AllBare t.gens → Bd i mp → t.heap.Ns ce.locals mp → KeptO old wr fs ref t.heap →
    wpAny (model prog w) B (testsOf ifs ce) (fun ok t' => ok = pz i ∧ KeptG fs t t') Ex t
  elt : ∀ (B : Around) Ex i (t : Shared) mp, B.handled = none → B.frames = fr → B.depth ≤ D → B.units ≤ U → AllBare t.gens → Bd i mp → pz i = true → t.heap.Ns ce.locals mp → KeptO old wr fs ref t.heap →
    wpAny (model prog w) B (eval elt ce) (fun y t' => F i y ∧ KeptG fs t t') Ex t
section
variable {w : World} {prog : Program} {A : Around}
abbrev loopD (elt : Expr) (tgt : Expr) (iter : Expr) (ifs : List Expr) (scope : Scope) (pos : Pos) (I : Addr) (ce : Env) : Code := .compLoop (.GeneratorExp elt [⟨tgt, iter, ifs, 0⟩] scope pos) 0 (.ref I) .none ce
abbrev startD (elt : Expr) (tgt : Expr) (iter : Expr) (ifs : List Expr) (scope : Scope) (pos : Pos) (I : Addr) (ce : Env) : Code := .compStart (.GeneratorExp elt [⟨tgt, iter, ifs, 0⟩] scope pos) 0 (.ref I) .none ce
theorem seg_loopD {elt iter : Expr} {tgt : Expr} {ifs : List Expr} {scope : Scope} {pos : Pos} {I : Addr} {fp old wr fs : List Addr} {n : Nat} {Bd : Nat → (Str → Option Value) → Prop} {St : Nat → Heap → Prop} {ce : Env} {fr : Option (List Env)}
    (quiet0 : A.handled = none) (frA : (A.over (loopD elt tgt iter ifs scope pos I ce) []).frames = fr) (Wk : Draws2 prog w tgt ce I fp wr n Bd St) (pz : Nat → Bool) (F : Nat → Value → Prop) (ref : Heap)
    (noco : ce.scope.isCoroutine = false) (apart : ce.locals ∉ fp) (apartO : ce.locals ∉ old) (sepF : ∀ b ∈ fp, b ∉ fs) (hQ : QuietD prog w ce ifs elt old wr fs Bd pz F ref fr (A.depth + 1) (A.units + 3)) :
    ∀ (k i : Nat) (t0 t : Shared) (mp : Str → Option Value), n - i = k → i ≤ n → St i t.heap → t.heap.Ns ce.locals mp → SinceG ce.locals wr fs t0 t →
      KeptO old wr fs ref t.heap →
      Seg (model prog w) A (endB ce.locals wr fs) (protoB ce.locals fp old wr fs pz n F) (passing pz n i).length t0 (loopD elt tgt iter ifs scope pos I ce) ((model prog w).den (loopD elt tgt iter ifs scope pos I ce)) [] t := by
  have q0 : (A.over (loopD elt tgt iter ifs scope pos I ce) []).handled = none := quiet0
  have qd : (A.over (loopD elt tgt iter ifs scope pos I ce) []).depth ≤ A.depth + 1 := Nat.le_of_eq rfl
  have qu : (A.over (loopD elt tgt iter ifs scope pos I ce) []).units ≤ A.units + 3 := Nat.le_of_eq rfl
  have offW : ce.locals ∉ wr := fun z => apart (Wk.sub _ z)
  intro k
  induction k with
  | zero =>
    intro i t0 t mp ek il st ns since kept
    obtain rfl : i = n := by omega
    show Seg _ A _ _ _ t0 _ ((compTurn (.GeneratorExp elt [⟨tgt, iter, ifs, 0⟩] scope pos) 0 (.ref I) .none ce).onRaise (leaving ce)) [] t
    (rw [compTurn_gen, Sem.onRaise_eq_wrap])
    (refine seg_bind_wrap (wpAny_standAt ?_))
    refine seg_bind_wrap (Wk.done _ q0 t _ _ st fun hp tk stay => ?_)
    exact seg_end (.ok .next) ⟨rfl, by rw [passing_end]; rfl, since.step fun b o _ nw it => stay b o nw it⟩
  | succ k again =>
    intro i t0 t mp ek il st ns since kept
    have more : i < n := by omega
    show Seg _ A _ _ _ t0 _ ((compTurn (.GeneratorExp elt [⟨tgt, iter, ifs, 0⟩] scope pos) 0 (.ref I) .none ce).onRaise (leaving ce)) [] t
    (rw [compTurn_gen, Sem.onRaise_eq_wrap])
    (refine seg_bind_wrap (wpAny_standAt ?_))
    refine seg_bind_wrap (Wk.one _ q0 i t mp _ _ more st ns fun v t1 h1 => ?_)
    refine seg_bind_wrap (wpAny_mono h1 (fun _ t2 h2 => ?_) fun _ _ z => z.elim)
    refine seg_bind_wrap (wpAny_mono h2 (fun _ t3 h3 => ?_) fun _ _ z => z.elim)
    obtain ⟨hb, tk, mp', rfl, bound, stb, nsb, stayB⟩ := h3
    have keptB : KeptO old wr fs ref hb := kept.exact fun b hm nw o it => stayB b o (fun z => apartO (z ▸ hm)) nw it
    have bareT : AllBare t.gens := since.bare
    refine seg_bind_wrap (GenW.wpAny_gsz (n := t.gens.size) (Nat.le_refl _) (wpAny_mono (hQ.tests _ _ i _ _ q0 frA qd qu bareT bound nsb keptB) (fun ok tc kc szc => ?_) fun _ _ z => z))
    obtain ⟨rfl, kc⟩ := kc
    have stc : St (i + 1) tc.heap := Wk.frame _ _ _ stb fun b hm o it => (kc.heap b o it).1 (sepF b hm)
    have nsc := kc.heap.ns nsb
    have sinceC : SinceG ce.locals wr fs t0 tc := (since.step stayB).more szc kc
    cases ep : pz i with
    | false =>
      rw [passing_false more ep]
      (simp only [Bool.false_eq_true, if_false])
      exact seg_again rfl (again (i + 1) t0 _ _ (by omega) more stc nsc sinceC (keptB.km kc.heap))
    | true =>
      rw [passing_true more ep, List.length_cons]
      simp only [if_true]
      have out : ∀ v, yieldOut ce v = yieldValue v := fun v => by simp only [yieldOut, noco, Bool.false_eq_true, if_false]
      simp only [out]
      (rw [Sem.bind_eq_wrap', Sem.bind_eq_wrap', Sem.wrap_wrap, Sem.wrap_wrap])
      refine seg_wrap (GenW.wpAny_gsz (n := tc.gens.size) (Nat.le_refl _) (wpAny_mono (hQ.elt _ _ i _ _ q0 frA qd qu sinceC.bare bound ep nsc (keptB.km kc.heap)) (fun y td hd szd => ?_) fun _ _ z => z))
      obtain ⟨fy, kd⟩ := hd
      refine seg_at (seg_yield rfl rfl rfl ⟨⟨i, passing_here more ep, fy⟩, sinceC.more szd kd, fun u hal bu => ?_⟩)
      refine seg_again rfl (again (i + 1) u u _ (by omega) more (Wk.frame _ _ _ stc fun b hm o it => hal b (List.mem_cons_of_mem _ (List.mem_append_left _ hm)) o ((kd.heap b o it).1 (sepF b hm)))
        ((kd.heap.ns nsc).at' fun o it => hal _ (List.mem_cons_self ..) o it) (SinceG.refl bu) (((keptB.km kc.heap).km kd.heap).exact fun b hm _ o it => hal b (List.mem_cons_of_mem _ (List.mem_append_right _ hm)) o it))
theorem seg_startD {elt iter : Expr} {tgt : Expr} {ifs : List Expr} {scope : Scope} {pos : Pos} {I : Addr} {fp old wr fs : List Addr} {n : Nat} {Bd : Nat → (Str → Option Value) → Prop} {St : Nat → Heap → Prop} {ce : Env} {fr : Option (List Env)}
    (quiet0 : A.handled = none) (frA : (A.over (loopD elt tgt iter ifs scope pos I ce) []).frames = fr) (Wk : Draws2 prog w tgt ce I fp wr n Bd St) (pz : Nat → Bool) (F : Nat → Value → Prop) (ref : Heap)
    (noco : ce.scope.isCoroutine = false) (apart : ce.locals ∉ fp) (apartO : ce.locals ∉ old) (sepF : ∀ b ∈ fp, b ∉ fs) (hQ : QuietD prog w ce ifs elt old wr fs Bd pz F ref fr (A.depth + 1) (A.units + 3))
    (t0 t : Shared) (mp : Str → Option Value) (st : St 0 t.heap) (ns : t.heap.Ns ce.locals mp) (since : SinceG ce.locals wr fs t0 t) (kept : KeptO old wr fs ref t.heap) :
    Seg (model prog w) A (endB ce.locals wr fs) (protoB ce.locals fp old wr fs pz n F) (passing pz n 0).length t0 (startD elt tgt iter ifs scope pos I ce) ((model prog w).den (startD elt tgt iter ifs scope pos I ce)) [] t := by
  have q0 : (A.over (startD elt tgt iter ifs scope pos I ce) []).handled = none := quiet0
  have lp := seg_loopD (iter := iter) (scope := scope) (pos := pos) quiet0 frA Wk pz F ref noco apart apartO sepF hQ n 0 t0 t mp (Nat.sub_zero _) (Nat.zero_le _) st ns since kept
  show Seg _ A _ _ _ t0 _ ((compStart (.GeneratorExp elt [⟨tgt, iter, ifs, 0⟩] scope pos) 0 (.ref I) .none ce).onRaise (leaving ce)) [] t
  unfold compStart
  rw [Sem.onRaise_eq_wrap]
  show Seg _ A _ _ _ t0 _ ((ask >>= _).wrap _ _ _ _) [] t
  (refine seg_bind_wrap (wpAny_askSetting ?_))
  split
  · exact seg_again rfl lp
  · first
      | exact seg_bind_wrap (wpAny_rule (seg_bind_wrap (wpAny_standAt (seg_bind_wrap (Wk.self _ q0 t _ _ st (seg_again rfl lp))))))
      | (refine seg_bind_wrap (wpAny_rule ?_)
         show Seg _ A _ _ _ t0 _ ((standAt iter.pos >>= _).wrap _ _ _ _) [] t
         exact seg_bind_wrap (wpAny_standAt (seg_bind_wrap (Wk.self _ q0 t _ _ st (seg_again rfl lp)))))
theorem AtB.freshD {elt iter : Expr} {tgt : Expr} {ifs : List Expr} {scope : Scope} {pos : Pos} {I a : Addr} {g : Nat} {fp old wr fs : List Addr} {n : Nat} {Bd : Nat → (Str → Option Value) → Prop} {St : Nat → Heap → Prop} {ce : Env} {fr : Option (List Env)}
    (quiet0 : A.handled = none) (frA : (A.in1.over (loopD elt tgt iter ifs scope pos I ce) []).frames = fr) (Wk : Draws2 prog w tgt ce I fp wr n Bd St) (pz : Nat → Bool) (F : Nat → Value → Prop)
    (noco : ce.scope.isCoroutine = false) (apart : ce.locals ∉ fp) (apartO : ce.locals ∉ old) (sepF : ∀ b ∈ fp, b ∉ fs) {t : Shared} {mp : Str → Option Value} (hQ : QuietD prog w ce ifs elt old wr fs Bd pz F t.heap fr (A.depth + 1) (A.units + 4))
    (gen : t.heap.IsGen a g) (new : t.gens[g]? = some (.fresh (startD elt tgt iter ifs scope pos I ce))) (st : St 0 t.heap) (ns : t.heap.Ns ce.locals mp) (lim : t.heap.NoLimit) (bare : AllBare t.gens) : AtB prog w A a g ce.locals fp old wr fs pz n F 0 t :=
  ⟨gen, lim, bare, _, new, fun u hal bu => ⟨rfl, seg_startD (A := A.in1) quiet0 frA Wk pz F t.heap noco apart apartO sepF hQ u u mp (Wk.frame _ _ _ st fun b hm o it => hal b (List.mem_cons_of_mem _ (List.mem_append_left _ hm)) o it)
    (ns.at' fun o it => hal _ (List.mem_cons_self ..) o it) (SinceG.refl bu) fun b hm _ o it => ⟨fun _ => hal b (List.mem_cons_of_mem _ (List.mem_append_right _ hm)) o it, o.slots, hal b (List.mem_cons_of_mem _ (List.mem_append_right _ hm)) o it⟩⟩⟩
end
section
variable {w : World} {prog : Program} {A : Around} {E : Value → Shared → Prop} {s : Shared}
/-- what the maker of such a generator has to know, behind the code object and the builtins -/
def MadeD (prog : Program) (w : World) (A : Around) (env : Env) (elt iter tgt : Expr) (ifs : List Expr) (scope : Scope) (cl : List (Str × Addr)) (pos : Pos) (Q : Value → Shared → Prop) (it code : Value) (bi : Addr) (t : Shared) : Prop :=
  AllBare t.gens ∧ ∃ (I : Addr) (fp wr fs : List Addr) (n : Nat) (Bd : Nat → (Str → Option Value) → Prop) (St : Nat → Heap → Prop) (pz : Nat → Bool) (F : Nat → Value → Prop), it = .ref I ∧ Draws2 prog w tgt (genEnv scope cl t.heap.objs.size code bi env) I fp wr n Bd St ∧ St 0 t.heap ∧
    (∀ b ∈ fp, b < t.heap.objs.size) ∧ t.heap.NoLimit ∧ cStatics ∉ wr ∧ (∀ b ∈ fs, b ≤ t.heap.objs.size) ∧ (∀ b ∈ fp, b ∉ fs) ∧ cStatics ∉ fs ∧
    (∀ ref : Heap, (∀ b o, t.heap.get? b = some o → ref.get? b = some o) →
      QuietD prog w (genEnv scope cl t.heap.objs.size code bi env) ifs elt (List.range t.heap.objs.size) wr fs Bd pz F ref (A.in4.in1.over (loopD elt tgt iter ifs scope pos I (genEnv scope cl t.heap.objs.size code bi env)) []).frames (A.depth + 1) (A.units + 8)) ∧
    ∀ a hp tk gs, gs.bare = true → t.heap.objs.size < a → hp.objs.size = a + 1 → (∀ b o, t.heap.get? b = some o → hp.get? b = some o) →
      WalksV prog w A.in4 a (t.heap.objs.size :: wr) fs (passing pz n 0).length (fun j y => ∃ i, (passing pz n 0)[j]? = some i ∧ F i y) (AtB prog w A.in4 a t.gens.size t.heap.objs.size fp (List.range t.heap.objs.size) wr fs pz n F) →
      AtB prog w A.in4 a t.gens.size t.heap.objs.size fp (List.range t.heap.objs.size) wr fs pz n F 0 { t with gens := t.gens.push gs, toks := tk, heap := hp } → Q (.ref a) { t with gens := t.gens.push gs, toks := tk, heap := hp }
theorem genexpD {env : Env} {elt iter : Expr} {tgt : Expr} {ifs : List Expr} {scope : Scope} {cl : List (Str × Addr)} {pos : Pos} {Q : Value → Shared → Prop}
    (quiet0 : A.handled = none) (noco : scope.isCoroutine = false) (clo : closureFor scope env = pure cl) (nocell : ∀ y ∈ scope.names, y.2 ≠ .cell) (dot0 : scope.names.lookup (".0" : Str) = some NameKind.local)
    (kd : scope.kind = .function) (room : A.depth < recursionLimit)
    (h : wpAny (model prog w) A (eval iter env) (fun xv t1 => wpAny (model prog w) A (pyIter xv) (fun it t2 => t2.heap.NoLimit ∧
      wpAny (model prog w) A (genexprCode env pos (env.qual ++ "<genexpr>") scope) (fun code t3 => wpAny (model prog w) A (builtinsFor env.globals env.builtins) (fun bi t4 => MadeD prog w A env elt iter tgt ifs scope cl pos Q it code bi t4) E t3) E t2) E t1) E s)
    (nofold : ∀ v, genFold iter env v = pure v) : wpAny (model prog w) A (eval (.GeneratorExp elt [⟨tgt, iter, ifs, 0⟩] scope pos) env) Q E s := by
  refine wpAny_GeneratorExp_make noco clo nocell dot0 kd room (wpAny_mono h (fun xv t1 a1 => wpAny_mono a1 (fun it t2 a2 => ⟨a2.1, wpAny_mono a2.2 (fun code t3 a3 => wpAny_mono a3 (fun bi t4 a4 => ?_)
    fun _ _ z => z) fun _ _ z => z⟩) fun _ _ z => z) fun _ _ z => z) nofold
  obtain ⟨bare, I, fp, wr, fs, n, Bd, St, pz, F, rfl, Wk, st, low, lim, csW, lowF, sepF, csF, hQ, want⟩ := a4
  have cl4 : cStatics < t4.heap.objs.size := by
    obtain ⟨_, q, _⟩ := lim
    exact q.lt
  intro hp nsp same
  have sz : hp.objs.size = t4.heap.objs.size + 1 := by rw [same.1, Heap.size_push]
  have keep : ∀ b o, t4.heap.get? b = some o → hp.get? b = some o := fun b o it => same.extBut b o (Nat.ne_of_lt (Heap.lt_size it)) (Heap.get?_push_of_some _ it)
  have inR : ∀ b ∈ wr, b ∈ List.range t4.heap.objs.size := fun b hb => List.mem_range.mpr (low b (Wk.sub b hb))
  have nC : hp.objs.size ≠ t4.heap.objs.size := by
    rw [sz]
    exact Nat.succ_ne_self _
  have nR : hp.objs.size ∉ List.range t4.heap.objs.size := fun z => by
    have := List.mem_range.mp z
    omega
  have keep5 : ∀ b o, t4.heap.get? b = some o → (hp.push { cls := .type "generator", data := .fields #[.int t4.gens.size 0, .str "<genexpr>" (t4.toks + 1), .str (env.qual ++ "<genexpr>") (t4.toks + 1 + 1)] }).get? b = some o :=
    fun b o it => Heap.get?_push_of_some _ (keep b o it)
  refine want _ _ _ _ rfl (by omega) (by rw [Heap.size_push]) keep5 (walksB (A := A.in4) quiet0 _ _ _ fp _ wr fs pz n F nC (fun z => nR (inR _ z)) (fun z => by have h9 : (hp.objs.size : Nat) ≤ t4.heap.objs.size := lowF _ z; omega) room (Nat.ne_of_lt cl4) csW csF) ?_
  refine AtB.freshD (A := A.in4) (ce := genEnv scope cl t4.heap.objs.size code bi env) (mp := fun y => if y = ".0" then some (.ref I) else none) quiet0 rfl
    Wk pz F noco
    (fun z => Nat.lt_irrefl _ (low _ z)) (fun z => Nat.lt_irrefl _ (List.mem_range.mp z)) sepF (hQ _ keep5) ⟨_, _, _, Heap.get?_push_size _ rfl, rfl, rfl, rfl⟩ (Array.getElem?_push_size ..) (Wk.frame _ _ _ st fun b _ o it => keep5 b o it) (nsp.push _) (lim.keeps keep5) (bare.push rfl)
end
end V3
/-! Turns over pairs: the target is two names. -/
namespace V3
open PySem.Spec PySem L2 PyProof.Rows GxR
section
variable {w : World} {prog : Program}
theorem Draws2.pair {a b : Str} {pa pb tp : Pos} {kk : Nat} {ce : Env} {I : Addr} {fp wr : List Addr} {n : Nat} {Pt : Nat → Array Value → Prop} {St : Nat → Heap → Prop} {Mid : Nat → Addr → Heap → Prop}
    (Wk : ∀ B : Around, B.handled = none → WalksT prog w B I fp wr n Pt St Mid) (two : ∀ i vals, Pt i vals → ∃ x y, vals = #[x, y]) (ka : ce.kindOf a = some .local) (kb : ce.kindOf b = some .local) (ab : (a = b) = False)
    (plain : (ce.scope.kind == .class || (ce.scope.kind == .module && ce.locals != ce.globals)) = false) (apart : ce.locals ∉ fp) :
    Draws2 prog w (.Tuple [.Name a pa, .Name b pb] kk tp) ce I fp wr n (fun i mp => ∃ x y, Pt i #[x, y] ∧ mp a = some x ∧ mp b = some y) St where
  sub := (Wk callerA rfl).sub
  frame := (Wk callerA rfl).frame
  one := fun B q i t mp K E il st ns told => by
    have offW : ce.locals ∉ wr := fun z => apart ((Wk B q).sub _ z)
    refine (Wk B q).item i t K E il st fun T vals h1 tk pt low tup mid keep1 => told _ _ ((Wk B q).go _ _ _ i T _ _ _ mid fun h2 st2 keep2 => ?_)
    obtain ⟨x, y, rfl⟩ := two i vals pt
    have tup2 : h2.IsTuple T #[x, y] := by
      obtain ⟨o, e, r⟩ := tup
      exact ⟨o, keep2 T o ((Wk B q).apart i T _ mid) e, r⟩
    have ns2 : h2.Ns ce.locals mp := ns.at' fun o it => keep2 _ o offW (keep1 _ o offW it)
    refine wpAny_assign_Tuple (s := { t with heap := h2, toks := tk }) q tup2 rfl rfl fun h3 ext => ?_
    have keep3 : ∀ c o, h2.get? c = some o → h3.get? c = some o := fun c o it => ext c o (Nat.ne_of_lt (Heap.lt_size it)) it
    refine assignInOrder_cons (wpAny_assign_Name (wpAny_storeName_local ka (ns2.at' fun o it => keep3 _ o it) (fun h4 ns4 same4 => ?_) plain))
    refine assignInOrder_cons (wpAny_assign_Name (wpAny_storeName_local kb ns4 (fun h5 ns5 same5 => ?_) plain))
    refine assignInOrder_nil ⟨h5, _, _, rfl, ⟨x, y, pt, ?_, by simp⟩, (Wk B q).frame _ h2 h5 st2 fun c hc o it => same5.extBut c o (fun z => apart (z ▸ hc)) (same4.extBut c o (fun z => apart (z ▸ hc)) (keep3 c o it)), ns5, fun c o nc nw it =>
      same5.extBut c o nc (same4.extBut c o nc (keep3 c o (keep2 c o nw (keep1 c o nw it))))⟩
    rw [if_neg (fun z => by rw [← ab]; exact z), if_pos rfl]
  done := fun B q t K E st k => (Wk B q).done t K E st k
  self := fun B q t K E st k => (Wk B q).self 0 t K E st k
end
end V3
/-! sum over a generator expression. -/
namespace V3
open PySem.Spec PySem L2 PyProof.Rows GxR
section
variable {w : World} {prog : Program} {A : Around}
theorem MovedV.wide {wr wr2 fs : List Addr} {t t' : Shared} (m : MovedV wr fs t t') (h : ∀ b ∈ wr, b ∈ wr2) : MovedV wr2 fs t t' := ⟨m.os, m.bare, fun b o n it => m.heap b o (fun z => n (h b z)) it⟩
/-- the running sum is written -/
theorem MovedV.wrote {wr fs : List Addr} {t t' : Shared} {S : Addr} {h' : Heap} {tk : Nat} (m : MovedV wr fs t t') (k : ∀ b o, b ≠ S → t'.heap.get? b = some o → h'.get? b = some o) : MovedV (S :: wr) fs t { t' with heap := h', toks := tk } :=
  ⟨m.os, m.bare, fun b o n it => by
    obtain ⟨p1, sl, p2⟩ := m.heap b o (fun z => n (List.mem_cons_of_mem _ z)) it
    have nS : b ≠ S := fun z => n (z ▸ List.mem_cons_self ..)
    exact ⟨fun nf => k b o nS (p1 nf), sl, k b _ nS p2⟩⟩
theorem sum_loopV {I : Addr} {wr fs : List Addr} {n : Nat} {P : Nat → Value → Prop} {St : Nat → Shared → Prop} {R : Result → Shared → Prop} (Wk : WalksV prog w A.in1 I wr fs n P St) (S : Addr) (Sw : S ∉ wr) (Sf : S ∉ fs)
    (fr : ∀ i (t : Shared) h' tk, St i t → (∀ b o, b ≠ S → t.heap.get? b = some o → h'.get? b = some o) → St i { t with heap := h', toks := tk }) (val : Nat → Int) (isI : ∀ i v, P i v → ∃ tz, v = .int (val i) tz) :
    ∀ (k i : Nat) (t : Shared) (ta : Tok) (c : Nat) (stage : Int), (stage = 0 ∨ stage = 2) → n - i = k → i ≤ n → St i t → t.heap.get? S = some { cls := .type "list", dict := none, data := .seq #[.int (preSum val i) ta] c, slots := #[] } →
      (∀ t' tz, MovedV (S :: wr) fs t t' → R (.ok (.ret (.int (preSum val n) tz))) t') → codeAny (model prog w) A (.builtin "sum.loop" ⟨[.ref I, .ref S, rawInt stage, rawInt 0], []⟩) R t := by
  intro k
  induction k with
  | zero =>
    intro i t ta c stage _ ek il st atS want
    obtain rfl : i = n := by omega
    (refine codeAny_builtin F.entry_sum_loop ?_)
    (rw [Around.under_plainId F.plain_sum_loop _])
    show wpAny _ A.in1 (seqItems? (.ref S) >>= _) _ _ t
    refine wpAny_bind (wpAny_seqItems atS rfl ?_)
    show wpAny _ A.in1 (tryCatch (pyNext (.ref I)) _ >>= _) _ _ t
    exact wpAny_bind (wpAny_tryCatch (Wk.done t _ _ st fun t' mv => wpAny_pure (want t' ta (mv.wide fun b hb => List.mem_cons_of_mem _ hb))))
  | succ k again =>
    intro i t ta c stage two ek il st atS want
    have lt : i < n := by omega
    (refine codeAny_builtin F.entry_sum_loop ?_)
    (rw [Around.under_plainId F.plain_sum_loop _])
    show wpAny _ A.in1 (seqItems? (.ref S) >>= _) _ _ t
    refine wpAny_bind (wpAny_seqItems atS rfl ?_)
    show wpAny _ A.in1 (tryCatch (pyNext (.ref I)) _ >>= _) _ _ t
    refine wpAny_bind (wpAny_tryCatch (Wk.item i t _ _ lt st fun v u pv su mv => ?_))
    obtain ⟨tz, rfl⟩ := isI i v pv
    have atU := (mv.heap S _ Sw atS).1 Sf
    -- the sum is written, once or twice; then on
    have on : ∀ (h' : Heap) (tk c2 : Nat) (t2 : Tok) (stage2 : Int), (stage2 = 0 ∨ stage2 = 2) → (∀ b o, b ≠ S → u.heap.get? b = some o → h'.get? b = some o) → h'.get? S = some { cls := .type "list", dict := none, data := .seq #[.int (preSum val (i + 1)) t2] c2, slots := #[] } →
        codeAny (model prog w) A (.builtin "sum.loop" ⟨[.ref I, .ref S, rawInt stage2, rawInt 0], []⟩) R { u with heap := h', toks := tk } := fun h' tk c2 t2 stage2 two2 keep at2 =>
      again (i + 1) _ t2 c2 stage2 two2 (by omega) lt (fr _ u h' tk su keep) at2 fun t' tz' mv2 => want t' tz' ((mv.wrote keep).trans mv2)
    have other : ∀ (f : Obj → Obj) (h0 : Heap) b o, b ≠ S → h0.get? b = some o → (h0.update S f).get? b = some o := fun f h0 b o n it => (Heap.get?_update_other _ _ (Ne.symm n)).trans it
    rcases two with rfl | rfl
    · (show wpAny _ A.in1 (if (_ : Bool) = true then (mkInt (preSum val i + val i) >>= _) else _) _ _ _)
      split
      · (refine wpAny_bind (wpAny_mkInt ?_))
        show wpAny _ A.in1 (updateSeq S (fun _ => #[.int (preSum val i + val i) u.toks]) >>= _) _ _ _
        exact wpAny_bind (wpAny_updateSeq atU rfl (wpAny_pure ⟨plainId_quiet F.plain_sum_loop _, on _ _ _ _ 0 (.inl rfl) (fun b o n it => other _ _ b o n it) (Heap.get?_update_self _ atU rfl)⟩))
      · (refine wpAny_bind (wpAny_rule ?_))
        (refine wpAny_bind (wpAny_attempt (wpAny_holding (wpAny_add_int ?_))))
        show wpAny _ A.in1 (updateSeq S (fun _ => #[.int (preSum val i + val i) u.toks]) >>= _) _ _ _
        refine wpAny_bind (wpAny_updateSeq atU rfl ?_)
        have atV := Heap.get?_update_self (Obj.mapSeq fun _ => #[Value.int (preSum val i + val i) u.toks]) atU rfl
        exact wpAny_bind (wpAny_letGo (wpAny_bind (wpAny_updateSeq atV rfl (wpAny_pure ⟨plainId_quiet F.plain_sum_loop _, on _ _ _ _ 2 (.inr rfl) (fun b o n it => other _ _ b o n (other _ _ b o n it)) (Heap.get?_update_self _ atV rfl)⟩))))
    · show wpAny _ A.in1 ((holding [Value.int (val i) tz] (binaryOp .Add (.int (preSum val i) ta) (.int (val i) tz))).attempt >>= _) _ _ _
      (refine wpAny_bind (wpAny_attempt (wpAny_holding (wpAny_add_int ?_))))
      show wpAny _ A.in1 (updateSeq S (fun _ => #[.int (preSum val i + val i) u.toks]) >>= _) _ _ _
      refine wpAny_bind (wpAny_updateSeq atU rfl ?_)
      have atV := Heap.get?_update_self (Obj.mapSeq fun _ => #[Value.int (preSum val i + val i) u.toks]) atU rfl
      exact wpAny_bind (wpAny_letGo (wpAny_bind (wpAny_updateSeq atV rfl (wpAny_pure ⟨plainId_quiet F.plain_sum_loop _, on _ _ _ _ 2 (.inr rfl) (fun b o n it => other _ _ b o n (other _ _ b o n it)) (Heap.get?_update_self _ atV rfl)⟩))))
theorem call_sumV {E : Value → Shared → Prop} {s : Shared} {x : Value} {Q : Value → Shared → Prop}
    (h : wpAny (model prog w) A.in1 (pyIter x) (fun it t => ∃ I wr fs n P St val, it = .ref I ∧ WalksV prog w A.in1 I wr fs n P St ∧ St 0 t ∧ (∀ i v, P i v → ∃ tz, v = .int (val i) tz) ∧ t.heap.objs.size ∉ wr ∧ t.heap.objs.size ∉ fs ∧
      (∀ i (t2 : Shared) h' tk, St i t2 → (∀ b o, b ≠ t.heap.objs.size → t2.heap.get? b = some o → h'.get? b = some o) → St i { t2 with heap := h', toks := tk }) ∧
      ∀ (t' : Shared) tz, t'.os = t.os → AllBare t'.gens → (∀ b o, b ∉ wr → t.heap.get? b = some o → (b ∉ fs → t'.heap.get? b = some o) ∧ ∃ sl, t'.heap.get? b = some { o with slots := sl }) → Q (.int (preSum val n) tz) t') E s) : (wpAny (model prog w) A (call (.builtin "sum") [x]) Q E s) := by
  (refine call_function_tree F.kind_sum F.plain_sum F.entry_sum (F.args_sum1 _) ?_)
  unfold Builtin.«sum»
  (simp only [List.length_cons, List.length_nil])
  rw [if_neg (by decide)]
  have no1 := PySem.sub_int_str
  have no2 := sub_int_bytes
  have no3 := sub_int_bytearray
  -- no start is given: it is 0, which is no text and no bytes
  refine wpAny_bind (wpAny_of_eq (rfl : Builtin.Builtins.bindParams "sum" ["start"] 0 { } = pure [none]) (wpAny_bind (wpAny_mono h (fun it t ht => ?_) fun _ _ z => z)))
  obtain ⟨I, wr, fs, n, P, St, val, rfl, Wk, st, isI, Sw, Sf, fr, want⟩ := ht
  refine wpAny_bind (wpAny_mkInt (wpAny_bind (wpAny_pure ?_)))
  (simp only [List.forIn_cons, List.forIn_nil])
  refine wpAny_bind (wpAny_bind (wpAny_bind (wpAny_isInstance (b := false) (typeIs_int _ _ _) no1 ?_)))
  (simp only [Bool.false_eq_true, if_false])
  refine wpAny_pure (wpAny_bind (wpAny_bind (wpAny_isInstance (b := false) (typeIs_int _ _ _) no2 ?_)))
  (simp only [Bool.false_eq_true, if_false])
  refine wpAny_pure (wpAny_bind (wpAny_bind (wpAny_isInstance (b := false) (typeIs_int _ _ _) no3 ?_)))
  (simp only [Bool.false_eq_true, if_false])
  refine wpAny_pure (wpAny_pure (wpAny_bind (wpAny_newObj_type ?_)))
  have kept : ∀ b o, t.heap.get? b = some o → (t.heap.push { cls := .type "list", data := .seq #[Value.int 0 t.toks] }).get? b = some o := fun b o it => Heap.get?_push_of_some _ it
  refine wpAny_pure ⟨plainId_quiet F.plain_sum_loop _, sum_loopV Wk t.heap.objs.size Sw Sf fr val isI n 0 _ t.toks 0 0 (.inl rfl) rfl (Nat.zero_le _) (fr 0 t _ _ st fun b o _ it => kept b o it) (Heap.get?_push_size _ rfl) fun t' tz mv => ?_⟩
  refine want t' tz mv.os mv.bare fun b o n it => mv.heap b o (fun z => ?_) (kept b o it)
  rcases List.mem_cons.mp z with e | e
  · exact Nat.lt_irrefl _ (e ▸ Heap.lt_size it)
  · exact n e
end
end V3
set_option maxHeartbeats 8100000
/-! sum(a * b for a, b in zip(one, other)), one and other lists of whole numbers. -/
namespace V3
open PySem.Spec PySem L2 PyProof.Rows GxR RZ
/-- the generator stands as it stood where one new object is written -/
theorem AtB.frame {prog : Program} {w : World} {A : Around} {a S : Addr} {g : Nat} {C : Addr} {fp old wr fs : List Addr} {pz : Nat → Bool} {n : Nat} {F : Nat → Value → Prop} {j : Nat} {t : Shared} {h' : Heap} {tk : Nat}
    (st : AtB prog w A a g C fp old wr fs pz n F j t) (k : ∀ b o, b ≠ S → t.heap.get? b = some o → h'.get? b = some o) (na : a ≠ S) (nc : cStatics ≠ S) (off : ∀ b ∈ C :: (fp ++ old), b ≠ S) : AtB prog w A a g C fp old wr fs pz n F j { t with heap := h', toks := tk } := by
  obtain ⟨⟨o, nm, qn, ho, more⟩, ⟨mc, nsc, nol⟩, bare, gs, at_, goes⟩ := st
  exact ⟨⟨o, nm, qn, k a o na ho, more⟩, ⟨mc, nsc.at' fun o it => k _ o nc it, nol⟩, bare, gs, at_, fun u hal bu => goes u (fun b hb o it => hal b hb o (k b o (off b hb) it)) bu⟩
def dotZ (xs ys : List Int) : Int := preSum (fun i => xs.getD i 0 * ys.getD i 0) (min xs.length ys.length)
section
variable {X : Cx}
abbrev genZ (a b : Str) (pa pb tp pz pz2 p1 p2 p3 gpos : Pos) (kk : Nat) (e1 e2 : Expr) (scope : Scope) : Expr := .GeneratorExp (.BinOp (.Name a p1) .Mult (.Name b p2) p3) [⟨.Tuple [.Name a pa, .Name b pb] kk tp, .Call (.Name "zip" pz) [e1, e2] [] pz2, [], 0⟩] scope gpos
def tSumZ (X : Cx) (P : Addr) (ta : TA) : TE := fun σ H Q => ta σ H fun vs H1 => ∃ (p q : Addr) (xs ys : List Int) (m : Nat), vs = [.ref p, .ref q] ∧ SqL X.K H1 p (xs.map V.int) ∧ SqL X.K H1 q (ys.map V.int) ∧ TabG H1 P ∧ (∀ x ∈ xs, x.natAbs < 2 ^ m) ∧ (∀ y ∈ ys, y.natAbs < 2 ^ m) ∧ 0 < m ∧ m ≤ 400000 ∧
  ∀ H2, Tabbed P H1 H2 → Q (.int (dotZ xs ys)) H2
theorem pe_sumZ {c P : Addr} {e1 e2 : Expr} {a b : Str} {pa pb tp p pz pz2 p1 p2 p3 gpos pos : Pos} {kk : Nat} {scope : Scope} {ta : TA} {k : Nat}
    (hr : Room (k + 1) X.A) (hg : Gl X "sum") (hma : X.mg "sum" = none) (hgz : Gl X "zip") (hmz : X.mg "zip" = none) (TB : TabB X.base X.mg c P) (hcode : X.env.code = .ref c) (S : GenS X.env scope a) (kb : scope.names.lookup b = some .local) (ab : (a = b) = False) (ha : PA X [e1, e2] ta)
    (da : (a == ("__debug__" : Str)) = false) (db : (b == ("__debug__" : Str)) = false) (nofold : ∀ v, genFold (.Call (.Name "zip" pz) [e1, e2] [] pz2) X.env v = pure v)
    (hs : starEach [e1, e2] X.env = (false, eval e1 X.env) :: starEach [e2] X.env := by rfl) (hpl : (backTo pz2 (starEach [e2] X.env)).any (·.1) = false := by rfl)
    (he : starEach [genZ a b pa pb tp pz pz2 p1 p2 p3 gpos kk e1 e2 scope] X.env = (false, eval (genZ a b pa pb tp pz pz2 p1 p2 p3 gpos kk e1 e2 scope) X.env) :: starEach [] X.env := by rfl) :
    PE X (.Call (.Name "sum" p) [genZ a b pa pb tp pz pz2 p1 p2 p3 gpos kk e1 e2 scope] [] pos) (tSumZ X P ta) := by
  (refine ⟨fun pins s σ H Q I h => ?_⟩)
  refine wpAny_Call_Name_kw (ld_blt (u := .builtin "sum") I hg hma (by decide +kernel) ?_)
  refine PyProof.Rows.callWith_builtin1 (id := "sum") ?_ he (by rfl)
  rw [he]
  show wpAny _ _ (spliced ((false, eval (genZ a b pa pb tp pz pz2 p1 p2 p3 gpos kk e1 e2 scope) X.env) :: backTo pos (starEach [] X.env))) _ _ s
  refine Calls.spliced_cons (genexpD hr.hd S.co (closure_ok S.free) S.cell S.dot S.kind (by have := hr.dp; omega) ?_ nofold)
  refine Call_ (ld_blt I hgz hmz PyProof.Rows.boot_zip (PyProof.Rows.callWith_type1 (thn (ha.run pz2 pins s σ H _ I h) fun us s0 ⟨vs, H1, I0, rvs0, lp, lq, xs, ys, m, evs, hsx, hsy, tab, bx, by_, m0, ml, want⟩ => ?_) hs hpl))
  subst evs
  obtain ⟨up, uq, rfl, rp, rq⟩ : ∃ up uq, us = [up, uq] ∧ RelV (.ref lp) up ∧ RelV (.ref lq) uq := by
    cases rvs0 with
    | cons r rr =>
      cases rr with
      | cons r2 rr =>
        cases rr
        exact ⟨_, _, rfl, r, r2⟩
  cases (show up = Value.ref lp from rp)
  cases (show uq = Value.ref lq from rq)
  obtain ⟨itx, rvx, plx, zlx⟩ := I0.list hsx
  obtain ⟨ity, rvy, ply, zly⟩ := I0.list hsy
  refine call_zip_2 plx.isList ply.isList fun hz isz isTI isTO it1 it2 szz keptz => wpAny_pyIter_zip isz ?_
  have I1 : Inv X pins σ H1 { s0 with heap := hz } := I0.kept (t' := s0.toks) keptz
  have D := PySem.W.ktu_apart s0.heap.objs.size lp lq plx.lt ply.lt
  have lpN : lp < s0.heap.objs.size := plx.lt
  have lqN : lq < s0.heap.objs.size := ply.lt
  obtain ⟨ptab, hP, htr⟩ := tab
  have atP : s0.heap.get? P = some { cls := .none, data := .fields ptab } := I0.hok P _ hP
  have ltP : P < s0.heap.objs.size := Heap.lt_size atP
  have atP2 : hz.get? P = some { cls := .none, data := .fields ptab } := keptz _ _ atP
  have hdC : PySem.W.CodeHd hz c P := TB.code.keeps fun b u e => I1.bk b u e
  have nol : hz.NoLimit := I1.nolimit
  have csB : ∃ o, X.base.get? cStatics = some o := by
    obtain ⟨_, q, _⟩ := I0.ok.mod.nolimit
    obtain ⟨o, es, ep, ho, _⟩ := q
    exact ⟨o, ho⟩
  have notFr : ∀ b o, X.base.get? b = some o → b ∉ frs X.stack := fun b o it z => by
    have := (frs_apart I0.stack z).1
    rw [it] at this
    cases this
  have frLow : ∀ b ∈ frs X.stack, b < s0.heap.objs.size := fun b z => by
    obtain ⟨_, o, ho, _⟩ := frs_apart I0.stack z
    exact Heap.lt_size ho
  have frNotP : P ∉ frs X.stack := fun z => by
    have := I0.stkFree P z
    rw [hP] at this
    cases this
  have lFr : ∀ (l : Addr) (ws : List V), SqL X.K H1 l ws → l ∉ frs X.stack := fun l ws hq z => by
    rcases hq with ((e | ⟨o, e⟩) | ⟨o, it2, n2, e, _⟩)
    · have := I0.stkFree l z
      rw [e] at this
      cases this
    · have := I0.stkFree l z
      rw [e] at this
      cases this
    · exact notFr l o (I0.ok.mod.kin l o e) z
  have lNP : ∀ (l : Addr) (its : Array Value), s0.heap.IsList l its → l ≠ P := fun l its hl z => by
    obtain ⟨o, q1, _, q3⟩ := hl
    rw [z, atP] at q1
    cases q1
    obtain ⟨_, q3⟩ := q3
    cases q3
  have lx := lNP lp _ plx.isList
  have ly := lNP lq _ ply.isList
  -- behind the code object
  have cont : ∀ (code : Value) (hp3 : Heap) (tk : Nat) (ptab3 : Array Value), Heap.ExtBut P hz hp3 → hz.objs.size ≤ hp3.objs.size → hp3.get? P = some { cls := .none, data := .fields ptab3 } → (∃ more, ptab3 = ptab ++ more) → TriplesOk ptab3.toList →
      wpAny (model X.prog X.w) X.A (builtinsFor X.env.globals X.env.builtins) (fun bi t4 => MadeD X.prog X.w X.A X.env (.BinOp (.Name a p1) .Mult (.Name b p2) p3) (.Call (.Name "zip" pz) [e1, e2] [] pz2) (.Tuple [.Name a pa, .Name b pb] kk tp) [] scope (cloFrom X.env.cells scope.names []) gpos
        (fun g t5 => wpAny (model X.prog X.w) X.A (spliced (backTo pos (starEach [] X.env))) (fun vs t6 => wpAny (model X.prog X.w) X.A (call (.builtin "sum") (g :: vs)) (EP X pins σ Q) X.xe t6) X.xe t5) (.ref (s0.heap.objs.size + 4)) code bi t4) X.xe { s0 with heap := hp3, toks := tk } := by
    intro code hp3 tk ptab3 hx3 sz3 atP3 grown ok3
    (obtain ⟨bm, ob, e1, e2, e3, e4, e5, e6, e7, e8⟩ := TB.bm)
    have keep3 : ∀ b u, b ≠ P → hz.get? b = some u → hp3.get? b = some u := fun b u nb it => hx3 b u nb it
    have keep0 : ∀ b u, b ≠ P → s0.heap.get? b = some u → hp3.get? b = some u := fun b u nb it => hx3 b u nb (keptz b u it)
    have big3 : s0.heap.objs.size + 5 ≤ hp3.objs.size := by
      rw [← szz]
      exact sz3
    have baseNP : ∀ b o, X.base.get? b = some o → b ≠ P := fun b o it z => by
      have := (I0.bs b o it).2
      rw [z, hP] at this
      cases this
    obtain ⟨oCs, csAt⟩ := csB
    have csLow : cStatics < s0.heap.objs.size := Heap.lt_size (I0.bk _ _ csAt)
    have up : ∀ j, s0.heap.objs.size + j ≠ P := fun j z => by
      rw [← z] at ltP
      exact absurd ltP (Nat.not_lt_of_le (Nat.le_add_right _ _))
    have lowN : s0.heap.objs.size ≤ hp3.objs.size := Nat.le_trans (Nat.le_add_right _ 5) big3
    have upLow : ∀ j : Nat, j < 5 → s0.heap.objs.size + j < hp3.objs.size := fun j hj => Nat.lt_of_lt_of_le (Nat.add_lt_add_left hj _) big3
    have fpLow : ∀ b ∈ [s0.heap.objs.size + 4, s0.heap.objs.size + 2, s0.heap.objs.size + 3, s0.heap.objs.size, s0.heap.objs.size + 1, lp, lq], b < hp3.objs.size := fun b hb => by
      (simp only [List.mem_cons, List.not_mem_nil, or_false] at hb)
      rcases hb with z | z | z | z | z | z | z <;> subst z
      · exact upLow 4 (by decide)
      · exact upLow 2 (by decide)
      · exact upLow 3 (by decide)
      · exact upLow 0 (by decide)
      · exact upLow 1 (by decide)
      · exact Nat.lt_of_lt_of_le lpN lowN
      · exact Nat.lt_of_lt_of_le lqN lowN
    have wrHigh : ∀ b ∈ [s0.heap.objs.size + 4, s0.heap.objs.size + 3, s0.heap.objs.size, s0.heap.objs.size + 1], s0.heap.objs.size ≤ b ∧ b < hp3.objs.size := fun b hb => by
      (simp only [List.mem_cons, List.not_mem_nil, or_false] at hb)
      rcases hb with z | z | z | z <;> subst z
      · exact ⟨Nat.le_add_right _ _, upLow 4 (by decide)⟩
      · exact ⟨Nat.le_add_right _ _, upLow 3 (by decide)⟩
      · exact ⟨Nat.le_refl _, upLow 0 (by decide)⟩
      · exact ⟨Nat.le_add_right _ _, upLow 1 (by decide)⟩
    refine wpAny_builtinsFor (m := X.mg) (by rw [I0.ok.glob]; exact (I1.mod.glob.keeps I1.bk).extBut hx3 TB.gP) e1 e2 (keep3 _ _ e4 (I1.bk _ _ e5)) e6 e7 e8 ?_
    refine ⟨I0.bare, s0.heap.objs.size + 4, [s0.heap.objs.size + 4, s0.heap.objs.size + 2, s0.heap.objs.size + 3, s0.heap.objs.size, s0.heap.objs.size + 1, lp, lq], [s0.heap.objs.size + 4, s0.heap.objs.size + 3, s0.heap.objs.size, s0.heap.objs.size + 1], hp3.objs.size :: frs X.stack, min itx.toArray.size ity.toArray.size, _, _, (fun _ => true), (fun i y => ∃ tz, y = .int (xs.getD i 0 * ys.getD i 0) tz), rfl,
      Draws2.pair (fun B q => WalksT.zip2 q _ _ _ _ _ _ _ D itx.toArray ity.toArray) (fun i vals pt => by obtain ⟨x, y, _, _, e⟩ := pt; exact ⟨x, y, e⟩) S.loc kb ab (by simp [genEnv, S.kind]) (fun z => Nat.lt_irrefl _ (fpLow _ z)),
      ⟨keep3 _ _ (up 4) isz, keep3 _ _ (up 2) isTI, ⟨_, _, keep3 _ _ (up 3) isTO⟩, it1.at fun o e => keep3 _ o (up 0) e, it2.at fun o e => keep3 _ o (up 1) e, plx.isList.at fun o e => keep0 _ o lx e, ply.isList.at fun o e => keep0 _ o ly e⟩, fpLow, nol.extBut hx3 (baseNP _ _ csAt), ?_, ?_, ?_, ?_, ?_, ?_⟩
    · intro z
      exact absurd (wrHigh _ z).1 (Nat.not_le_of_lt csLow)
    · intro b hb
      show b ≤ hp3.objs.size
      rcases List.mem_cons.mp hb with (z | z)
      · rw [z]
        exact Nat.le_refl _
      · exact Nat.le_of_lt (Nat.lt_of_lt_of_le (frLow b z) lowN)
    · intro b hb hf
      rcases List.mem_cons.mp hf with (y | y)
      · have := fpLow b hb
        rw [y] at this
        exact Nat.lt_irrefl _ this
      · have low := frLow b y
        (simp only [List.mem_cons, List.not_mem_nil, or_false] at hb)
        rcases hb with z | z | z | z | z | z | z
        · rw [z] at low
          exact absurd low (Nat.not_lt_of_le (Nat.le_add_right _ _))
        · rw [z] at low
          exact absurd low (Nat.not_lt_of_le (Nat.le_add_right _ _))
        · rw [z] at low
          exact absurd low (Nat.not_lt_of_le (Nat.le_add_right _ _))
        · rw [z] at low
          exact absurd low (Nat.not_lt_of_le (Nat.le_refl _))
        · rw [z] at low
          exact absurd low (Nat.not_lt_of_le (Nat.le_add_right _ _))
        · subst z
          exact lFr _ _ hsx y
        · subst z
          exact lFr _ _ hsy y
    · intro z
      rcases List.mem_cons.mp z with (y | y)
      · have e : cStatics = hp3.objs.size := y
        rw [e] at csLow
        exact absurd csLow (Nat.not_lt_of_le lowN)
      · exact notFr _ _ csAt y
    · intro ref href
      refine ⟨fun B Ex i t mp hB fB dB uB bT bd ns kept => tests_none ⟨rfl, ⟨rfl, bT, KM.exact (fun _ _ it => it)⟩⟩, fun B Ex i t mp hB fB dB uB bT bd _ ns kept => ?_⟩
      obtain ⟨x, y, ⟨x', y', hx, hy, exy⟩, ma, mb⟩ := bd
      obtain ⟨rfl, rfl⟩ : x = x' ∧ y = y' := by simpa using exy
      have lxi : i < xs.length := by
        have h1 := (Array.getElem?_eq_some_iff.mp hx).1
        have h2 := rvx.length
        rw [List.length_map] at h2
        rw [List.size_toArray] at h1
        omega
      have lyi : i < ys.length := by
        have h1 := (Array.getElem?_eq_some_iff.mp hy).1
        have h2 := rvy.length
        rw [List.length_map] at h2
        rw [List.size_toArray] at h1
        omega
      obtain ⟨tx, hx2⟩ := vals_int_get rvx (List.getElem?_eq_getElem lxi)
      obtain ⟨ty, hy2⟩ := vals_int_get rvy (List.getElem?_eq_getElem lyi)
      rw [hx2] at hx
      rw [hy2] at hy
      cases hx
      cases hy
      have okm := (wide_mul (bx _ (List.getElem_mem lxi)) (by_ _ (List.getElem_mem lyi)) m0 m0 (by omega)).ok
      refine wpAny_BinOp (wpAny_Name (wpAny_loadName_local (by exact S.kind) (by exact S.loc) ns ma ?_) da)
      refine wpAny_Name (wpAny_loadName_local (by exact S.kind) (by exact kb) ns mb ?_) db
      refine mul_int ⟨⟨t.toks, ?_⟩, rfl, bT, KM.exact (fun _ _ it => it)⟩ okm
      rw [List.getD_eq_getElem?_getD, List.getElem?_eq_getElem lxi, List.getD_eq_getElem?_getD, List.getElem?_eq_getElem lyi]
      rfl
    · intro g hp5 tk5 gs gsb ltg szg k5 Wk at5
      refine Calls.spliced_nil (call_sumV ?_)
      have hg5 : hp3.objs.size < hp5.objs.size := by
        rw [szg]
        exact Nat.lt_succ_of_lt ltg
      have pall : passing (fun _ => true) (min itx.toArray.size ity.toArray.size) 0 = List.range (min itx.toArray.size ity.toArray.size) := GxR.passing_true _
      refine Wk.in4.self _ _ _ at5 ⟨g, _, _, _, _, _, (fun i => xs.getD i 0 * ys.getD i 0), rfl, Wk.in4, at5, fun j y hy => ?_, fun z => ?_, fun z => ?_, fun i t2 h' tk2 st2 kk2 => AtB.frame st2 kk2 ?_ ?_ ?_, fun t' tz os' bare' heap' => ?_⟩
      · obtain ⟨i, hi2, hf⟩ := hy
        rw [pall, List.getElem?_range (by
          have := (List.getElem?_eq_some_iff.mp hi2).1
          rw [List.length_range] at this
          exact this)] at hi2
        rw [Option.some.inj hi2]
        exact hf
      · rcases List.mem_cons.mp z with (y | y)
        · have e : hp5.objs.size = hp3.objs.size := y
          rw [e] at hg5
          exact Nat.lt_irrefl _ hg5
        · exact Nat.lt_asymm hg5 (wrHigh _ y).2
      · rcases List.mem_cons.mp z with (y | y)
        · have e : hp5.objs.size = hp3.objs.size := y
          rw [e] at hg5
          exact Nat.lt_irrefl _ hg5
        · exact absurd (frLow _ y) (Nat.not_lt_of_le (Nat.le_trans lowN (Nat.le_of_lt hg5)))
      · show g ≠ hp5.objs.size
        rw [szg]
        exact Nat.ne_of_lt (Nat.lt_succ_self _)
      · exact Nat.ne_of_lt (Nat.lt_of_lt_of_le csLow (Nat.le_trans lowN (Nat.le_of_lt hg5)))
      · intro b hb
        show b ≠ hp5.objs.size
        rcases List.mem_cons.mp hb with (y | y)
        · have e : b = hp3.objs.size := y
          rw [e]
          exact Nat.ne_of_lt hg5
        · rcases List.mem_append.mp y with (v | v)
          · exact Nat.ne_of_lt (Nat.lt_trans (fpLow b v) hg5)
          · exact Nat.ne_of_lt (Nat.lt_trans (List.mem_range.mp v) hg5)
      · obtain ⟨more, rfl⟩ := grown
        have offW : ∀ b, b < s0.heap.objs.size → b ∉ hp3.objs.size :: [s0.heap.objs.size + 4, s0.heap.objs.size + 3, s0.heap.objs.size, s0.heap.objs.size + 1] := fun b lt z => by
          rcases List.mem_cons.mp z with (y | y)
          · rw [y] at lt
            exact absurd lt (Nat.not_lt_of_le lowN)
          · exact absurd lt (Nat.not_lt_of_le (wrHigh _ y).1)
        have kB : ∀ b o, b < s0.heap.objs.size → hp3.get? b = some o → (b ∉ frs X.stack → t'.heap.get? b = some o) ∧ ∃ sl, t'.heap.get? b = some { o with slots := sl } := fun b o lt it => by
          obtain ⟨p1, p2⟩ := heap' b o (offW b lt) (k5 b o it)
          exact ⟨fun nf => p1 fun z => (List.mem_cons.mp z).elim (fun y => absurd (Nat.lt_of_lt_of_le lt lowN) (by rw [y]; exact Nat.lt_irrefl _)) nf, p2⟩
        have J := inv_gen (t' := t') (more := more) I0 hP os' bare' (fun b o nb it => kB b o (Heap.lt_size it) (keep0 b o nb it)) ((kB P _ ltP atP3).1 frNotP)
        have len : (passing (fun _ => true) (min itx.toArray.size ity.toArray.size) 0).length = min xs.length ys.length := by
          have h1 := rvx.length
          have h2 := rvy.length
          rw [List.length_map] at h1 h2
          rw [pall, List.length_range, List.size_toArray, List.size_toArray, h1, h2]
        rw [len]
        exact ⟨.int _, _, J, ⟨tz, rfl⟩, want _ ⟨⟨ptab ++ more, upd_same, ok3⟩, fun b nb => upd_ne nb⟩⟩
  refine ⟨nol, ?_⟩
  cases among : codeAmong gpos ptab.toList with
  | none =>
    refine wpAny_genexprCodeX hcode (hdC.code atP2 htr) (hdC.tab atP2) among fun c2 hp2 tk hx2 ge2 lt2 isC _ tabA _ => ?_
    obtain ⟨o1, vs, f1, tf, fl, tg, inF, tx, tt, op, _, _, _, _, _, _, _, _, _, trs, _⟩ := isC
    exact cont _ hp2 tk _ hx2 (Nat.le_trans ge2 (Nat.le_of_lt lt2)) tabA.2 ⟨_, rfl⟩ trs
  | some cv =>
    refine wpAny_genexprCode_hit hcode (hdC.code atP2 htr) among ?_
    exact cont cv hz s0.toks ptab (Heap.ExtBut.refl _ _) (Nat.le_refl _) atP2 ⟨#[], by simp⟩ htr
end
end V3
/-! A generator expression over any iterator, its element told by small rules inside its own frame; all and any over it. -/
namespace V3
open PySem.Spec PySem L2 PyProof.Rows GxR RZ
theorem KeptG.refl {fs : List Addr} {t : Shared} (b : AllBare t.gens) : KeptG fs t t := ⟨rfl, b, KM.exact fun _ _ it => it⟩
theorem KeptG.trans {fs : List Addr} {t t1 t2 : Shared} (p : KeptG fs t t1) (q : KeptG fs t1 t2) : KeptG fs t t2 := ⟨q.os.trans p.os, q.bare, p.heap.trans q.heap⟩
/-- the element's own frame; Ok: the states that it may stand in -/
structure GF (X : Cx) (H : Hp) (h : Heap) (σ : L2.St) (scope : Scope) (ce : Env) (B : Around) (mp : Str → Option Value) (Ok : Shared → Prop) : Prop where
  inv : ∃ (pins : List (Addr × Obj)) (s : Shared), s.heap = h ∧ Inv X pins σ H s
  b0 : B.handled = none
  bf : B.frames = some (ce :: X.stack)
  bd : B.depth ≤ X.A.depth + 1
  bu : B.units ≤ X.A.units + 8
  sc : ce.scope = scope
  kind : scope.kind = .function
  glob : ce.globals = mainGlobals
  inGen : ∀ t, Ok t → InGen X H h ce 0 t
  ns : ∀ t, Ok t → t.heap.Ns ce.locals mp
  next : ∀ t t', Ok t → KeptG (frs (ce :: X.stack)) t t' → Ok t'
  tok : ∀ t n, Ok t → Ok { t with toks := n }
  cell : ∀ (cn : Str) (ic : Nat) (vc : V), Cap X scope cn ic → σ[ic]? = some (some vc) → ∃ uc, RelV vc uc ∧ ∀ (p : Pos) Ex (R : Value → Shared → Prop) t, Ok t → R uc t → wpAny (model X.prog X.w) B (eval (.Name cn p) ce) R Ex t
def GE (X : Cx) (ce : Env) (B : Around) (Ok : Shared → Prop) (e : Expr) (P : V → Prop) : Prop :=
  ∀ (Ex : Value → Shared → Prop) (t : Shared), Ok t → wpAny (model X.prog X.w) B (eval e ce) (fun u t' => (∃ v, RelV v u ∧ P v) ∧ KeptG (frs (ce :: X.stack)) t t') Ex t
section
variable {X : Cx} {H : Hp} {h : Heap} {σ : L2.St} {scope : Scope} {ce : Env} {B : Around} {mp : Str → Option Value} {Ok : Shared → Prop} {e e1 e2 : Expr} {P P1 P2 : V → Prop}
theorem GF.bare (G : GF X H h σ scope ce B mp Ok) {t : Shared} (ok : Ok t) : AllBare t.gens := (G.inGen t ok).bare
theorem ge_loc {x : Str} {p : Pos} {u : Value} {v : V} (G : GF X H h σ scope ce B mp Ok) (hl : scope.names.lookup x = some .local) (hm : mp x = some u) (r : RelV v u) (pv : P v) (dx : (x == ("__debug__" : Str)) = false := by decide) : GE X ce B Ok (.Name x p) P :=
  fun Ex t ok => wpAny_Name (wpAny_loadName_local (by rw [G.sc]; exact G.kind) (by show ce.scope.names.lookup x = _; rw [G.sc]; exact hl) (G.ns t ok) hm ⟨⟨v, r, pv⟩, KeptG.refl (G.bare ok)⟩) dx
theorem ge_cap {x : Str} {p : Pos} {ic : Nat} {v : V} (G : GF X H h σ scope ce B mp Ok) (C : Cap X scope x ic) (hv : σ[ic]? = some (some v)) (pv : P v) : GE X ce B Ok (.Name x p) P := fun Ex t ok => by
  obtain ⟨uc, r, go⟩ := G.cell x ic v C hv
  exact go p Ex _ t ok ⟨⟨v, r, pv⟩, KeptG.refl (G.bare ok)⟩
theorem ge_glob {x : Str} {p : Pos} {u : Value} {v : V} (G : GF X H h σ scope ce B mp Ok) (kf : scope.names.lookup x = some .globalImplicit) (hm : X.mg x = some u) (r : RelV v u) (pv : P v) (dx : (x == ("__debug__" : Str)) = false := by decide) : GE X ce B Ok (.Name x p) P := fun Ex t ok => by
  obtain ⟨pins, s, _, I⟩ := G.inv
  exact Calls.Name_function_global (by rw [G.sc]; exact G.kind) (by show ce.scope.names.lookup x = _; rw [G.sc]; exact kf) (Calls.loadGlobal_global (by rw [G.glob]; exact I.mod.glob.keeps (G.inGen t ok).base) hm ⟨⟨v, r, pv⟩, KeptG.refl (G.bare ok)⟩) dx
theorem ge_int {i : Int} {j : Nat} {p : Pos} (G : GF X H h σ scope ce B mp Ok) (pv : P (.int i)) : GE X ce B Ok (.Constant (.int i) j p) P := fun Ex t ok =>
  wpAny_Constant_int ⟨⟨.int i, ⟨_, rfl⟩, pv⟩, ⟨rfl, G.bare (t := t) ok, KM.exact fun _ _ it => it⟩⟩
theorem ge_imp {P2 : V → Prop} (a : GE X ce B Ok e P) (i : ∀ v, P v → P2 v) : GE X ce B Ok e P2 := fun Ex t ok => thn (a Ex t ok) fun u t' ⟨⟨v, r, pv⟩, k⟩ => ⟨⟨v, r, i v pv⟩, k⟩
theorem ge_add {p : Pos} (G : GF X H h σ scope ce B mp Ok) (a : GE X ce B Ok e1 P1) (b : GE X ce B Ok e2 P2) (q : ∀ x y, P1 x → P2 y → ∃ i j, x = .int i ∧ y = .int j ∧ P (.int (i + j))) : GE X ce B Ok (.BinOp e1 .Add e2 p) P := fun Ex t ok => by
  refine wpAny_BinOp (thn (a Ex t ok) fun u1 t1 ⟨⟨x, r1, p1⟩, k1⟩ => thn (b Ex t1 (G.next _ _ ok k1)) fun u2 t2 ⟨⟨y, r2, p2⟩, k2⟩ => ?_)
  obtain ⟨i, j, rfl, rfl, pv⟩ := q x y p1 p2
  obtain ⟨t', rfl⟩ := r1
  obtain ⟨t'', rfl⟩ := r2
  exact add_int ⟨⟨.int _, ⟨_, rfl⟩, pv⟩, k1.trans (k2.trans ⟨rfl, k2.bare, KM.exact fun _ _ it => it⟩)⟩
theorem ge_cmp {p : Pos} {op : CmpOp} {f : Int → Int → Bool} (G : GF X H h σ scope ce B mp Ok) (a : GE X ce B Ok e1 P1) (b : GE X ce B Ok e2 P2) (hm : behindInMarks op e2 = false)
    (rule : ∀ (i j : Int) (t u : Tok) (Q E : Value → Shared → Prop) (s : Shared), Q (.bool (f i j)) s → wpAny (model X.prog X.w) B (compareOp op (.int i t) (.int j u)) Q E s)
    (q : ∀ x y, P1 x → P2 y → ∃ i j, x = .int i ∧ y = .int j ∧ P (.bl (f i j))) : GE X ce B Ok (.Compare e1 [op] [e2] p) P := fun Ex t ok => by
  refine wpAny_Compare1 (thn (a Ex t ok) fun u1 t1 ⟨⟨x, r1, p1⟩, k1⟩ => thn (b Ex t1 (G.next _ _ ok k1)) fun u2 t2 ⟨⟨y, r2, p2⟩, k2⟩ => ?_) (by first | exact hm | assumption)
  obtain ⟨i, j, rfl, rfl, pv⟩ := q x y p1 p2
  obtain ⟨t', rfl⟩ := r1
  obtain ⟨t'', rfl⟩ := r2
  exact rule _ _ _ _ _ _ _ ⟨⟨.bl _, rfl, pv⟩, k1.trans k2⟩
theorem ge_not {p : Pos} (G : GF X H h σ scope ce B mp Ok) (a : GE X ce B Ok e P1) (q : ∀ x, P1 x → ∃ c, x = .bl c ∧ P (.bl (!c))) : GE X ce B Ok (.UnaryOp .Not e p) P := fun Ex t ok => by
  refine UnaryOp_ (thn (a Ex t ok) fun u1 t1 ⟨⟨x, r1, p1⟩, k1⟩ => ?_)
  obtain ⟨c, rfl, pv⟩ := q x p1
  cases r1
  exact not_of (wpAny_truthy_bool ⟨⟨.bl (!c), rfl, pv⟩, k1⟩)
theorem ge_one {p : Pos} {op : BoolOp} (a : GE X ce B Ok e P) : GE X ce B Ok (.BoolOp op [e] p) P := fun Ex t ok => BoolOp_one (a Ex t ok)
theorem ge_and {p : Pos} {rest : List Expr} {c : Bool} (G : GF X H h σ scope ce B mp Ok) (a : GE X ce B Ok e1 (· = .bl c)) (b : c = true → GE X ce B Ok (.BoolOp .And (e2 :: rest) p) P) (q : c = false → P (.bl false)) : GE X ce B Ok (.BoolOp .And (e1 :: e2 :: rest) p) P := fun Ex t ok => by
  refine BoolOp_and (thn (a Ex t ok) fun u1 t1 ⟨⟨x, r1, p1⟩, k1⟩ => ?_)
  subst p1
  cases r1
  refine wpAny_truthy_bool ?_
  cases c with
  | true => exact thn (b rfl Ex t1 (G.next _ _ ok k1)) fun u t' ⟨z, k2⟩ => ⟨z, k1.trans k2⟩
  | false => exact ⟨⟨.bl false, rfl, q rfl⟩, k1⟩
/-- an item of a tuple that stood when the generator was made -/
theorem ge_ix {p : Pos} {a : Addr} {xs : List V} {i : Int} {v : V} (G : GF X H h σ scope ce B mp Ok) (h1 : GE X ce B Ok e1 (· = .ref a)) (h2 : GE X ce B Ok e2 (· = .int i)) (hq : SqT X.K (fast h H) a xs) (he : atI xs i = some v) (pv : P v)
    (hs : ∀ o i, subscripted e2 false o i = operate [o, i] (getItem o i)) : GE X ce B Ok (.Subscript e1 e2 p) P := fun Ex t ok => by
  refine Subscript_ (thn (h1 Ex t ok) fun u1 t1 ⟨⟨x, r1, p1⟩, k1⟩ => thn (h2 Ex t1 (G.next _ _ ok k1)) fun u2 t2 ⟨⟨y, r2, p2⟩, k2⟩ => ?_)
  subst p1 p2
  cases r1
  obtain ⟨tk, rfl⟩ := r2
  have ok2 := G.next _ _ (G.next _ _ ok k1) k2
  have g := G.inGen t2 ok2
  obtain ⟨pins, s, _, I⟩ := G.inv
  have tup : ∃ its : List Value, Vals xs its ∧ IsTup t2.heap a its.toArray ∧ xs.length ≤ sizeLine := by
    rcases hq with z | ⟨o, its, n, hk, hc, hs2, hz, r⟩
    · obtain ⟨z, its, r, pp⟩ := z.ok g.ok
      exact ⟨its, r, pp, z⟩
    · refine ⟨its.toList, r, ⟨o, (I.mod.kin.keeps g.base) a o hk, hc, n, by simpa using hs2⟩, ?_⟩
      have e := r.length
      (simp only [Array.length_toList] at e)
      omega
  obtain ⟨its, r, pl, hz⟩ := tup
  (obtain ⟨j, h1, h2, h3, h4, h5⟩ := atI_get he)
  (obtain ⟨w, ew, rw'⟩ := r.get h2)
  have hl := r.length
  have hn := line63
  exact subscriptTail_builtinR (x := w) pl.typeIs slot_tuple_getitem.lookup (getItem_tuple (j := j) (Q := fun r s' => r = w ∧ ((∃ v, RelV v r ∧ P v) ∧ KeptG (frs (ce :: X.stack)) t s')) pl (by omega) (by omega) (by rw [List.size_toArray, ← hl]; exact h1) (by simpa using ew) ⟨rfl, ⟨v, rw', pv⟩, k1.trans k2⟩) (hs _ _)
theorem ge_call1 {fn : Str} {p0 pos0 : Pos} {k : Nat} {ps : List Str} {sp : Sp} (G : GF X H h σ scope ce B mp Ok) (D : Df X.prog X.w X.K X.mg X.base fn k ps sp) (hr : Room (k + 1) X.A) (kf : scope.names.lookup fn = some .globalImplicit) (h1 : GE X ce B Ok e1 P1)
    (ask : ∀ x, P1 x → sp [x] (fast h H) (fun v _ => P v) E0) (df : (fn == ("__debug__" : Str)) = false := by decide) (hs : ∀ env, starEach [e1] env = (false, eval e1 env) :: starEach [] env := by intro _; rfl) : GE X ce B Ok (.Call (.Name fn p0) [e1] [] pos0) P := fun Ex t ok => by
  obtain ⟨f, fd, gf, kp, bd, F, _⟩ := D.ex
  obtain ⟨pins, s, rfl, I⟩ := G.inv
  refine wpAny_Call_Name_kw (Calls.Name_function_global (by rw [G.sc]; exact G.kind) (by show ce.scope.names.lookup fn = _; rw [G.sc]; exact kf) (Calls.loadGlobal_global (by rw [G.glob]; exact I.mod.glob.keeps (G.inGen t ok).base) gf ?_) df)
  refine PySem.W.callWith_K (h₀ := X.base) I.ok.mod.kin kp ?_ (hs ce) (by rfl)
  rw [hs]
  show wpAny _ B (spliced ((false, eval e1 ce) :: [])) _ _ t
  refine Calls.spliced_cons (thn (h1 _ t ok) fun u1 t1 ⟨⟨x, r1, p1⟩, k1⟩ => ?_)
  have ok1 := G.next _ _ ok k1
  refine Calls.spliced_nil ⟨I.ok.mod.kin.keeps (G.inGen t1 ok1).base, ?_⟩
  exact gen_call (q := P) I F bd hr (G.inGen t1 ok1) G.b0 G.bf G.bd G.bu (.cons r1 .nil) (ask x p1) fun v2 u2 t2 qv rv2 kg => ⟨⟨v2, rv2, qv⟩, k1.trans kg⟩
theorem ge_call2 {fn : Str} {p0 pos0 : Pos} {k : Nat} {ps : List Str} {sp : Sp} (G : GF X H h σ scope ce B mp Ok) (D : Df X.prog X.w X.K X.mg X.base fn k ps sp) (hr : Room (k + 1) X.A) (kf : scope.names.lookup fn = some .globalImplicit) (h1 : GE X ce B Ok e1 P1) (h2 : GE X ce B Ok e2 P2)
    (ask : ∀ x y, P1 x → P2 y → sp [x, y] (fast h H) (fun v _ => P v) E0) (df : (fn == ("__debug__" : Str)) = false := by decide) (hs : ∀ env, starEach [e1, e2] env = (false, eval e1 env) :: starEach [e2] env := by intro _; rfl) (hs2 : ∀ env, starEach [e2] env = (false, eval e2 env) :: starEach [] env := by intro _; rfl) : GE X ce B Ok (.Call (.Name fn p0) [e1, e2] [] pos0) P := fun Ex t ok => by
  obtain ⟨f, fd, gf, kp, bd, F, _⟩ := D.ex
  obtain ⟨pins, s, rfl, I⟩ := G.inv
  refine wpAny_Call_Name_kw (Calls.Name_function_global (by rw [G.sc]; exact G.kind) (by show ce.scope.names.lookup fn = _; rw [G.sc]; exact kf) (Calls.loadGlobal_global (by rw [G.glob]; exact I.mod.glob.keeps (G.inGen t ok).base) gf ?_) df)
  refine PySem.W.callWith_K (h₀ := X.base) I.ok.mod.kin kp ?_ (hs ce) (by rw [hs2]; rfl)
  rw [hs, hs2]
  show wpAny _ B (spliced ((false, eval e1 ce) :: (false, eval e2 ce) :: [])) _ _ t
  refine Calls.spliced_cons (thn (h1 _ t ok) fun u1 t1 ⟨⟨x, r1, p1⟩, k1⟩ => ?_)
  have ok1 := G.next _ _ ok k1
  refine Calls.spliced_cons (thn (h2 _ t1 ok1) fun u2 t2 ⟨⟨y, r2, p2⟩, k2⟩ => ?_)
  have ok2 := G.next _ _ ok1 k2
  refine Calls.spliced_nil ⟨I.ok.mod.kin.keeps (G.inGen t2 ok2).base, ?_⟩
  exact gen_call (q := P) I F bd hr (G.inGen t2 ok2) G.b0 G.bf G.bd G.bu (.cons r1 (.cons r2 .nil)) (ask x y p1 p2) fun v2 u2 t2 qv rv2 kg => ⟨⟨v2, rv2, qv⟩, (k1.trans k2).trans kg⟩
end
/-- an iterator that stands ready -/
structure ItReady (X : Cx) (P : Addr) (h0 hz : Heap) (tgt : Expr) (scope : Scope) (I : Addr) (fp wr : List Addr) (n : Nat) (Bd : Nat → (Str → Option Value) → Prop) (St : Nat → Heap → Prop) : Prop where
  keep : ∀ b o, h0.get? b = some o → hz.get? b = some o
  grow : h0.objs.size ≤ hz.objs.size
  draws : ∀ ce : Env, ce.scope = scope → ce.locals ∉ fp → Draws2 X.prog X.w tgt ce I fp wr n Bd St
  sub : ∀ b ∈ wr, b ∈ fp
  st : St 0 hz
  low : ∀ b ∈ fp, b < hz.objs.size
  high : ∀ b ∈ wr, h0.objs.size ≤ b
  offP : ∀ b ∈ fp, b ≠ P
  offF : ∀ b ∈ fp, b ∉ frs X.stack
structure GenS0 (env : Env) (scope : Scope) : Prop where
  kind : scope.kind = .function
  (co : scope.isCoroutine = false)
  (cell : ∀ y ∈ scope.names, y.2 ≠ .cell)
  (dot : scope.names.lookup (".0" : Str) = some NameKind.local)
  (free : ∀ y ∈ scope.names, y.2 = .free → ∃ c, env.cells.lookup y.1 = some c)
section
variable {X : Cx}
theorem gen_core {pins : List (Addr × Obj)} {σ : L2.St} {H1 : Hp} {s0 : Shared} {hz : Heap} {c P I : Addr} {elt iter tgt : Expr} {scope : Scope} {gpos : Pos} {fp wr : List Addr} {n : Nat} {Bd : Nat → (Str → Option Value) → Prop} {St : Nat → Heap → Prop} {E : Value → Shared → Prop} {F : Nat → V → Prop} {Qg : Value → Shared → Prop} {k : Nat}
    (I0 : Inv X pins σ H1 s0) (hr : Room k X.A) (TB : TabB X.base X.mg c P) (hcode : X.env.code = .ref c) (S : GenS0 X.env scope) (rdy : ItReady X P s0.heap hz tgt scope I fp wr n Bd St) (tab : TabG H1 P)
    (helt : ∀ (ce : Env) (B : Around) (mp : Str → Option Value) (Ok : Shared → Prop) (i : Nat), Bd i mp → GF X H1 s0.heap σ scope ce B mp Ok → GE X ce B Ok elt (F i))
    (want : ∀ (g : Addr) (t5 : Shared) (wr' fs' : List Addr) (St' : Nat → Shared → Prop), WalksV X.prog X.w X.A.in4 g wr' fs' n (fun j y => ∃ v, RelV v y ∧ F j v) St' → St' 0 t5 → (∀ t', MovedV wr' fs' t5 t' → ∃ H2, Tabbed P H1 H2 ∧ Inv X pins σ H2 t') → Qg (.ref g) t5) :
    hz.NoLimit ∧ wpAny (model X.prog X.w) X.A (genexprCode X.env gpos (X.env.qual ++ "<genexpr>") scope) (fun code t3 => wpAny (model X.prog X.w) X.A (builtinsFor X.env.globals X.env.builtins) (fun bi t4 => MadeD X.prog X.w X.A X.env elt iter tgt [] scope (cloFrom X.env.cells scope.names []) gpos Qg (.ref I) code bi t4) E t3) E { s0 with heap := hz } := by
  obtain ⟨ptab, hP, htr⟩ := tab
  have I1 : Inv X pins σ H1 { s0 with heap := hz } := I0.kept (t' := s0.toks) rdy.keep
  have atP : s0.heap.get? P = some { cls := .none, data := .fields ptab } := I0.hok P _ hP
  have ltP : P < s0.heap.objs.size := Heap.lt_size atP
  have atP2 : hz.get? P = some { cls := .none, data := .fields ptab } := rdy.keep _ _ atP
  have hdC : PySem.W.CodeHd hz c P := TB.code.keeps fun b u e => I1.bk b u e
  have nol : hz.NoLimit := I1.nolimit
  have csB : ∃ o, X.base.get? cStatics = some o := by
    obtain ⟨_, q, _⟩ := I0.ok.mod.nolimit
    obtain ⟨o, es, ep, ho, _⟩ := q
    exact ⟨o, ho⟩
  have notFr : ∀ b o, X.base.get? b = some o → b ∉ frs X.stack := fun b o it z => by
    have := (frs_apart I0.stack z).1
    rw [it] at this
    cases this
  have frLow : ∀ b ∈ frs X.stack, b < s0.heap.objs.size := fun b z => by
    obtain ⟨_, o, ho, _⟩ := frs_apart I0.stack z
    exact Heap.lt_size ho
  have frNotP : P ∉ frs X.stack := fun z => by
    have := I0.stkFree P z
    rw [hP] at this
    cases this
  have cont : ∀ (code : Value) (hp3 : Heap) (tk : Nat) (ptab3 : Array Value), Heap.ExtBut P hz hp3 → hz.objs.size ≤ hp3.objs.size → hp3.get? P = some { cls := .none, data := .fields ptab3 } → (∃ more, ptab3 = ptab ++ more) → TriplesOk ptab3.toList →
      wpAny (model X.prog X.w) X.A (builtinsFor X.env.globals X.env.builtins) (fun bi t4 => MadeD X.prog X.w X.A X.env elt iter tgt [] scope (cloFrom X.env.cells scope.names []) gpos Qg (.ref I) code bi t4) E { s0 with heap := hp3, toks := tk } := by
    intro code hp3 tk ptab3 hx3 sz3 atP3 grown ok3
    (obtain ⟨bm, ob, e1, e2, e3, e4, e5, e6, e7, e8⟩ := TB.bm)
    have keep3 : ∀ b u, b ≠ P → hz.get? b = some u → hp3.get? b = some u := fun b u nb it => hx3 b u nb it
    have keep0 : ∀ b u, b ≠ P → s0.heap.get? b = some u → hp3.get? b = some u := fun b u nb it => hx3 b u nb (rdy.keep b u it)
    have baseNP : ∀ b o, X.base.get? b = some o → b ≠ P := fun b o it z => by
      have := (I0.bs b o it).2
      rw [z, hP] at this
      cases this
    obtain ⟨oCs, csAt⟩ := csB
    have csLow : cStatics < s0.heap.objs.size := Heap.lt_size (I0.bk _ _ csAt)
    have lowN : s0.heap.objs.size ≤ hp3.objs.size := Nat.le_trans rdy.grow sz3
    have fpLow : ∀ b ∈ fp, b < hp3.objs.size := fun b hb => Nat.lt_of_lt_of_le (rdy.low b hb) sz3
    have pall : passing (fun _ => true) n 0 = List.range n := GxR.passing_true _
    have wrHigh : ∀ b ∈ wr, s0.heap.objs.size ≤ b ∧ b < hp3.objs.size := fun b hb => ⟨rdy.high b hb, fpLow b (rdy.sub b hb)⟩
    refine wpAny_builtinsFor (m := X.mg) (by rw [I0.ok.glob]; exact (I1.mod.glob.keeps I1.bk).extBut hx3 TB.gP) e1 e2 (keep3 _ _ e4 (I1.bk _ _ e5)) e6 e7 e8 ?_
    have dr := rdy.draws (genEnv scope (cloFrom X.env.cells scope.names []) hp3.objs.size code builtinsNs X.env) rfl (fun z => Nat.lt_irrefl _ (fpLow _ z))
    refine ⟨I0.bare, I, fp, wr, hp3.objs.size :: frs X.stack, n, Bd, St, (fun _ => true), (fun i y => ∃ v, RelV v y ∧ F i v), rfl, dr, dr.frame 0 _ _ rdy.st (fun b hb o it => keep3 b o (rdy.offP b hb) it), fpLow, nol.extBut hx3 (baseNP _ _ csAt), ?_, ?_, ?_, ?_, ?_, ?_⟩
    · intro z
      exact absurd (wrHigh _ z).1 (Nat.not_le_of_lt csLow)
    · intro b hb
      show b ≤ hp3.objs.size
      rcases List.mem_cons.mp hb with (z | z)
      · rw [z]
        exact Nat.le_refl _
      · exact Nat.le_of_lt (Nat.lt_of_lt_of_le (frLow b z) lowN)
    · intro b hb hf
      rcases List.mem_cons.mp hf with (y | y)
      · have := fpLow b hb
        rw [y] at this
        exact Nat.lt_irrefl _ this
      · exact rdy.offF b hb y
    · intro z
      rcases List.mem_cons.mp z with (y | y)
      · have e : cStatics = hp3.objs.size := y
        rw [e] at csLow
        exact absurd csLow (Nat.not_lt_of_le lowN)
      · exact notFr _ _ csAt y
    · intro ref href
      refine ⟨fun B Ex i t mp hB fB dB uB bT bd ns kept => tests_none ⟨rfl, ⟨rfl, bT, KM.exact (fun _ _ it => it)⟩⟩, fun B Ex i t mp hB fB dB uB bT bd _ ns kept => ?_⟩
      have fB' : B.frames = some (genEnv scope (cloFrom X.env.cells scope.names []) hp3.objs.size code builtinsNs X.env :: X.stack) := by
        have e5 : X.A.in4.in1.frames = some X.stack := I0.ok.frames
        rw [fB]
        simp only [Around.over, List.map_nil]
        rw [e5]
        rfl
      have bszS : X.base.objs.size ≤ s0.heap.objs.size := Nat.le_trans I0.ok.bsz I0.sz
      have both : ∀ u : Heap, KeptO (List.range hp3.objs.size) wr (hp3.objs.size :: frs X.stack) ref u → ∀ b o, b ≠ P → s0.heap.get? b = some o → (b ∉ frs X.stack → u.get? b = some o) ∧ ∃ sl, u.get? b = some { o with slots := sl } := fun u kept b o nb it => by
        have lt := Heap.lt_size it
        have ltc : b < hp3.objs.size := Nat.lt_of_lt_of_le lt lowN
        obtain ⟨p1, p2⟩ := kept b (List.mem_range.mpr ltc) (fun z => absurd lt (Nat.not_lt_of_le (wrHigh b z).1)) o (href _ _ (keep0 b o nb it))
        exact ⟨fun nf => p1 fun z => (List.mem_cons.mp z).elim (fun y => Nat.ne_of_lt ltc y) nf, p2⟩
      have G : GF X H1 s0.heap σ scope (genEnv scope (cloFrom X.env.cells scope.names []) hp3.objs.size code builtinsNs X.env) B mp (fun u => AllBare u.gens ∧ u.heap.Ns hp3.objs.size mp ∧ KeptO (List.range hp3.objs.size) wr (hp3.objs.size :: frs X.stack) ref u.heap) := by
        refine ⟨⟨pins, s0, rfl, I0⟩, hB, fB', dB, uB, rfl, S.kind, I0.ok.glob, fun u ⟨ub, un, uk⟩ => ?_, fun u ok => ok.2.1, fun u u' ⟨ub, un, uk⟩ kg => ⟨kg.bare, kg.heap.ns un, uk.km kg.heap⟩, fun u n ok => ok, fun cn ic vc Cc hvc => ?_⟩
        · have bu := both u.heap uk
          have baseT : ∀ b o, X.base.get? b = some o → u.heap.get? b = some o := fun b o it => (bu b o (baseNP b o it) (I0.bk b o it)).1 (notFr b o it)
          obtain ⟨oC, esC, epC, atC, datC, moreC⟩ := id un
          have ltC : hp3.objs.size < u.heap.objs.size := Heap.lt_size atC
          refine ⟨baseT, Nat.le_trans bszS (Nat.le_of_lt (Nat.lt_of_le_of_lt lowN ltC)), ⟨?_, ⟨hp3.objs.size, oC, rfl, ?_, atC, fun vs z => ?_⟩, ?_⟩, fun b hb => ?_, ?_, ub⟩
          · show scope.kind ≠ .module
            rw [S.kind]
            exact fun z => nomatch z
          · cases eb : X.base.get? hp3.objs.size with
            | none => rfl
            | some o =>
              have := Nat.lt_of_lt_of_le (Heap.lt_size eb) bszS
              exact absurd this (Nat.not_lt_of_le lowN)
          · rw [datC] at z
            cases z
          · refine Heap.FunFrames.of_keeps (fun b o it nf => ?_) I0.stack
            have nb : b ≠ P := fun z => by
              rw [z, atP] at it
              cases it
              exact nf _ rfl
            obtain ⟨_, sl, z⟩ := bu b o nb it
            exact ⟨_, z, rfl⟩
          · rcases List.mem_cons.mp hb with (z | z)
            · rw [z]
              exact I0.hok.fresh lowN
            · exact I0.stkFree b z
          · refine fast_ok I0.hok fun b u2 o e nt it => (bu b o (fun z => ?_) it).1 fun z => ?_
            · rw [z, hP] at e
              exact nt ptab (Option.some.inj e).symm
            · have := I0.stkFree b z
              rw [e] at this
              cases this
        · obtain ⟨cc, uc, rc, look, cellAt⟩ := Cc.at I0 hvc
          refine ⟨uc, rc, fun p Ex R u ok q => Cc.eval S.kind rfl rfl look ?_ q⟩
          obtain ⟨o, ho, hd⟩ := cellAt
          have nb : cc ≠ P := fun z => by
            rw [z, atP] at ho
            cases ho
            cases hd
          obtain ⟨_, sl, z⟩ := both u.heap ok.2.2 cc o nb ho
          exact ⟨_, z, hd⟩
      exact helt _ B mp _ i bd G Ex t ⟨bT, ns, kept⟩
    · intro g hp5 tk5 gs gsb ltg szg k5 Wk at5
      have hg5 : hp3.objs.size < hp5.objs.size := by
        rw [szg]
        exact Nat.lt_succ_of_lt ltg
      have len : (passing (fun _ => true) n 0).length = n := by rw [pall, List.length_range]
      rw [len] at Wk
      refine want g _ _ _ _ ⟨fun i t Q E hi st kq => Wk.item i t Q E hi st fun v t' hy => kq v t' ?_, Wk.done, Wk.self⟩ at5 fun t' mv => ?_
      · obtain ⟨i2, hi2, hf⟩ := hy
        rw [pall, List.getElem?_range hi] at hi2
        rw [Option.some.inj hi2]
        exact hf
      · obtain ⟨more, rfl⟩ := grown
        have offW : ∀ b, b < s0.heap.objs.size → b ∉ hp3.objs.size :: wr := fun b lt z => by
          rcases List.mem_cons.mp z with (y | y)
          · rw [y] at lt
            exact absurd lt (Nat.not_lt_of_le lowN)
          · exact absurd lt (Nat.not_lt_of_le (wrHigh _ y).1)
        have kB : ∀ b o, b < s0.heap.objs.size → hp3.get? b = some o → (b ∉ frs X.stack → t'.heap.get? b = some o) ∧ ∃ sl, t'.heap.get? b = some { o with slots := sl } := fun b o lt it => by
          obtain ⟨p1, p2⟩ := mv.heap b o (offW b lt) (k5 b o it)
          exact ⟨fun nf => p1 fun z => (List.mem_cons.mp z).elim (fun y => absurd (Nat.lt_of_lt_of_le lt lowN) (by rw [y]; exact Nat.lt_irrefl _)) nf, p2⟩
        have J := inv_gen (t' := t') (more := more) I0 hP mv.os mv.bare (fun b o nb it => kB b o (Heap.lt_size it) (keep0 b o nb it)) ((kB P _ ltP atP3).1 frNotP)
        exact ⟨_, ⟨⟨ptab ++ more, upd_same, ok3⟩, fun b nb => upd_ne nb⟩, J⟩
  refine ⟨nol, ?_⟩
  cases among : codeAmong gpos ptab.toList with
  | none =>
    refine wpAny_genexprCodeX hcode (hdC.code atP2 htr) (hdC.tab atP2) among fun c2 hp2 tk hx2 ge2 lt2 isC _ tabA _ => ?_
    obtain ⟨o1, vs, f1, tf, fl, tg, inF, tx, tt, op, _, _, _, _, _, _, _, _, _, trs, _⟩ := isC
    exact cont _ hp2 tk _ hx2 (Nat.le_trans ge2 (Nat.le_of_lt lt2)) tabA.2 ⟨_, rfl⟩ trs
  | some cv =>
    refine wpAny_genexprCode_hit hcode (hdC.code atP2 htr) among ?_
    exact cont cv hz s0.toks ptab (Heap.ExtBut.refl _ _) (Nat.le_refl _) atP2 ⟨#[], by simp⟩ htr
end
end V3
/-! all(.. for i, x in enumerate(t)), the element told by small rules. -/
namespace V3
open PySem.Spec PySem L2 PyProof.Rows GxR RZ
section
variable {X : Cx}
/-- all over a generator that stands -/
theorem all_end {pins : List (Addr × Obj)} {σ : L2.St} {H1 : Hp} {P g : Addr} {t5 : Shared} {wr' fs' : List Addr} {St' : Nat → Shared → Prop} {n : Nat} {tr : Nat → Bool} {pos : Pos} {Q : VK}
    (Wk : WalksV X.prog X.w X.A.in4 g wr' fs' n (fun j y => ∃ v, RelV v y ∧ v = .bl (tr j)) St') (st : St' 0 t5) (on : ∀ t', MovedV wr' fs' t5 t' → ∃ H2, Tabbed P H1 H2 ∧ Inv X pins σ H2 t') (q : ∀ H2, Tabbed P H1 H2 → Q (.bl ((List.range n).all tr)) H2) :
    wpAny (model X.prog X.w) X.A (spliced (backTo pos (starEach [] X.env))) (fun vs t6 => wpAny (model X.prog X.w) X.A (call (.builtin "all") (.ref g :: vs)) (EP X pins σ Q) X.xe t6) X.xe t5 := by
  refine Calls.spliced_nil (call_allV ?_)
  refine Wk.in4.self _ _ _ st ⟨g, _, _, _, _, _, tr, rfl, Wk.in4, st, fun j y hy => ?_, fun t' mv => ?_⟩
  · obtain ⟨v, r, rfl⟩ := hy
    exact r
  · obtain ⟨H2, tb, J⟩ := on t' mv
    exact ⟨.bl _, H2, J, rfl, q H2 tb⟩
abbrev genEn (a b : Str) (pa pb tp pe pe2 gpos : Pos) (kk : Nat) (e1 elt : Expr) (scope : Scope) : Expr := .GeneratorExp elt [⟨.Tuple [.Name a pa, .Name b pb] kk tp, .Call (.Name "enumerate" pe) [e1] [] pe2, [], 0⟩] scope gpos
def tAllEn (X : Cx) (P : Addr) (scope : Scope) (elt : Expr) (a b : Str) (ta : TA) : TE := fun σ H Q => ta σ H fun vs H1 => ∃ (p : Addr) (xs : List V) (tr : Nat → Bool), vs = [.ref p] ∧ SqT X.K H1 p xs ∧ TabG H1 P ∧
  (∀ (h : Heap), HOk X.prog X.w H1 h → ∀ (ce : Env) (B : Around) (mp : Str → Option Value) (Ok : Shared → Prop) (i : Nat) (x : V) (ti : Tok) (u : Value), xs[i]? = some x → mp a = some (.int (i : Int) ti) → mp b = some u → RelV x u → GF X H1 h σ scope ce B mp Ok → GE X ce B Ok elt (· = .bl (tr i))) ∧
  ∀ H2, Tabbed P H1 H2 → Q (.bl ((List.range xs.length).all tr)) H2
theorem pe_allEn {c P : Addr} {e1 elt : Expr} {a b : Str} {pa pb tp p pe pe2 gpos pos : Pos} {kk : Nat} {scope : Scope} {ta : TA} {k : Nat}
    (hr : Room k X.A) (hg : Gl X "all") (hma : X.mg "all" = none) (hge : Gl X "enumerate") (hme : X.mg "enumerate" = none) (TB : TabB X.base X.mg c P) (hcode : X.env.code = .ref c) (S : GenS0 X.env scope) (ka : scope.names.lookup a = some .local) (kb : scope.names.lookup b = some .local) (ab : (a = b) = False) (ha : PA X [e1] ta)
    (nofold : ∀ v, genFold (.Call (.Name "enumerate" pe) [e1] [] pe2) X.env v = pure v)
    (hs : starEach [e1] X.env = [(false, eval e1 X.env)] := by rfl)
    (he : starEach [genEn a b pa pb tp pe pe2 gpos kk e1 elt scope] X.env = (false, eval (genEn a b pa pb tp pe pe2 gpos kk e1 elt scope) X.env) :: starEach [] X.env := by rfl) :
    PE X (.Call (.Name "all" p) [genEn a b pa pb tp pe pe2 gpos kk e1 elt scope] [] pos) (tAllEn X P scope elt a b ta) := by
  (refine ⟨fun pins s σ H Q I h => ?_⟩)
  refine wpAny_Call_Name_kw (ld_blt (u := .builtin "all") I hg hma (by decide +kernel) ?_)
  refine PyProof.Rows.callWith_builtin1 (id := "all") ?_ he (by rfl)
  rw [he]
  show wpAny _ _ (spliced ((false, eval (genEn a b pa pb tp pe pe2 gpos kk e1 elt scope) X.env) :: backTo pos (starEach [] X.env))) _ _ s
  refine Calls.spliced_cons (genexpD hr.hd S.co (closure_ok S.free) S.cell S.dot S.kind (by have := hr.dp; omega) ?_ nofold)
  refine Call_ (ld_blt I hge hme boot_enumerate (PyProof.Rows.callWith_type1 (thn (ha.run pe2 pins s σ H _ I h) fun us s1 ⟨vs, H1, I1, r1, q1⟩ => ?_) hs rfl))
  obtain ⟨l, xs, tr, rfl, hsq, tab, ask, q⟩ := q1
  cases r1 with
  | cons r rr =>
    cases rr
    cases r
    obtain ⟨its, rv, pl, hz⟩ := I1.tuple hsq
    have ht : s1.heap.IsTuple l its.toArray := by
      obtain ⟨ob, h1, h2, n, h3⟩ := pl
      exact ⟨ob, h1, h2, n, h3⟩
    have hal : l < s1.heap.objs.size := by obtain ⟨_, q0, _⟩ := ht; exact Heap.lt_size q0
    refine call_enum_begins (begins_tuple l its.toArray) ht fun hq isE hit hsz hk => wpAny_pyIter_enum isE ?_
    have lenE : its.toArray.size = xs.length := by
      rw [List.size_toArray]
      exact rv.length.symm
    obtain ⟨ptab, hP, htr⟩ := id tab
    have atP : s1.heap.get? P = some { cls := .none, data := .fields ptab } := I1.hok P _ hP
    have ltP : P < s1.heap.objs.size := Heap.lt_size atP
    have lNP : l ≠ P := fun z => by
      obtain ⟨ob2, q1, _, _, q4⟩ := ht
      rw [z, atP] at q1
      cases q1
      cases q4
    have notFr : ∀ b o, X.base.get? b = some o → b ∉ frs X.stack := fun b o it z => by
      have := (frs_apart I1.stack z).1
      rw [it] at this
      cases this
    have frLow : ∀ b ∈ frs X.stack, b < s1.heap.objs.size := fun b z => by
      obtain ⟨_, o, ho, _⟩ := frs_apart I1.stack z
      exact Heap.lt_size ho
    have lFr : l ∉ frs X.stack := fun z => by
      rcases hsq with ((e | ⟨o, e⟩) | ⟨o, it2, n2, e, _⟩)
      · have := I1.stkFree l z
        rw [e] at this
        cases this
      · have := I1.stkFree l z
        rw [e] at this
        cases this
      · exact notFr l o (I1.ok.mod.kin l o e) z
    have rdy : ItReady X P s1.heap hq (.Tuple [.Name a pa, .Name b pb] kk tp) scope (s1.heap.objs.size + 1) [s1.heap.objs.size + 1, s1.heap.objs.size, l] [s1.heap.objs.size + 1, s1.heap.objs.size] its.toArray.size
        (fun i mp => ∃ x y, (∃ t x', its.toArray[i]? = some x' ∧ #[x, y] = #[.int (i : Int) t, x']) ∧ mp a = some x ∧ mp b = some y) (fun i h => (∃ old, IsEnum h (s1.heap.objs.size + 1) s1.heap.objs.size i old) ∧ h.IsTupleIter s1.heap.objs.size l i ∧ h.IsTuple l its.toArray) := by
      refine ⟨hk, by rw [hsz]; exact Nat.le_add_right _ _, fun ce hsc hlo => ?_, fun b hb => ?_, ⟨⟨_, isE⟩, ⟨_, hit, rfl, rfl⟩, ?_⟩, fun b hb => ?_, fun b hb => ?_, fun b hb => ?_, fun b hb => ?_⟩
      · refine Draws2.pair (Mid := fun i T h => (∃ x, IsEnumOut h (s1.heap.objs.size + 1) s1.heap.objs.size ((i : Int) + 1) x T) ∧ (h.IsTupleIter s1.heap.objs.size l (i + 1) ∧ h.IsTuple l its.toArray) ∧ T ≠ s1.heap.objs.size + 1 ∧ T ≠ s1.heap.objs.size) (fun B hB => WalksT.enumerateD (A := B) (Draws.tuple (by exact hB) s1.heap.objs.size l (Nat.ne_of_lt hal) its.toArray) (s1.heap.objs.size + 1) (Nat.succ_ne_self _) (fun z => ?_) (List.mem_cons_self ..)) (fun i vals pt => ?_) (by show ce.scope.names.lookup a = _; rw [hsc]; exact ka) (by show ce.scope.names.lookup b = _; rw [hsc]; exact kb) ab (by rw [hsc]; simp [S.kind]) hlo
        · simp only [List.mem_cons, List.not_mem_nil, or_false] at z
          rcases z with z | z
          · exact Nat.succ_ne_self _ z
          · exact Nat.ne_of_lt (Nat.lt_succ_of_lt hal) z.symm
        · obtain ⟨t, x, _, e⟩ := pt
          exact ⟨_, _, e⟩
      · simp only [List.mem_cons, List.not_mem_nil, or_false] at hb ⊢
        rcases hb with z | z
        · exact .inl z
        · exact .inr (.inl z)
      · obtain ⟨ob, h1, h2, n, h3⟩ := ht
        exact ⟨ob, hk _ _ h1, h2, n, h3⟩
      · rw [hsz]
        (simp only [List.mem_cons, List.not_mem_nil, or_false] at hb)
        rcases hb with z | z | z <;> subst z
        · exact Nat.lt_succ_self _
        · (exact Nat.lt_succ_of_lt (Nat.lt_succ_self _))
        · exact Nat.lt_succ_of_lt (Nat.lt_succ_of_lt hal)
      · simp only [List.mem_cons, List.not_mem_nil, or_false] at hb
        rcases hb with z | z <;> subst z
        · exact Nat.le_add_right _ _
        · exact Nat.le_refl _
      · simp only [List.mem_cons, List.not_mem_nil, or_false] at hb
        rcases hb with z | z | z <;> subst z
        · exact Nat.ne_of_gt (Nat.lt_succ_of_lt ltP)
        · exact Nat.ne_of_gt ltP
        · exact lNP
      · intro z
        (simp only [List.mem_cons, List.not_mem_nil, or_false] at hb)
        rcases hb with y | y | y <;> subst y
        · exact absurd (frLow _ z) (Nat.not_lt_of_le (Nat.le_add_right _ _))
        · exact absurd (frLow _ z) (Nat.not_lt_of_le (Nat.le_refl _))
        · exact lFr z
    refine gen_core (F := fun i v => v = .bl (tr i)) I1 hr TB hcode S rdy tab (fun ce B mp Ok i bd G => ?_) (fun g t5 wr' fs' St' Wk st on => all_end (P := P) (H1 := H1) Wk st on fun H2 tb => ?_)
    · obtain ⟨x, y, ⟨t, x', hx, exy⟩, ma, mb⟩ := bd
      have e1 : x = .int (i : Int) t ∧ y = x' := by simpa using exy
      obtain ⟨rfl, rfl⟩ := e1
      have li : i < xs.length := by
        have := (Array.getElem?_eq_some_iff.mp hx).1
        omega
      obtain ⟨u, hu, ru⟩ := rv.get (List.getElem?_eq_getElem li)
      have eu : u = y := by
        have q : its.toArray[i]? = some u := by simpa using hu
        rw [q] at hx
        exact Option.some.inj hx
      subst eu
      exact ask _ I1.hok ce B mp Ok i _ t u (List.getElem?_eq_getElem li) ma mb ru G
    · rw [lenE]
      exact q H2 tb
end
end V3
/-! t[::-1] of a tuple; parts of tuples of data, and one behind the other. -/
namespace HT
open PySem PySem.Spec PyProof.Rows PySem.Calls
section
variable {prog : Program} {A : Around}
variable {w : World} {s : Shared}
variable {E : Value → Shared → Prop}
theorem getItem_tuple_rev {t sl : Addr} {items : Array Value} {vs : Value} {Q : Value → Shared → Prop} (ht : IsTup s.heap t items) (hs : s.heap.IsSliceOf sl .none .none vs) (ps : IsPart vs (some (-1)))
    (h : Q (.ref s.heap.objs.size) { s with heap := s.heap.push { cls := .type "tuple", data := .seq items.toList.reverse.toArray } }) (hsz : items.size ≤ sizeLine) :
    wpAny (model prog w) A (getItem (.ref t) (.ref sl)) Q E s := by
  have htake : sizeOk (.seq items.toList.reverse.toArray) := by
    show items.toList.reverse.toArray.size ≤ sizeLine
    rw [List.size_toArray, List.length_reverse, Array.length_toList]
    exact hsz
  (obtain ⟨os, hos, hcs, hds⟩ := id hs)
  (have hTs : s.TypeIs (.ref sl) "slice" := ⟨os, hos, hcs⟩)
  unfold getItem
  (try with_reducible refine wpAny_holding ?_)
  (first | refine wpAny_bind (wpAny_pure ?_) | skip)
  (refine wpAny_bind (wpAny_sequenceKey ht.typeIs (by decide) ?_))
  refine wpAny_bind (wpAny_callSpecial?_slot (name := Str.ofString "__getitem__") ht.typeIs PyProof.Rows.slot_tuple_getitem (wpAny_call_entry PyProof.Rows.slot_tuple_getitem ht.typeIs entry_tuple_getitem ?_ (args_tuple_getitem _ _)))
  (show wpAny _ _ (Builtin.Tuple.tupleItemsOf (.ref t) >>= _) _ _ s)
  (refine wpAny_bind (tupleItemsOf_ ht ?_))
  (refine wpAny_bind (wpAny_typeOf hTs ?_))
  rw [if_pos (by decide)]
  have app : ∀ {Q2 : Int × Int × Nat → Shared → Prop} {E2 : Value → Shared → Prop} {A2 : Around}, Q2 ((items.size : Int) - 1, -1, items.size) s → wpAny (model prog w) A2 (Builtin.Slice.sliceApplied (.ref sl) (pure (items.size : Int))) Q2 E2 s := fun {Q2 E2 A2} h => by
    (unfold Builtin.Slice.sliceApplied Builtin.Slice.sliceFields)
    refine wpAny_bind (wpAny_bind (wpAny_field hos hds (x := .none) rfl (wpAny_bind (wpAny_field hos hds (x := .none) rfl (wpAny_bind (wpAny_field hos hds (x := vs) rfl (wpAny_pure ?_)))))))
    refine wpAny_bind (slicePart_ ps ?_)
    show wpAny _ _ (if ((-1 : Int) == 0) = true then _ else _) _ _ s
    rw [if_neg (by decide)]
    refine wpAny_bind (slicePart_none (wpAny_bind (slicePart_none (wpAny_bind (wpAny_pure ?_)))))
    show wpAny _ _ (match Builtin.Slice.sliceAdjust none none (-1) (items.size : Int) with | (lo, hi) => pure (lo, (-1 : Int), Builtin.Slice.slicePlaces lo hi (-1))) _ _ s
    have e1 : Builtin.Slice.sliceAdjust none none (-1) (items.size : Int) = ((items.size : Int) - 1, -1) := by
      first
        | rfl
        | simp [Builtin.Slice.sliceAdjust]
    rw [e1]
    have e2 : Builtin.Slice.slicePlaces ((items.size : Int) - 1) (-1) (-1) = items.size := by
      (unfold Builtin.Slice.slicePlaces)
      (have h1 : ¬ ((-1 : Int) > 0) := by decide)
      by_cases h : (items.size : Int) - 1 > -1
      · have e : ((items.size : Int) - 1 - -1 - 1) / (- -1) + 1 = (items.size : Int) := by
          (rw [show (- -1 : Int) = 1 by decide, Int.ediv_one])
          omega
        (simp only [h1, if_false, h, if_true, e, Int.toNat_natCast])
      · have e : items.size = 0 := by omega
        simp [e]
    show wpAny _ _ (pure ((items.size : Int) - 1, (-1 : Int), Builtin.Slice.slicePlaces ((items.size : Int) - 1) (-1) (-1))) _ _ s
    rw [e2]
    exact wpAny_pure h
  refine wpAny_bind (app ?_)
  have hno : ¬ ((((items.size : Int) - 1) == 0 && (-1 : Int) == 1 && items.size == items.size) = true) := by
    intro q
    (rw [Bool.and_eq_true, Bool.and_eq_true] at q)
    exact absurd q.1.2 (by decide)
  show wpAny _ _ (if (((items.size : Int) - 1) == 0 && (-1 : Int) == 1 && items.size == items.size) = true then _ else _) _ _ s
  rw [if_neg hno]
  have pick : ((List.range items.size).filterMap fun (m : Nat) => items[(((items.size : Int) - 1) + (m : Int) * (-1)).toNat]?).toArray = items.toList.reverse.toArray := by
    have e : (List.range items.size).filterMap (fun (m : Nat) => items[(((items.size : Int) - 1) + (m : Int) * (-1)).toNat]?) = ((List.range items.size).map fun k => items.size - 1 - k).filterMap (items[·]?) := by
      rw [List.filterMap_map]
      congr 1
      funext m
      have e : (((items.size : Int) - 1) + (m : Int) * (-1)).toNat = items.size - 1 - m := by omega
      show items[(((items.size : Int) - 1) + (m : Int) * (-1)).toNat]? = items[items.size - 1 - m]?
      rw [e]
    rw [e, PySem.W.krv_range, List.filterMap_reverse, PySem.W.krv_all]
  rw [pick]
  first | (exact wpAny_bind (m := Builtin.Tuple.tupleExact _) (wpAny_newObj_type (wpAny_pure ⟨_, rfl, wpAny_pure h⟩) htake)) | (exact wpAny_bind (m := Builtin.Tuple.tupleExact _) (wpAny_newObj_type (wpAny_bind (wpAny_pure (wpAny_pure ⟨_, rfl, wpAny_pure h⟩))) htake)) | (exact wpAny_bind (wpAny_bind (m := Builtin.Tuple.tupleExact _) (wpAny_newObj_type (wpAny_pure (wpAny_pure ⟨_, rfl, wpAny_pure h⟩)) htake))) | (exact wpAny_bind (wpAny_bind (m := Builtin.Tuple.tupleExact _) (wpAny_newObj_type (wpAny_pure ⟨_, rfl, wpAny_pure h⟩) htake)))
end
end HT
namespace V3
open PySem.Spec PySem L2 PyProof.Rows GxR RZ
section
variable {X : Cx}
def tRevT (K : PySem.W.Frag) (te : TE) : TE := fun σ H Q => te σ H fun x H1 => ∃ a xs, x = .ref a ∧ SqT K H1 a xs ∧ ∀ p, H1 p = none → Q (.ref p) (upd H1 p (.tup xs.reverse))
theorem pe_revT {e : Expr} {te : TE} {k : Nat} {p1 p2 p3 pos : Pos} (he : PE X e te) : PE X (.Subscript e (.Slice none none (some (.UnaryOp .USub (.Constant (.int 1) k p1) p2)) p3) pos) (tRevT X.K te) := by
  (refine ⟨fun pins s σ H Q I h => ?_⟩)
  (refine Subscript_ (thn (he.run pins s σ H _ I h) fun v s1 ⟨x, H1, I1, r1, q1⟩ => ?_))
  (obtain ⟨a, xs, ex, hx, q⟩ := q1)
  subst ex
  cases r1
  (have hst : PO X (some (.UnaryOp .USub (.Constant (.int 1) k p1) p2)) (tPart (tUn (rU fun i => .int (-i)) (tC (.int 1)))) := po_some (pe_un un_neg pe_int))
  (refine wpAny_Slice (thn (po_none.run pins s1 σ H1 (fun o H2 => o = none ∧ H2 = H1) I1 ⟨rfl, rfl⟩) fun vl s2 ⟨l, H2, I2, pl, el, e2⟩ => ?_))
  subst el e2
  (refine thn (po_none.run pins s2 σ H2 (fun o H3 => o = none ∧ H3 = H2) I2 ⟨rfl, rfl⟩) fun vu s3 ⟨u, H3, I3, pu, eu, e3⟩ => ?_)
  subst eu e3
  (refine thn (hst.run pins s3 σ H3 (fun o H4 => o = some (-1) ∧ H4 = H3) I3 ⟨1, rfl, -1, rfl, rfl, rfl⟩) fun vs s4 ⟨o, H4, I4, ps, eo, e4⟩ => ?_)
  subst eo e4
  cases pl
  cases pu
  have I5 : Inv X pins σ H4 { s4 with heap := s4.heap.push { cls := .type "slice", data := .fields #[.none, .none, vs] } } := I4.kept (t' := s4.toks) fun b ob q => Heap.get?_push_of_some _ q
  obtain ⟨its, r, ht, hz⟩ := I5.tuple hx
  have hlen := r.length
  show wpAny (model X.prog X.w) X.A (subscriptTail e (.Slice none none (some (.UnaryOp .USub (.Constant (.int 1) k p1) p2)) p3) (.ref a) (.ref s4.heap.objs.size)) (EP X pins σ Q) X.xe { s4 with heap := s4.heap.push { cls := .type "slice", data := .fields #[.none, .none, vs] } }
  refine tail_any (ops := [.ref a, .ref s4.heap.objs.size]) ht.typeIs (PyProof.Rows.slot_tuple_getitem.lookup) ?_ (by with_unfolding_all rfl)
  refine HT.getItem_tuple_rev ht (Heap.IsSliceOf.new _ .none .none vs) ps ?_ (by rw [List.size_toArray]; omega)
  refine ⟨.ref _, _, I5.laid (t' := s4.toks) (o := .tup xs.reverse) (fun b ob q => Heap.get?_push_of_some _ q) (Nat.le_refl _) ?_, rfl, q _ (I5.hok.fresh (Nat.le_refl _))⟩
  exact ⟨by rw [List.length_reverse]; exact hz, _, r.reverse, IsTup.new _ _⟩
end
/-! ### tuples of data -/
def cutP (ds : List PyData) (lo hi : Option Int) : List PyData := (ds.drop (HT.sIx ds.length 0 lo)).take (HT.sIx ds.length ds.length hi - HT.sIx ds.length 0 lo)
section
variable {K : PySem.W.Frag} {H H' : Hp}
theorem dtAll_takeN : ∀ {vs : List V} {ds : List PyData} (i : Nat), DpTAll K H vs ds → DpTAll K H (vs.take i) (ds.take i)
  | _, _, 0, _ => .nil
  | _, _, _ + 1, .nil => .nil
  | _, _, i + 1, .cons a b => .cons a (dtAll_takeN i b)
theorem dtAll_dropN : ∀ {vs : List V} {ds : List PyData} (i : Nat), DpTAll K H vs ds → DpTAll K H (vs.drop i) (ds.drop i)
  | _, _, 0, h => h
  | _, _, _ + 1, .nil => .nil
  | _, _, i + 1, .cons a b => dtAll_dropN i b
theorem dtAll_rev : ∀ {vs : List V} {ds : List PyData}, DpTAll K H vs ds → DpTAll K H vs.reverse ds.reverse
  | _, _, .nil => .nil
  | _, _, .cons a b => by
    (rw [List.reverse_cons, List.reverse_cons])
    exact dtAll_app (dtAll_rev b) (.cons a .nil)
theorem dtCut {xs : List V} {ds : List PyData} (h : DpTAll K H xs ds) (lo hi : Option Int) : DpTAll K H (cutV xs lo hi) (cutP ds lo hi) := by
  unfold cutV cutP
  rw [dtAll_len h]
  exact dtAll_takeN _ (dtAll_dropN _ h)
theorem cutP_whole {ds : List PyData} {lo hi : Option Int} (h : HT.sIx ds.length 0 lo = 0 ∧ HT.sIx ds.length ds.length hi = ds.length) : cutP ds lo hi = ds := by
  unfold cutP
  rw [h.1, h.2]
  simp
theorem cutP_to (ds : List PyData) (i : Nat) : cutP ds none (some (i : Int)) = ds.take i := by
  unfold cutP
  simp only [HT.sIx]
  rw [if_neg (by omega)]
  simp only [List.drop_zero, Nat.sub_zero, Int.toNat_natCast]
  rcases Nat.le_total i ds.length with h | h
  · rw [Nat.min_eq_left h]
  · rw [Nat.min_eq_right h, List.take_length, List.take_of_length_le h]
theorem cutP_from (ds : List PyData) (i : Nat) : cutP ds (some ((i : Int) + 1)) none = ds.drop (i + 1) := by
  unfold cutP
  simp only [HT.sIx]
  rw [if_neg (by omega)]
  have e : ((i : Int) + 1).toNat = i + 1 := by omega
  rw [e]
  rcases Nat.le_total (i + 1) ds.length with h | h
  · (rw [Nat.min_eq_left h, List.take_of_length_le (by simp)])
  · rw [Nat.min_eq_right h, List.drop_length, List.drop_of_length_le h]
    simp
theorem cutP_last {ds : List PyData} (h : 0 < ds.length) : cutP ds none (some (-1)) = ds.take (ds.length - 1) := by
  unfold cutP
  simp only [HT.sIx]
  rw [if_pos (by decide)]
  (simp only [List.drop_zero, Nat.sub_zero])
  congr 1
  omega
theorem dtTupQ {v : V} {ds : List PyData} (h : DpT K H v (.tuple ds)) : ∃ p xs, v = .ref p ∧ SqT K H p xs ∧ DpTAll K H xs ds := by
  cases h with
  | tup a b => exact ⟨_, _, rfl, a, b⟩
theorem slQ {v : V} {ds : List PyData} {lo hi : Option Int} {Q : VK} (an : DpT K H v (.tuple ds)) (g : ∀ H' v', Same H H' → DpT K H' v' (.tuple (cutP ds lo hi)) → Q v' H') : rSlA K v lo hi H Q := by
  obtain ⟨p, xs, rfl, hp, hA⟩ := dtTupQ an
  have l := dtAll_len hA
  refine ⟨p, xs, rfl, hp, fun h => ?_, fun _ q hq => ?_⟩
  · rw [l] at h
    refine g H _ (Same.refl _) ?_
    rw [cutP_whole h]
    exact an
  · have s : Same H (upd H q (.tup (cutV xs lo hi))) := same_upd hq
    exact g _ _ s (.tup (SqT.of upd_same) ((dtCut hA lo hi).keep (Same.kt s)))
theorem catQ {v w : V} {ds es : List PyData} {Q : VK} (x : DpT K H v (.tuple ds)) (y : DpT K H w (.tuple es)) (le : ds.length + es.length ≤ 1000) (g : ∀ H' u, Same H H' → DpT K H' u (.tuple (ds ++ es)) → Q u H') : rCatA K v w H Q := by
  obtain ⟨p, xs, rfl, hp, hA⟩ := dtTupQ x
  obtain ⟨q, ys, rfl, hq, hB⟩ := dtTupQ y
  have l := dtAll_len hA
  have m := dtAll_len hB
  refine ⟨p, q, xs, ys, rfl, rfl, hp, hq, Nat.le_trans (show xs.length + ys.length ≤ 1000 by omega) (by show 1000 ≤ sizeLine; decide), fun e => ?_, fun _ e => ?_, fun _ _ r hr => ?_⟩
  · have : ds = [] := List.length_eq_zero_iff.mp (by rw [← l, e]; rfl)
    subst this
    exact g H _ (Same.refl _) y
  · have : es = [] := List.length_eq_zero_iff.mp (by rw [← m, e]; rfl)
    subst this
    refine g H _ (Same.refl _) ?_
    rw [List.append_nil]
    exact x
  · have s : Same H (upd H r (.tup (xs ++ ys))) := same_upd hr
    exact g _ _ s (.tup (SqT.of upd_same) ((dtAll_app hA hB).keep (Same.kt s)))
/-- a part of a tuple of data, and one behind the other -/
def rSlQ (K : PySem.W.Frag) : V → Option Int → Option Int → Hp → VK → Prop := fun v lo hi H Q => ∃ ds, DpT K H v (.tuple ds) ∧ ∀ H' v', Same H H' → DpT K H' v' (.tuple (cutP ds lo hi)) → Q v' H'
theorem sl_Q {X : Cx} : SlR X (rSlQ X.K) := by
  intro pins s σ H x v vl vu lo hi sl Q I rx h1 h2 h3 h
  obtain ⟨ds, an, g⟩ := h
  exact sl_tupA pins s σ H x v vl vu lo hi sl Q I rx h1 h2 h3 (slQ an g)
def rCatQ (K : PySem.W.Frag) : R2 := fun v w H Q => ∃ ds es, DpT K H v (.tuple ds) ∧ DpT K H w (.tuple es) ∧ ds.length + es.length ≤ 1000 ∧ ∀ H' u, Same H H' → DpT K H' u (.tuple (ds ++ es)) → Q u H'
theorem op_catQ {X : Cx} : OpR X (binaryOp .Add) (rCatQ X.K) := by
  (intro pins s σ H x y v u Q I rx ry h)
  obtain ⟨ds, es, h1, h2, le, g⟩ := h
  exact op_catA pins s σ H x y v u Q I rx ry (catQ h1 h2 le g)
end
end V3
/-! A generator expression with tests over any iterator; what is known of it when it stands. -/
namespace V3
open PySem.Spec PySem L2 PyProof.Rows GxR RZ
/-- the tests of a clause, told by rules in the frame -/
def GT (X : Cx) (ce : Env) (B : Around) (Ok : Shared → Prop) (ifs : List Expr) (b : Bool) : Prop :=
  ∀ (Ex : Value → Shared → Prop) (t : Shared), Ok t → wpAny (model X.prog X.w) B (testsOf ifs ce) (fun ok t' => ok = b ∧ KeptG (frs (ce :: X.stack)) t t') Ex t
/-- a generator that stands: it walks, its own things lie below what is new, and new things written leave it -/
structure Stands (X : Cx) (g : Addr) (t5 : Shared) (wr fs : List Addr) (n : Nat) (Pv : Nat → Value → Prop) (St : Nat → Shared → Prop) : Prop where
  walk : WalksV X.prog X.w X.A.in4 g wr fs n Pv St
  st : St 0 t5
  low : g < t5.heap.objs.size
  wlow : ∀ b ∈ wr, b < t5.heap.objs.size
  flow : ∀ b ∈ fs, b < t5.heap.objs.size
  frame : ∀ i (t2 : Shared) (h' : Heap) (tk S : Nat), t5.heap.objs.size ≤ S → St i t2 → (∀ b o, b ≠ S → t2.heap.get? b = some o → h'.get? b = some o) → St i { t2 with heap := h', toks := tk }
  ty : ∀ i t2, St i t2 → t2.TypeIs (.ref g) "generator"
section
variable {X : Cx}
theorem gt_none {H : Hp} {h : Heap} {σ : L2.St} {scope : Scope} {ce : Env} {B : Around} {mp : Str → Option Value} {Ok : Shared → Prop} (G : GF X H h σ scope ce B mp Ok) : GT X ce B Ok [] true := fun Ex t ok => tests_none ⟨rfl, KeptG.refl (G.bare ok)⟩
theorem gen_coreT {pins : List (Addr × Obj)} {σ : L2.St} {H1 : Hp} {s0 : Shared} {hz : Heap} {c P I : Addr} {elt iter tgt : Expr} {ifs : List Expr} {pz : Nat → Bool} {scope : Scope} {gpos : Pos} {fp wr : List Addr} {n : Nat} {Bd : Nat → (Str → Option Value) → Prop} {St : Nat → Heap → Prop} {E : Value → Shared → Prop} {F : Nat → V → Prop} {Qg : Value → Shared → Prop} {k : Nat}
    (I0 : Inv X pins σ H1 s0) (hr : Room k X.A) (TB : TabB X.base X.mg c P) (hcode : X.env.code = .ref c) (S : GenS0 X.env scope) (rdy : ItReady X P s0.heap hz tgt scope I fp wr n Bd St) (tab : TabG H1 P)
    (htst : ∀ (ce : Env) (B : Around) (mp : Str → Option Value) (Ok : Shared → Prop) (i : Nat), Bd i mp → GF X H1 s0.heap σ scope ce B mp Ok → GT X ce B Ok ifs (pz i))
    (helt : ∀ (ce : Env) (B : Around) (mp : Str → Option Value) (Ok : Shared → Prop) (i : Nat), Bd i mp → pz i = true → GF X H1 s0.heap σ scope ce B mp Ok → GE X ce B Ok elt (F i))
    (want : ∀ (g : Addr) (t5 : Shared) (wr' fs' : List Addr) (St' : Nat → Shared → Prop), Stands X g t5 wr' fs' (passing pz n 0).length (fun j y => ∃ i, (passing pz n 0)[j]? = some i ∧ ∃ v, RelV v y ∧ F i v) St' → (∀ t', MovedV wr' fs' t5 t' → ∃ H2, Tabbed P H1 H2 ∧ Inv X pins σ H2 t') → Qg (.ref g) t5) :
    hz.NoLimit ∧ wpAny (model X.prog X.w) X.A (genexprCode X.env gpos (X.env.qual ++ "<genexpr>") scope) (fun code t3 => wpAny (model X.prog X.w) X.A (builtinsFor X.env.globals X.env.builtins) (fun bi t4 => MadeD X.prog X.w X.A X.env elt iter tgt ifs scope (cloFrom X.env.cells scope.names []) gpos Qg (.ref I) code bi t4) E t3) E { s0 with heap := hz } := by
  obtain ⟨ptab, hP, htr⟩ := tab
  have I1 : Inv X pins σ H1 { s0 with heap := hz } := I0.kept (t' := s0.toks) rdy.keep
  have atP : s0.heap.get? P = some { cls := .none, data := .fields ptab } := I0.hok P _ hP
  have ltP : P < s0.heap.objs.size := Heap.lt_size atP
  have atP2 : hz.get? P = some { cls := .none, data := .fields ptab } := rdy.keep _ _ atP
  have hdC : PySem.W.CodeHd hz c P := TB.code.keeps fun b u e => I1.bk b u e
  have nol : hz.NoLimit := I1.nolimit
  have csB : ∃ o, X.base.get? cStatics = some o := by
    obtain ⟨_, q, _⟩ := I0.ok.mod.nolimit
    obtain ⟨o, es, ep, ho, _⟩ := q
    exact ⟨o, ho⟩
  have notFr : ∀ b o, X.base.get? b = some o → b ∉ frs X.stack := fun b o it z => by
    have := (frs_apart I0.stack z).1
    rw [it] at this
    cases this
  have frLow : ∀ b ∈ frs X.stack, b < s0.heap.objs.size := fun b z => by
    obtain ⟨_, o, ho, _⟩ := frs_apart I0.stack z
    exact Heap.lt_size ho
  have frNotP : P ∉ frs X.stack := fun z => by
    have := I0.stkFree P z
    rw [hP] at this
    cases this
  have cont : ∀ (code : Value) (hp3 : Heap) (tk : Nat) (ptab3 : Array Value), Heap.ExtBut P hz hp3 → hz.objs.size ≤ hp3.objs.size → hp3.get? P = some { cls := .none, data := .fields ptab3 } → (∃ more, ptab3 = ptab ++ more) → TriplesOk ptab3.toList →
      wpAny (model X.prog X.w) X.A (builtinsFor X.env.globals X.env.builtins) (fun bi t4 => MadeD X.prog X.w X.A X.env elt iter tgt ifs scope (cloFrom X.env.cells scope.names []) gpos Qg (.ref I) code bi t4) E { s0 with heap := hp3, toks := tk } := by
    intro code hp3 tk ptab3 hx3 sz3 atP3 grown ok3
    (obtain ⟨bm, ob, e1, e2, e3, e4, e5, e6, e7, e8⟩ := TB.bm)
    have keep3 : ∀ b u, b ≠ P → hz.get? b = some u → hp3.get? b = some u := fun b u nb it => hx3 b u nb it
    have keep0 : ∀ b u, b ≠ P → s0.heap.get? b = some u → hp3.get? b = some u := fun b u nb it => hx3 b u nb (rdy.keep b u it)
    have baseNP : ∀ b o, X.base.get? b = some o → b ≠ P := fun b o it z => by
      have := (I0.bs b o it).2
      rw [z, hP] at this
      cases this
    obtain ⟨oCs, csAt⟩ := csB
    have csLow : cStatics < s0.heap.objs.size := Heap.lt_size (I0.bk _ _ csAt)
    have lowN : s0.heap.objs.size ≤ hp3.objs.size := Nat.le_trans rdy.grow sz3
    have fpLow : ∀ b ∈ fp, b < hp3.objs.size := fun b hb => Nat.lt_of_lt_of_le (rdy.low b hb) sz3
    have wrHigh : ∀ b ∈ wr, s0.heap.objs.size ≤ b ∧ b < hp3.objs.size := fun b hb => ⟨rdy.high b hb, fpLow b (rdy.sub b hb)⟩
    refine wpAny_builtinsFor (m := X.mg) (by rw [I0.ok.glob]; exact (I1.mod.glob.keeps I1.bk).extBut hx3 TB.gP) e1 e2 (keep3 _ _ e4 (I1.bk _ _ e5)) e6 e7 e8 ?_
    have dr := rdy.draws (genEnv scope (cloFrom X.env.cells scope.names []) hp3.objs.size code builtinsNs X.env) rfl (fun z => Nat.lt_irrefl _ (fpLow _ z))
    refine ⟨I0.bare, I, fp, wr, hp3.objs.size :: frs X.stack, n, Bd, St, pz, (fun i y => ∃ v, RelV v y ∧ F i v), rfl, dr, dr.frame 0 _ _ rdy.st (fun b hb o it => keep3 b o (rdy.offP b hb) it), fpLow, nol.extBut hx3 (baseNP _ _ csAt), ?_, ?_, ?_, ?_, ?_, ?_⟩
    · intro z
      exact absurd (wrHigh _ z).1 (Nat.not_le_of_lt csLow)
    · intro b hb
      show b ≤ hp3.objs.size
      rcases List.mem_cons.mp hb with (z | z)
      · rw [z]
        exact Nat.le_refl _
      · exact Nat.le_of_lt (Nat.lt_of_lt_of_le (frLow b z) lowN)
    · intro b hb hf
      rcases List.mem_cons.mp hf with (y | y)
      · have := fpLow b hb
        rw [y] at this
        exact Nat.lt_irrefl _ this
      · exact rdy.offF b hb y
    · intro z
      rcases List.mem_cons.mp z with (y | y)
      · have e : cStatics = hp3.objs.size := y
        rw [e] at csLow
        exact absurd csLow (Nat.not_lt_of_le lowN)
      · exact notFr _ _ csAt y
    · intro ref href
      have mk : ∀ (B : Around) (i : Nat) (t : Shared) (mp : Str → Option Value), B.handled = none → B.frames = (X.A.in4.in1.over (loopD elt tgt iter ifs scope gpos I (genEnv scope (cloFrom X.env.cells scope.names []) hp3.objs.size code builtinsNs X.env)) []).frames → B.depth ≤ X.A.depth + 1 → B.units ≤ X.A.units + 8 →
          GF X H1 s0.heap σ scope (genEnv scope (cloFrom X.env.cells scope.names []) hp3.objs.size code builtinsNs X.env) B mp (fun u => AllBare u.gens ∧ u.heap.Ns hp3.objs.size mp ∧ KeptO (List.range hp3.objs.size) wr (hp3.objs.size :: frs X.stack) ref u.heap) := fun B i t mp hB fB dB uB => by
        have fB' : B.frames = some (genEnv scope (cloFrom X.env.cells scope.names []) hp3.objs.size code builtinsNs X.env :: X.stack) := by
          have e5 : X.A.in4.in1.frames = some X.stack := I0.ok.frames
          rw [fB]
          simp only [Around.over, List.map_nil]
          rw [e5]
          rfl
        have bszS : X.base.objs.size ≤ s0.heap.objs.size := Nat.le_trans I0.ok.bsz I0.sz
        have both : ∀ u : Heap, KeptO (List.range hp3.objs.size) wr (hp3.objs.size :: frs X.stack) ref u → ∀ b o, b ≠ P → s0.heap.get? b = some o → (b ∉ frs X.stack → u.get? b = some o) ∧ ∃ sl, u.get? b = some { o with slots := sl } := fun u kept b o nb it => by
          have lt := Heap.lt_size it
          have ltc : b < hp3.objs.size := Nat.lt_of_lt_of_le lt lowN
          obtain ⟨p1, p2⟩ := kept b (List.mem_range.mpr ltc) (fun z => absurd lt (Nat.not_lt_of_le (wrHigh b z).1)) o (href _ _ (keep0 b o nb it))
          exact ⟨fun nf => p1 fun z => (List.mem_cons.mp z).elim (fun y => Nat.ne_of_lt ltc y) nf, p2⟩
        refine ⟨⟨pins, s0, rfl, I0⟩, hB, fB', dB, uB, rfl, S.kind, I0.ok.glob, fun u ⟨ub, un, uk⟩ => ?_, fun u ok => ok.2.1, fun u u' ⟨ub, un, uk⟩ kg => ⟨kg.bare, kg.heap.ns un, uk.km kg.heap⟩, fun u n ok => ok, fun cn ic vc Cc hvc => ?_⟩
        · have bu := both u.heap uk
          have baseT : ∀ b o, X.base.get? b = some o → u.heap.get? b = some o := fun b o it => (bu b o (baseNP b o it) (I0.bk b o it)).1 (notFr b o it)
          obtain ⟨oC, esC, epC, atC, datC, moreC⟩ := id un
          have ltC : hp3.objs.size < u.heap.objs.size := Heap.lt_size atC
          refine ⟨baseT, Nat.le_trans bszS (Nat.le_of_lt (Nat.lt_of_le_of_lt lowN ltC)), ⟨?_, ⟨hp3.objs.size, oC, rfl, ?_, atC, fun vs z => ?_⟩, ?_⟩, fun b hb => ?_, ?_, ub⟩
          · show scope.kind ≠ .module
            rw [S.kind]
            exact fun z => nomatch z
          · cases eb : X.base.get? hp3.objs.size with
            | none => rfl
            | some o =>
              have := Nat.lt_of_lt_of_le (Heap.lt_size eb) bszS
              exact absurd this (Nat.not_lt_of_le lowN)
          · rw [datC] at z
            cases z
          · refine Heap.FunFrames.of_keeps (fun b o it nf => ?_) I0.stack
            have nb : b ≠ P := fun z => by
              rw [z, atP] at it
              cases it
              exact nf _ rfl
            obtain ⟨_, sl, z⟩ := bu b o nb it
            exact ⟨_, z, rfl⟩
          · rcases List.mem_cons.mp hb with (z | z)
            · rw [z]
              exact I0.hok.fresh lowN
            · exact I0.stkFree b z
          · refine fast_ok I0.hok fun b u2 o e nt it => (bu b o (fun z => ?_) it).1 fun z => ?_
            · rw [z, hP] at e
              exact nt ptab (Option.some.inj e).symm
            · have := I0.stkFree b z
              rw [e] at this
              cases this
        · obtain ⟨cc, uc, rc, look, cellAt⟩ := Cc.at I0 hvc
          refine ⟨uc, rc, fun p Ex R u ok q => Cc.eval S.kind rfl rfl look ?_ q⟩
          obtain ⟨o, ho, hd⟩ := cellAt
          have nb : cc ≠ P := fun z => by
            rw [z, atP] at ho
            cases ho
            cases hd
          obtain ⟨_, sl, z⟩ := both u.heap ok.2.2 cc o nb ho
          exact ⟨_, z, hd⟩
      refine ⟨fun B Ex i t mp hB fB dB uB bT bd ns kept => htst _ B mp _ i bd (mk B i t mp hB fB dB uB) Ex t ⟨bT, ns, kept⟩, fun B Ex i t mp hB fB dB uB bT bd pt ns kept => helt _ B mp _ i bd pt (mk B i t mp hB fB dB uB) Ex t ⟨bT, ns, kept⟩⟩
    · intro g hp5 tk5 gs gsb ltg szg k5 Wk at5
      have hg5 : hp3.objs.size < hp5.objs.size := by
        rw [szg]
        exact Nat.lt_succ_of_lt ltg
      refine want g _ _ _ _ ⟨Wk, at5, ?_, ?_, ?_, fun i t2 h' tk2 S hS st2 kk2 => AtB.frame st2 kk2 ?_ ?_ ?_, fun i t2 st2 => ?_⟩ fun t' mv => ?_
      · show g < hp5.objs.size
        rw [szg]
        exact Nat.lt_succ_self _
      · intro b z
        show b < hp5.objs.size
        rcases List.mem_cons.mp z with y | y
        · have e : b = hp3.objs.size := y
          rw [e]
          exact hg5
        · exact Nat.lt_trans (wrHigh _ y).2 hg5
      · intro b z
        show b < hp5.objs.size
        rcases List.mem_cons.mp z with y | y
        · have e : b = hp3.objs.size := y
          rw [e]
          exact hg5
        · exact Nat.lt_of_lt_of_le (frLow _ y) (Nat.le_trans lowN (Nat.le_of_lt hg5))
      · intro z
        have l : g < hp5.objs.size := by rw [szg]; exact Nat.lt_succ_self _
        rw [z] at l
        exact absurd l (Nat.not_lt_of_le hS)
      · intro z
        have l : cStatics < hp5.objs.size := Nat.lt_of_lt_of_le csLow (Nat.le_trans lowN (Nat.le_of_lt hg5))
        rw [z] at l
        exact absurd l (Nat.not_lt_of_le hS)
      · intro b hb z
        have l : b < hp5.objs.size := by
          rcases List.mem_cons.mp hb with y | y
          · have e : b = hp3.objs.size := y
            rw [e]
            exact hg5
          · rcases List.mem_append.mp y with v | v
            · exact Nat.lt_trans (fpLow b v) hg5
            · exact Nat.lt_trans (List.mem_range.mp v) hg5
        rw [z] at l
        exact absurd l (Nat.not_lt_of_le hS)
      · obtain ⟨⟨o, nm, qn, ho, hc, _⟩, _⟩ := st2
        exact ⟨o, ho, hc⟩
      · obtain ⟨more, rfl⟩ := grown
        have offW : ∀ b, b < s0.heap.objs.size → b ∉ hp3.objs.size :: wr := fun b lt z => by
          rcases List.mem_cons.mp z with (y | y)
          · rw [y] at lt
            exact absurd lt (Nat.not_lt_of_le lowN)
          · exact absurd lt (Nat.not_lt_of_le (wrHigh _ y).1)
        have kB : ∀ b o, b < s0.heap.objs.size → hp3.get? b = some o → (b ∉ frs X.stack → t'.heap.get? b = some o) ∧ ∃ sl, t'.heap.get? b = some { o with slots := sl } := fun b o lt it => by
          obtain ⟨p1, p2⟩ := mv.heap b o (offW b lt) (k5 b o it)
          exact ⟨fun nf => p1 fun z => (List.mem_cons.mp z).elim (fun y => absurd (Nat.lt_of_lt_of_le lt lowN) (by rw [y]; exact Nat.lt_irrefl _)) nf, p2⟩
        have J := inv_gen (t' := t') (more := more) I0 hP mv.os mv.bare (fun b o nb it => kB b o (Heap.lt_size it) (keep0 b o nb it)) ((kB P _ ltP atP3).1 frNotP)
        exact ⟨_, ⟨⟨ptab ++ more, upd_same, ok3⟩, fun b nb => upd_ne nb⟩, J⟩
  refine ⟨nol, ?_⟩
  cases among : codeAmong gpos ptab.toList with
  | none =>
    refine wpAny_genexprCodeX hcode (hdC.code atP2 htr) (hdC.tab atP2) among fun c2 hp2 tk hx2 ge2 lt2 isC _ tabA _ => ?_
    obtain ⟨o1, vs, f1, tf, fl, tg, inF, tx, tt, op, _, _, _, _, _, _, _, _, _, trs, _⟩ := isC
    exact cont _ hp2 tk _ hx2 (Nat.le_trans ge2 (Nat.le_of_lt lt2)) tabA.2 ⟨_, rfl⟩ trs
  | some cv =>
    refine wpAny_genexprCode_hit hcode (hdC.code atP2 htr) among ?_
    exact cont cv hz s0.toks ptab (Heap.ExtBut.refl _ _) (Nat.le_refl _) atP2 ⟨#[], by simp⟩ htr
end
end V3
/-! any, all, sum and tuple over a generator that stands. -/
namespace V3
open PySem.Spec PySem L2 PyProof.Rows GxR RZ
section
variable {w : World} {prog : Program} {A : Around}
/-- any(..) over a walk of truths -/
theorem any_loopV {I : Addr} {wr fs : List Addr} {n : Nat} {P : Nat → Value → Prop} {St : Nat → Shared → Prop} {R : Result → Shared → Prop} (Wk : WalksV prog w A.in1 I wr fs n P St) (tr : Nat → Bool) (isB : ∀ i v, P i v → v = .bool (tr i)) :
    ∀ (k i : Nat) (t : Shared), n - i = k → i ≤ n → St i t → (∀ t', MovedV wr fs t t' → R (.ok (.ret (.bool (((List.range n).drop i).any tr)))) t') → codeAny (model prog w) A (.builtin "any.loop" ⟨[.ref I], []⟩) R t := by
  intro k
  induction k with
  | zero =>
    intro i t ek il st want
    obtain rfl : i = n := by omega
    (refine codeAny_builtin F.entry_any_loop ?_)
    (rw [Around.under_plainId F.plain_any_loop _])
    show wpAny _ A.in1 (pyNext (.ref I) >>= _) _ _ t
    refine wpAny_bind (Wk.done t _ _ st fun t' mv => wpAny_bind (wpAny_rule (wpAny_pure ?_)))
    have z := want t' mv
    rw [List.drop_of_length_le (Nat.le_of_eq List.length_range)] at z
    exact z
  | succ k again =>
    intro i t ek il st want
    have lt : i < n := by omega
    have cut : (List.range n).drop i = i :: (List.range n).drop (i + 1) := range_drop lt
    (refine codeAny_builtin F.entry_any_loop ?_)
    (rw [Around.under_plainId F.plain_any_loop _])
    show wpAny _ A.in1 (pyNext (.ref I) >>= _) _ _ t
    refine wpAny_bind (Wk.item i t _ _ lt st fun v t' pv st' mv => ?_)
    rw [isB i v pv]
    (refine wpAny_bind (wpAny_holding (wpAny_truthy_bool ?_)))
    (refine wpAny_bind (wpAny_letGo ?_))
    rw [cut] at want
    cases eb : tr i with
    | false =>
      simp only [Bool.false_eq_true, if_false, ite_false]
      refine wpAny_pure ⟨plainId_quiet F.plain_any_loop _, again (i + 1) _ (by omega) lt st' fun t2 mv2 => ?_⟩
      have z := want t2 (mv.trans mv2)
      rw [List.any_cons, eb, Bool.false_or] at z
      exact z
    | true =>
      simp only [if_true]
      (refine wpAny_bind (wpAny_rule (wpAny_pure ?_)))
      have z := want t' mv
      rw [List.any_cons, eb, Bool.true_or] at z
      exact z
theorem call_anyV {E : Value → Shared → Prop} {s : Shared} {x : Value} {Q : Value → Shared → Prop}
    (h : wpAny (model prog w) A.in1 (pyIter x) (fun it t => ∃ I wr fs n P St tr, it = .ref I ∧ WalksV prog w A.in1 I wr fs n P St ∧ St 0 t ∧ (∀ i v, P i v → v = .bool (tr i)) ∧ ∀ t', MovedV wr fs t t' → Q (.bool ((List.range n).any tr)) t') E s) :
    (wpAny (model prog w) A (call (.builtin "any") [x]) Q E s) := by
  (refine call_function_tree F.kind_any F.plain_any F.entry_any (F.args_any1 _) ?_)
  unfold Builtin.«any»
  (refine wpAny_bind (m := oneArg "any" _) (wpAny_pure ?_))
  refine wpAny_bind (wpAny_mono h (fun it t ht => ?_) fun _ _ z => z)
  obtain ⟨I, wr, fs, n, P, St, tr, rfl, Wk, st, isB, want⟩ := ht
  exact wpAny_pure ⟨plainId_quiet F.plain_any_loop _, any_loopV Wk tr isB n 0 t rfl (Nat.zero_le _) st fun t' mv => by simpa using want t' mv⟩
/-- a list taken from a walk -/
theorem extend_loopV {I : Addr} {wr fs : List Addr} {n : Nat} {P : Nat → Value → Prop} {St : Nat → Shared → Prop} {R : Result → Shared → Prop} (Wk : WalksV prog w A.in1 I wr fs n P St) (hn : n ≤ sizeLine) (S : Addr) (Sw : S ∉ wr) (Sf : S ∉ fs)
    (fr : ∀ i (t : Shared) h' tk, St i t → (∀ b o, b ≠ S → t.heap.get? b = some o → h'.get? b = some o) → St i { t with heap := h', toks := tk }) (res : Value) :
    ∀ (k i : Nat) (t : Shared) (acc : Array Value) (c : Nat), n - i = k → i ≤ n → St i t → t.heap.get? S = some { cls := .type "list", dict := none, data := .seq acc c, slots := #[] } → ItemsOf P acc i →
      (∀ t' acc', MovedV (S :: wr) fs t t' → (∃ c', t'.heap.get? S = some { cls := .type "list", dict := none, data := .seq acc' c', slots := #[] }) → ItemsOf P acc' n → R (.ok (.ret res)) t') →
      codeAny (model prog w) A (.builtin "list.extend.loop" ⟨[.ref S, .ref I, res], []⟩) R t := by
  intro k
  induction k with
  | zero =>
    intro i t acc c ek il st atS items want
    obtain rfl : i = n := by omega
    (refine codeAny_builtin F.entry_extend_loop ?_)
    (rw [Around.under_plainId F.plain_extend_loop _])
    show wpAny _ A.in1 (pyNext (.ref I) >>= _) _ _ t
    exact wpAny_bind (Wk.done t _ _ st fun t' mv => wpAny_pure (want t' acc (mv.wide fun b hb => List.mem_cons_of_mem _ hb) ⟨c, (mv.heap S _ Sw atS).1 Sf⟩ items))
  | succ k again =>
    intro i t acc c ek il st atS items want
    have lt : i < n := by omega
    (refine codeAny_builtin F.entry_extend_loop ?_)
    (rw [Around.under_plainId F.plain_extend_loop _])
    show wpAny _ A.in1 (pyNext (.ref I) >>= _) _ _ t
    refine wpAny_bind (Wk.item i t _ _ lt st fun v u pv su mv => ?_)
    have atU := (mv.heap S _ Sw atS).1 Sf
    have off : ∀ b o, b ≠ S → u.heap.get? b = some o → (u.heap.update S (Obj.mapSeq (·.push v))).get? b = some o := fun b o n it => (Heap.get?_update_other _ _ (Ne.symm n)).trans it
    have sz := items.1
    (show wpAny _ A.in1 (updateSeq S (·.push v) >>= _) _ _ _)
    refine wpAny_bind (wpAny_updateSeq atU rfl (wpAny_pure ⟨plainId_quiet F.plain_extend_loop _, again (i + 1) _ (acc.push v) _ (by omega) lt (fr _ u _ u.toks su off) (Heap.get?_update_self _ atU rfl) (items.push pv) fun t' acc' mv2 at' it' => ?_⟩) (by omega) (by show (acc.push v).size ≤ sizeLine + 1; rw [Array.size_push]; omega))
    exact want t' acc' ((mv.wrote off).trans mv2) at' it'
theorem collect_genV {E : Value → Shared → Prop} {s : Shared} {I : Addr} {wr fs : List Addr} {n : Nat} {P : Nat → Value → Prop} {St : Nat → Shared → Prop} {Q : List Value → Shared → Prop} (Wk : WalksV prog w A.in1 I wr fs n P St) (hn : n ≤ sizeLine) (ty : ∀ i t, St i t → t.TypeIs (.ref I) "generator") (st : St 0 s)
    (Iw : I < s.heap.objs.size) (Sw : s.heap.objs.size ∉ wr) (Sf : s.heap.objs.size ∉ fs) (fr : ∀ i (t : Shared) h' tk, St i t → (∀ b o, b ≠ s.heap.objs.size → t.heap.get? b = some o → h'.get? b = some o) → St i { t with heap := h', toks := tk })
    (want : ∀ t' acc, MovedV wr fs s t' → ItemsOf P acc n → Q acc.toList t') : wpAny (model prog w) A (collect (.ref I)) Q E s := by
  have SI : s.heap.objs.size ≠ I := Nat.ne_of_gt Iw
  unfold collect
  (refine wpAny_bind (wpAny_runValue (codeAny_builtin F.entry_proto_collect ?_)))
  (rw [Around.under_plainId F.plain_proto_collect _])
  (show wpAny _ A.in1 (newList [] >>= fun l => again (.builtin "list.__iadd__" ⟨[l, .ref I], []⟩)) _ _ s)
  refine wpAny_bind (wpAny_newObj_type (wpAny_pure ⟨plainId_quiet F.plain_list_iadd _, codeAny_builtin F.entry_list_iadd ?_⟩))
  (rw [Around.under_plainId F.plain_list_iadd _])
  have k1 : ∀ b o, s.heap.get? b = some o → (s.heap.push { cls := .type "list", data := .seq ([] : List Value).toArray }).get? b = some o := fun b o it => Heap.get?_push_of_some _ it
  have st1 := fr 0 s (s.heap.push { cls := .type "list", data := .seq ([] : List Value).toArray }) s.toks st fun b o _ it => k1 b o it
  (show wpAny _ A.in1 (Builtin.List.listExtendWith (.ref s.heap.objs.size) (.ref I) (.ref s.heap.objs.size)) _ _ _)
  (unfold Builtin.List.listExtendWith)
  refine wpAny_bind (wpAny_typeOf (ty 0 _ st1) ?_)
  have n1 : Builtin.List.listSameRef (.ref s.heap.objs.size) (.ref I) = false := by simp [Builtin.List.listSameRef, SI]
  have n2 : (Value.type "generator" == Value.type "list") = false := by decide
  have n3 : (Value.type "generator" == Value.type "tuple") = false := by decide
  simp only [n1, n2, n3, Bool.or_false, Bool.false_eq_true, if_false]
  refine wpAny_bind (Wk.self _ _ _ st1 (wpAny_bind (wpAny_holding ?_)))
  (unfold Builtin.List.listLengthHint)
  refine wpAny_bind (wpAny_specialOf (ty 0 _ st1) F.gen_no_len ?_)
  (show wpAny _ A.in1 (specialOf (Value.ref I) (Str.ofString "__length_hint__") >>= _) _ _ _)
  refine wpAny_bind (wpAny_specialOf (ty 0 _ st1) F.gen_no_hint (wpAny_pure ?_))
  (show wpAny _ A.in1 (rule "list.extend.makes-room" >>= fun _ => Builtin.List.listTouch (.ref s.heap.objs.size) >>= fun _ =>
      again (.builtin "list.extend.loop" ⟨[.ref s.heap.objs.size, .ref I, .ref s.heap.objs.size], []⟩)) _ _ _)
  (refine wpAny_bind (wpAny_rule (wpAny_bind ?_)))
  have at1 : (s.heap.push { cls := .type "list", data := .seq ([] : List Value).toArray }).get? s.heap.objs.size = some { cls := .type "list", data := .seq ([] : List Value).toArray } := Heap.get?_push_size _ rfl
  (show wpAny _ A.in1 (updateSeq s.heap.objs.size (·.push .none) >>= fun _ => updateSeq s.heap.objs.size (·.pop)) _ _ _)
  refine wpAny_bind (wpAny_updateSeq at1 rfl ?_)
  have at2 := Heap.get?_update_self (Obj.mapSeq (·.push Value.none)) at1 rfl
  refine wpAny_updateSeq at2 rfl ?_
  have at3 := Heap.get?_update_self (Obj.mapSeq (·.pop)) at2 rfl
  have stays : ∀ (f : Obj → Obj) (h0 : Heap) b o, b ≠ s.heap.objs.size → h0.get? b = some o → (h0.update s.heap.objs.size f).get? b = some o := fun f h0 b o ne it => (Heap.get?_update_other _ _ (Ne.symm ne)).trans it
  refine wpAny_pure ⟨plainId_quiet F.plain_extend_loop _, extend_loopV Wk hn _ Sw Sf fr _ n 0 _ _ _ rfl (Nat.zero_le _) (fr 0 ({ s with heap := s.heap.push { cls := .type "list", data := .seq ([] : List Value).toArray } } : Shared) _ s.toks st1 fun b o ne it => stays _ _ b o ne (stays _ _ b o ne it)) at3 (ItemsOf.nil P) fun t' acc mv at' items => ?_⟩
  obtain ⟨c', at'⟩ := at'
  show wpAny _ A (load s.heap.objs.size >>= _) _ _ t'
  refine wpAny_bind (wpAny_load at' (wpAny_pure (want t' acc ⟨mv.os, mv.bare, fun b o nb it => ?_⟩ items)))
  have ne : b ≠ s.heap.objs.size := fun z => Nat.lt_irrefl _ (z ▸ Heap.lt_size it)
  exact mv.heap b o (fun z => (List.mem_cons.mp z).elim ne nb) (stays _ _ b o ne (stays _ _ b o ne (k1 b o it)))
theorem tuple_new_genV {E : Value → Shared → Prop} {s : Shared} {I : Addr} {wr fs : List Addr} {n : Nat} {P : Nat → Value → Prop} {St : Nat → Shared → Prop} {Q : Value → Shared → Prop} (Wk : WalksV prog w A.in1.in1 I wr fs n P St) (hn : n ≤ sizeLine) (ty : ∀ i t, St i t → t.TypeIs (.ref I) "generator") (st : St 0 s)
    (Iw : I < s.heap.objs.size) (Sw : s.heap.objs.size ∉ wr) (Sf : s.heap.objs.size ∉ fs) (fr : ∀ i (t : Shared) h' tk, St i t → (∀ b o, b ≠ s.heap.objs.size → t.heap.get? b = some o → h'.get? b = some o) → St i { t with heap := h', toks := tk })
    (want : ∀ t' acc, MovedV wr fs s t' → ItemsOf P acc n → Q (.ref t'.heap.objs.size) { t' with heap := t'.heap.push { cls := .type "tuple", data := .seq acc } }) :
    codeAny (model prog w) A (.call (.builtin "tuple.__new__") ⟨[.type "tuple", .ref I], []⟩) (wants Q E) s := by
  (refine codeAny_of_tree ?_)
  (show wpAny _ A.in1 (do checkBuiltinCall "tuple.__new__" ⟨[.type "tuple", .ref I], []⟩; again (.builtin "tuple.__new__" ⟨[.type "tuple", .ref I], []⟩)) _ _ s)
  (refine wpAny_bind (wpAny_of_eq (F.newCall_tuple_1 _) (wpAny_pure ⟨plainId_quiet F.plain_tuple_new _, codeAny_builtin F.entry_tuple_new ?_⟩)))
  (rw [Around.under_plainId F.plain_tuple_new _])
  have sub := sub_tuple_self
  have ini := init_tuple_lookup
  have made := madeHere_tuple
  have tI := ty 0 s st
  wp_walk using wpAny_typeOf tI, collect_genV Wk hn ty st Iw Sw Sf fr
  intro t' acc mv items
  (show wpAny _ _ (Builtin.Tuple.tupleExact acc.toList.toArray >>= fun v => ret v) _ _ _)
  (unfold Builtin.Tuple.tupleExact)
  (have e : acc.toList.toArray = acc := by simp)
  refine wpAny_bind (wpAny_newObj_type (wpAny_pure ?_) (by show acc.toList.toArray.size ≤ sizeLine; rw [e, items.1]; exact hn))
  rw [e]
  exact want t' acc mv items
theorem call_tuple_genV {E : Value → Shared → Prop} {s : Shared} {I : Addr} {wr fs : List Addr} {n : Nat} {P : Nat → Value → Prop} {St : Nat → Shared → Prop} {Q : Value → Shared → Prop} (Wk : WalksV prog w A.in1.in1.in1 I wr fs n P St) (hn : n ≤ sizeLine) (ty : ∀ i t, St i t → t.TypeIs (.ref I) "generator") (st : St 0 s)
    (Iw : I < s.heap.objs.size) (Sw : s.heap.objs.size ∉ wr) (Sf : s.heap.objs.size ∉ fs) (fr : ∀ i (t : Shared) h' tk, St i t → (∀ b o, b ≠ s.heap.objs.size → t.heap.get? b = some o → h'.get? b = some o) → St i { t with heap := h', toks := tk })
    (want : ∀ t' acc, MovedV wr fs s t' → ItemsOf P acc n → Q (.ref t'.heap.objs.size) { t' with heap := t'.heap.push { cls := .type "tuple", data := .seq acc } }) :
    (wpAny (model prog w) A (call (.type "tuple") [.ref I]) Q E s) := by
  refine callType_codes (Q₁ := fun obj s1 => s1.TypeIs obj "tuple" ∧ Q obj s1) F.called_tuple (F.typeCall_tuple_1 _) F.entry_object_init
    (tuple_new_genV Wk hn ty st Iw Sw Sf fr (fun t' acc mv items => ⟨⟨_, Heap.get?_push_size _ rfl, rfl⟩, want t' acc mv items⟩)) fun obj s1 h1 => ?_
  exact ⟨h1.1, F.args_object_init_2 obj _, object_init_meets F.called_tuple.init.lookup F.called_tuple.made (by decide) prog w A.in1 _ s1 ⟨h1.1, rfl, h1.2⟩⟩
end
end V3
/-! Iterables of a generator expression, each told once: a tuple, enumerate of a tuple, zip of two tuples. -/
namespace V3
open PySem.Spec PySem L2 PyProof.Rows GxR RZ
theorem Draws2.mono {prog : Program} {w : World} {tgt : Expr} {ce : Env} {I : Addr} {fp wr : List Addr} {n : Nat} {Bd Bd2 : Nat → (Str → Option Value) → Prop} {St : Nat → Heap → Prop} (D : Draws2 prog w tgt ce I fp wr n Bd St) (h : ∀ i mp, Bd i mp → Bd2 i mp) : Draws2 prog w tgt ce I fp wr n Bd2 St :=
  ⟨D.sub, D.frame, fun B q i t mp K E il st ns told => D.one B q i t mp K E il st ns fun v t1 go => told v t1 (wpAny_mono go (fun _ t2 g2 => wpAny_mono g2 (fun _ t3 ⟨h', tk, mp', e, b, r⟩ => ⟨h', tk, mp', e, h _ _ b, r⟩) fun _ _ z => z) fun _ _ z => z), D.done, D.self⟩
theorem Draws2.name {prog : Program} {w : World} {x : Str} {px : Pos} {ce : Env} {I : Addr} {fp wr : List Addr} {n : Nat} {Dr : Nat → Value → Prop} {St : Nat → Heap → Prop} (Wk : ∀ B : Around, B.handled = none → Walks prog w B I fp wr n Dr St)
    (kx : ce.kindOf x = some .local) (plain : (ce.scope.kind == .class || (ce.scope.kind == .module && ce.locals != ce.globals)) = false) (apart : ce.locals ∉ fp) : Draws2 prog w (.Name x px) ce I fp wr n (fun i mp => ∃ v, Dr i v ∧ mp x = some v) St where
  sub := (Wk callerA rfl).sub
  frame := (Wk callerA rfl).frame
  one := fun B q i t mp K E il st ns told => by
    have offW : ce.locals ∉ wr := fun z => apart ((Wk B q).sub _ z)
    refine (Wk B q).item i t K E il st fun v h1 tk dr st1 keep1 => told _ _ ?_
    refine wpAny_of_eq (rfl : letOwnedTupleGo (.Name x px) (.ref I) v = pure ()) (wpAny_assign_Name (wpAny_storeName_local kx (ns.at' fun o it => keep1 _ o offW it) (fun h2 ns2 same2 => ?_) plain))
    exact ⟨h2, _, _, rfl, ⟨v, dr, by simp⟩, (Wk B q).frame _ h1 h2 st1 fun c hc o it => same2.extBut c o (fun z => apart (z ▸ hc)) it, ns2, fun c o nc nw it => same2.extBut c o nc (keep1 c o nw it)⟩
  done := fun B q t K E st k => (Wk B q).done t K E st k
  self := fun B q t K E st k => (Wk B q).self 0 t K E st k
abbrev TI := L2.St → Hp → (Nat → (Nat → (Str → Option Value) → Prop) → Hp → Prop) → Prop
/-- an iterable and its target -/
structure IR (X : Cx) (P : Addr) (iter tgt : Expr) (scope : Scope) (ti : TI) : Prop where
  run : ∀ (pins : List (Addr × Obj)) (s : Shared) (σ : L2.St) (H : Hp) (Kq : Nat → (Nat → (Str → Option Value) → Prop) → Hp → Prop) (R : Value → Shared → Prop), Inv X pins σ H s → ti σ H Kq →
    (∀ (H1 : Hp) (s0 : Shared) (hz : Heap) (I : Addr) (fp wr : List Addr) (n : Nat) (Bd : Nat → (Str → Option Value) → Prop) (St : Nat → Heap → Prop), Inv X pins σ H1 s0 → TabG H1 P → ItReady X P s0.heap hz tgt scope I fp wr n Bd St → (∀ i h, St i h → ∀ b ∈ wr, ∃ o, h.get? b = some o) → Kq n Bd H1 → R (.ref I) { s0 with heap := hz }) →
    wpAny (model X.prog X.w) X.A (eval iter X.env) (fun xv t1 => wpAny (model X.prog X.w) X.A (pyIter xv) R X.xe t1) X.xe s
section
variable {X : Cx}
/-- what is so of the places of a tuple -/
structure Apart (X : Cx) (P l : Addr) (s1 : Shared) : Prop where
  low : l < s1.heap.objs.size
  np : l ≠ P
  nf : l ∉ frs X.stack
theorem apartT {pins : List (Addr × Obj)} {σ : L2.St} {H1 : Hp} {s1 : Shared} {P l : Addr} {xs : List V} (I1 : Inv X pins σ H1 s1) (tab : TabG H1 P) (hsq : SqT X.K H1 l xs) : Apart X P l s1 ∧ ∃ its : List Value, Vals xs its ∧ s1.heap.IsTuple l its.toArray := by
  obtain ⟨its, rv, pl, hz⟩ := I1.tuple hsq
  have ht : s1.heap.IsTuple l its.toArray := by
    obtain ⟨ob, h1, h2, n, h3⟩ := pl
    exact ⟨ob, h1, h2, n, h3⟩
  obtain ⟨ptab, hP, htr⟩ := tab
  have atP : s1.heap.get? P = some { cls := .none, data := .fields ptab } := I1.hok P _ hP
  refine ⟨⟨?_, fun z => ?_, fun z => ?_⟩, its, rv, ht⟩
  · obtain ⟨_, q0, _⟩ := ht
    exact Heap.lt_size q0
  · obtain ⟨ob2, q1, _, _, q4⟩ := ht
    rw [z, atP] at q1
    cases q1
    cases q4
  · rcases hsq with ((e | ⟨o, e⟩) | ⟨o, it2, n2, e, _⟩)
    · have := I1.stkFree l z
      rw [e] at this
      cases this
    · have := I1.stkFree l z
      rw [e] at this
      cases this
    · have := (frs_apart I1.stack z).1
      rw [(I1.ok.mod.kin l o e)] at this
      cases this
theorem frsLow {pins : List (Addr × Obj)} {σ : L2.St} {H1 : Hp} {s1 : Shared} (I1 : Inv X pins σ H1 s1) : ∀ b ∈ frs X.stack, b < s1.heap.objs.size := fun b z => by
  obtain ⟨_, o, ho, _⟩ := frs_apart I1.stack z
  exact Heap.lt_size ho
theorem tabLow {pins : List (Addr × Obj)} {σ : L2.St} {H1 : Hp} {s1 : Shared} {P : Addr} (I1 : Inv X pins σ H1 s1) (tab : TabG H1 P) : P < s1.heap.objs.size := by
  obtain ⟨ptab, hP, htr⟩ := tab
  have atP : s1.heap.get? P = some { cls := .none, data := .fields ptab } := I1.hok P _ hP
  exact Heap.lt_size atP
def rowN (a : Str) (xs : List V) : Nat → (Str → Option Value) → Prop := fun i mp => ∃ x u, xs[i]? = some x ∧ mp a = some u ∧ RelV x u
def rowE (a b : Str) (xs : List V) : Nat → (Str → Option Value) → Prop := fun i mp => ∃ x u t, xs[i]? = some x ∧ mp a = some (.int (i : Int) t) ∧ mp b = some u ∧ RelV x u
def rowZ (a b : Str) (xs ys : List V) : Nat → (Str → Option Value) → Prop := fun i mp => ∃ x y u v, xs[i]? = some x ∧ ys[i]? = some y ∧ mp a = some u ∧ mp b = some v ∧ RelV x u ∧ RelV y v
def tiT (X : Cx) (P : Addr) (a : Str) (te : TE) : TI := fun σ H K => te σ H fun v H1 => ∃ (p : Addr) (xs : List V), v = .ref p ∧ SqT X.K H1 p xs ∧ TabG H1 P ∧ K xs.length (rowN a xs) H1
def tiE (X : Cx) (P : Addr) (a b : Str) (ta : TA) : TI := fun σ H K => ta σ H fun vs H1 => ∃ (p : Addr) (xs : List V), vs = [.ref p] ∧ SqT X.K H1 p xs ∧ TabG H1 P ∧ K xs.length (rowE a b xs) H1
def tiZ (X : Cx) (P : Addr) (a b : Str) (ta : TA) : TI := fun σ H K => ta σ H fun vs H1 => ∃ (p q : Addr) (xs ys : List V), vs = [.ref p, .ref q] ∧ SqT X.K H1 p xs ∧ SqT X.K H1 q ys ∧ TabG H1 P ∧ K (min xs.length ys.length) (rowZ a b xs ys) H1
theorem vals_at {xs : List V} {its : List Value} {i : Nat} {u : Value} (r : Vals xs its) (h : its[i]? = some u) : ∃ x, xs[i]? = some x ∧ RelV x u := by
  have li : i < xs.length := by
    have := (List.getElem?_eq_some_iff.mp h).1
    have := r.length
    omega
  obtain ⟨u2, hu, ru⟩ := r.get (List.getElem?_eq_getElem li)
  rw [h] at hu
  cases hu
  exact ⟨_, List.getElem?_eq_getElem li, ru⟩
/-- for a in t -/
theorem ir_tup {P : Addr} {iter : Expr} {a : Str} {pa : Pos} {scope : Scope} {te : TE} (hi : PE X iter te) (kd : scope.kind = .function) (ka : scope.names.lookup a = some .local) : IR X P iter (.Name a pa) scope (tiT X P a te) := by
  refine ⟨fun pins s σ H Kq R I h go => ?_⟩
  refine thn (hi.run pins s σ H _ I h) fun xv s1 ⟨v, H1, I1, rv, p, xs, ev, hsq, tab, kq⟩ => ?_
  subst ev
  cases rv
  obtain ⟨ap, its, rvs, tupA⟩ := apartT I1 tab hsq
  have szl := rvs.length
  refine wpAny_pyIter_tuple tupA ?_
  have keep : ∀ b o, s1.heap.get? b = some o → (s1.heap.push { cls := .type "tuple_iterator", data := .fields #[.ref p, .int 0 0] }).get? b = some o := fun b o it => Heap.get?_push_of_some _ it
  have frl := frsLow I1
  have tl := tabLow I1 tab
  have len : its.toArray.size = xs.length := by
    rw [List.size_toArray]
    exact szl.symm
  refine go H1 s1 _ s1.heap.objs.size [s1.heap.objs.size, p] [s1.heap.objs.size] xs.length (rowN a xs) (fun i h => h.IsTupleIter s1.heap.objs.size p i ∧ h.IsTuple p its.toArray) I1 tab ⟨keep, by rw [Heap.size_push]; exact Nat.le_succ _, fun ce hsc hlo => ?_, fun b hb => ?_, ⟨⟨_, Heap.get?_push_size _ rfl, rfl, rfl⟩, ?_⟩, fun b hb => ?_, fun b hb => ?_, fun b hb => ?_, fun b hb => ?_⟩ (fun i h st b hb => by
      obtain ⟨⟨o, ho, _⟩, _⟩ := st
      rw [List.mem_singleton.mp hb]
      exact ⟨o, ho⟩) kq
  · rw [← len]
    refine (Draws2.name (fun B hB => Walks.tuple hB s1.heap.objs.size p (Nat.ne_of_lt ap.low) its.toArray) (by show ce.scope.names.lookup a = _; rw [hsc]; exact ka) (by rw [hsc]; simp [kd]) hlo).mono fun i mp ⟨u, hu, m⟩ => ?_
    have hu : its[i]? = some u := by simpa using hu
    obtain ⟨x, hx, r⟩ := vals_at rvs hu
    exact ⟨x, u, hx, m, r⟩
  · exact List.mem_cons.mpr (.inl (List.mem_singleton.mp hb))
  · obtain ⟨ob, h1, h2⟩ := tupA
    exact ⟨ob, keep _ _ h1, h2⟩
  · rw [Heap.size_push]
    (simp only [List.mem_cons, List.not_mem_nil, or_false] at hb)
    rcases hb with z | z <;> subst z
    · exact Nat.lt_succ_self _
    · exact Nat.lt_succ_of_lt ap.low
  · (rw [List.mem_singleton.mp hb])
    exact Nat.le_refl _
  · (simp only [List.mem_cons, List.not_mem_nil, or_false] at hb)
    rcases hb with z | z <;> subst z
    · exact Nat.ne_of_gt tl
    · exact ap.np
  · intro z
    (simp only [List.mem_cons, List.not_mem_nil, or_false] at hb)
    rcases hb with y | y <;> subst y
    · exact Nat.lt_irrefl _ (frl _ z)
    · exact ap.nf z
/-- for a, b in enumerate(t) -/
theorem ir_enum {P : Addr} {e1 : Expr} {a b : Str} {pa pb tp pe pe2 : Pos} {kk : Nat} {scope : Scope} {ta : TA} (hge : Gl X "enumerate") (hme : X.mg "enumerate" = none) (ha : PA X [e1] ta) (kd : scope.kind = .function) (ka : scope.names.lookup a = some .local) (kb : scope.names.lookup b = some .local) (ab : (a = b) = False)
    (hs : starEach [e1] X.env = [(false, eval e1 X.env)] := by rfl) : IR X P (.Call (.Name "enumerate" pe) [e1] [] pe2) (.Tuple [.Name a pa, .Name b pb] kk tp) scope (tiE X P a b ta) := by
  refine ⟨fun pins s σ H Kq R I h go => ?_⟩
  refine Call_ (ld_blt I hge hme boot_enumerate (PyProof.Rows.callWith_type1 (thn (ha.run pe2 pins s σ H _ I h) fun us s1 ⟨vs, H1, I1, r1, l, xs, evs, hsq, tab, kq⟩ => ?_) hs rfl))
  subst evs
  cases r1 with
  | cons r rr =>
    cases rr
    cases r
    obtain ⟨ap, its, rv, ht⟩ := apartT I1 tab hsq
    have hal := ap.low
    refine call_enum_begins (begins_tuple l its.toArray) ht fun hq isE hit hsz hk => wpAny_pyIter_enum isE ?_
    have lenE : its.toArray.size = xs.length := by
      rw [List.size_toArray]
      exact rv.length.symm
    have frl := frsLow I1
    have tl := tabLow I1 tab
    refine go H1 s1 hq (s1.heap.objs.size + 1) [s1.heap.objs.size + 1, s1.heap.objs.size, l] [s1.heap.objs.size + 1, s1.heap.objs.size] xs.length (rowE a b xs)
      (fun i h => (∃ old, IsEnum h (s1.heap.objs.size + 1) s1.heap.objs.size i old) ∧ h.IsTupleIter s1.heap.objs.size l i ∧ h.IsTuple l its.toArray) I1 tab ⟨hk, by rw [hsz]; exact Nat.le_add_right _ _, fun ce hsc hlo => ?_, fun b hb => ?_, ⟨⟨_, isE⟩, ⟨_, hit, rfl, rfl⟩, ?_⟩, fun b hb => ?_, fun b hb => ?_, fun b hb => ?_, fun b hb => ?_⟩ (fun i h st b hb => by
        obtain ⟨⟨_, e⟩, ⟨o, ho, _⟩, _⟩ := st
        (simp only [List.mem_cons, List.not_mem_nil, or_false] at hb)
        rcases hb with z | z
        · rw [z]
          exact ⟨_, e⟩
        · rw [z]
          exact ⟨o, ho⟩) kq
    · rw [← lenE]
      refine (Draws2.pair (Mid := fun i T h => (∃ x, IsEnumOut h (s1.heap.objs.size + 1) s1.heap.objs.size ((i : Int) + 1) x T) ∧ (h.IsTupleIter s1.heap.objs.size l (i + 1) ∧ h.IsTuple l its.toArray) ∧ T ≠ s1.heap.objs.size + 1 ∧ T ≠ s1.heap.objs.size) (fun B hB => WalksT.enumerateD (A := B) (Draws.tuple (by exact hB) s1.heap.objs.size l (Nat.ne_of_lt hal) its.toArray) (s1.heap.objs.size + 1) (Nat.succ_ne_self _) (fun z => ?_) (List.mem_cons_self ..)) (fun i vals pt => ?_) (by show ce.scope.names.lookup a = _; rw [hsc]; exact ka) (by show ce.scope.names.lookup b = _; rw [hsc]; exact kb) ab (by rw [hsc]; simp [kd]) hlo).mono fun i mp ⟨x, y, ⟨t, x', hx, exy⟩, ma, mb⟩ => ?_
      · simp only [List.mem_cons, List.not_mem_nil, or_false] at z
        rcases z with z | z
        · exact Nat.succ_ne_self _ z
        · exact Nat.ne_of_lt (Nat.lt_succ_of_lt hal) z.symm
      · obtain ⟨t, x, _, e⟩ := pt
        exact ⟨_, _, e⟩
      · have e1 : x = .int (i : Int) t ∧ y = x' := by simpa using exy
        obtain ⟨rfl, rfl⟩ := e1
        have hx : its[i]? = some y := by simpa using hx
        obtain ⟨v, hv, r⟩ := vals_at rv hx
        exact ⟨v, y, t, hv, ma, mb, r⟩
    · simp only [List.mem_cons, List.not_mem_nil, or_false] at hb ⊢
      rcases hb with z | z
      · exact .inl z
      · exact .inr (.inl z)
    · obtain ⟨ob, h1, h2⟩ := ht
      exact ⟨ob, hk _ _ h1, h2⟩
    · rw [hsz]
      (simp only [List.mem_cons, List.not_mem_nil, or_false] at hb)
      rcases hb with z | z | z <;> subst z
      · exact Nat.lt_succ_self _
      · (exact Nat.lt_succ_of_lt (Nat.lt_succ_self _))
      · exact Nat.lt_succ_of_lt (Nat.lt_succ_of_lt hal)
    · (simp only [List.mem_cons, List.not_mem_nil, or_false] at hb)
      rcases hb with z | z <;> subst z
      · exact Nat.le_add_right _ _
      · exact Nat.le_refl _
    · (simp only [List.mem_cons, List.not_mem_nil, or_false] at hb)
      rcases hb with z | z | z <;> subst z
      · exact Nat.ne_of_gt (Nat.lt_succ_of_lt tl)
      · exact Nat.ne_of_gt tl
      · exact ap.np
    · intro z
      (simp only [List.mem_cons, List.not_mem_nil, or_false] at hb)
      rcases hb with y | y | y <;> subst y
      · exact absurd (frl _ z) (Nat.not_lt_of_le (Nat.le_add_right _ _))
      · exact absurd (frl _ z) (Nat.not_lt_of_le (Nat.le_refl _))
      · exact ap.nf z
/-- for a, b in zip(t, u) -/
theorem ir_zip {P : Addr} {e1 e2 : Expr} {a b : Str} {pa pb tp pe pe2 : Pos} {kk : Nat} {scope : Scope} {ta : TA} (hge : Gl X "zip") (hme : X.mg "zip" = none) (ha : PA X [e1, e2] ta) (kd : scope.kind = .function) (ka : scope.names.lookup a = some .local) (kb : scope.names.lookup b = some .local) (ab : (a = b) = False)
    (hs : starEach [e1, e2] X.env = (false, eval e1 X.env) :: starEach [e2] X.env := by rfl) (hpl : (backTo pe2 (starEach [e2] X.env)).any (·.1) = false := by rfl) : IR X P (.Call (.Name "zip" pe) [e1, e2] [] pe2) (.Tuple [.Name a pa, .Name b pb] kk tp) scope (tiZ X P a b ta) := by
  refine ⟨fun pins s σ H Kq R I h go => ?_⟩
  refine Call_ (ld_blt I hge hme PyProof.Rows.boot_zip (PyProof.Rows.callWith_type1 (thn (ha.run pe2 pins s σ H _ I h) fun us s0 ⟨vs, H1, I0, rvs0, lp, lq, xs, ys, evs, hsx, hsy, tab, kq⟩ => ?_) hs hpl))
  subst evs
  obtain ⟨up, uq, rfl, rp, rq⟩ : ∃ up uq, us = [up, uq] ∧ RelV (.ref lp) up ∧ RelV (.ref lq) uq := by
    cases rvs0 with
    | cons r rr =>
      cases rr with
      | cons r2 rr =>
        cases rr
        exact ⟨_, _, rfl, r, r2⟩
  cases (show up = Value.ref lp from rp)
  cases (show uq = Value.ref lq from rq)
  obtain ⟨ax, itx, rvx, tx⟩ := apartT I0 tab hsx
  obtain ⟨ay, ity, rvy, ty⟩ := apartT I0 tab hsy
  refine call_zipT tx ty fun hz isz isTI isTO it1 it2 szz keptz => wpAny_pyIter_zip isz ?_
  have frl := frsLow I0
  have tl := tabLow I0 tab
  have lx := ax.low
  have ly := ay.low
  have e1 : itx.toArray.size = xs.length := by
    rw [List.size_toArray]
    exact rvx.length.symm
  have e2 : ity.toArray.size = ys.length := by
    rw [List.size_toArray]
    exact rvy.length.symm
  have sep : ZipSep2 (s0.heap.objs.size + 4) (s0.heap.objs.size + 2) (s0.heap.objs.size + 3) s0.heap.objs.size (s0.heap.objs.size + 1) [s0.heap.objs.size, lp] [s0.heap.objs.size + 1, lq] :=
    zip_sep2 (fun b hb => by rw [List.mem_singleton.mp hb]; exact lx) (fun b hb => by rw [List.mem_singleton.mp hb]; exact ly)
  refine go H1 s0 hz (s0.heap.objs.size + 4) ((s0.heap.objs.size + 4) :: (s0.heap.objs.size + 2) :: (s0.heap.objs.size + 3) :: ([s0.heap.objs.size, lp] ++ [s0.heap.objs.size + 1, lq])) [s0.heap.objs.size + 4, s0.heap.objs.size + 3, s0.heap.objs.size, s0.heap.objs.size + 1] (min xs.length ys.length) (rowZ a b xs ys)
    (fun i h => IsZip h (s0.heap.objs.size + 4) (s0.heap.objs.size + 2) (s0.heap.objs.size + 3) .none ∧ IsTupOf2 h (s0.heap.objs.size + 2) (.ref s0.heap.objs.size) (.ref (s0.heap.objs.size + 1)) ∧ (∃ a1 a2, IsTupOf2 h (s0.heap.objs.size + 3) a1 a2) ∧ (h.IsTupleIter s0.heap.objs.size lp i ∧ h.IsTuple lp itx.toArray) ∧ (h.IsTupleIter (s0.heap.objs.size + 1) lq i ∧ h.IsTuple lq ity.toArray)) I0 tab
    ⟨keptz, by rw [szz]; exact Nat.le_add_right _ _, fun ce hsc hlo => ?_, fun b hb => ?_, ⟨isz, isTI, ⟨_, _, isTO⟩, ⟨it1, ?_⟩, ⟨it2, ?_⟩⟩, fun b hb => ?_, fun b hb => ?_, fun b hb => ?_, fun b hb => ?_⟩ (fun i h st b hb => by
      obtain ⟨e, _, ⟨_, _, e2⟩, ⟨⟨o, ho, _⟩, _⟩, ⟨⟨o2, ho2, _⟩, _⟩⟩ := st
      (simp only [List.mem_cons, List.not_mem_nil, or_false] at hb)
      rcases hb with z | z | z | z
      · rw [z]
        exact ⟨_, e⟩
      · rw [z]
        exact ⟨_, e2⟩
      · rw [z]
        exact ⟨o, ho⟩
      · rw [z]
        exact ⟨o2, ho2⟩) kq
  · rw [← e1, ← e2]
    refine (Draws2.pair (fun B hB => WalksT.zipD2 (A := B) sep (Draws.tuple (by exact hB) s0.heap.objs.size lp (Nat.ne_of_lt lx) itx.toArray) (Draws.tuple (by exact hB) (s0.heap.objs.size + 1) lq (Nat.ne_of_lt (Nat.lt_succ_of_lt ly)) ity.toArray)) (fun i vals pt => ?_) (by show ce.scope.names.lookup a = _; rw [hsc]; exact ka) (by show ce.scope.names.lookup b = _; rw [hsc]; exact kb) ab (by rw [hsc]; simp [kd]) hlo).mono fun i mp ⟨x, y, ⟨x', y', hx, hy, exy⟩, ma, mb⟩ => ?_
    · obtain ⟨x, y, _, _, e⟩ := pt
      exact ⟨_, _, e⟩
    · have e : x = x' ∧ y = y' := by simpa using exy
      obtain ⟨rfl, rfl⟩ := e
      have hx : itx[i]? = some x := by simpa using hx
      have hy : ity[i]? = some y := by simpa using hy
      obtain ⟨v, hv, r⟩ := vals_at rvx hx
      obtain ⟨v2, hv2, r2⟩ := vals_at rvy hy
      exact ⟨v, v2, x, y, hv, hv2, ma, mb, r, r2⟩
  · simp only [List.mem_cons, List.mem_append, List.not_mem_nil, or_false] at hb ⊢
    rcases hb with z | z | z | z <;> simp [z]
  · obtain ⟨ob, h1, h2⟩ := tx
    exact ⟨ob, keptz _ _ h1, h2⟩
  · obtain ⟨ob, h1, h2⟩ := ty
    exact ⟨ob, keptz _ _ h1, h2⟩
  · rw [szz]
    simp only [List.mem_cons, List.mem_append, List.not_mem_nil, or_false] at hb
    have lx' : (lp : Nat) < s0.heap.objs.size := lx
    have ly' : (lq : Nat) < s0.heap.objs.size := ly
    rcases hb with z | z | z | ((z | z) | (z | z)) <;> subst z
    · exact Nat.add_lt_add_left (by decide) _
    · exact Nat.add_lt_add_left (by decide) _
    · exact Nat.add_lt_add_left (by decide) _
    · exact Nat.lt_add_of_pos_right (by decide)
    · exact Nat.lt_of_lt_of_le lx' (Nat.le_add_right _ _)
    · exact Nat.add_lt_add_left (by decide) _
    · exact Nat.lt_of_lt_of_le ly' (Nat.le_add_right _ _)
  · (simp only [List.mem_cons, List.not_mem_nil, or_false] at hb)
    rcases hb with z | z | z | z <;> subst z
    · exact Nat.le_add_right _ _
    · exact Nat.le_add_right _ _
    · exact Nat.le_refl _
    · exact Nat.le_add_right _ _
  · have up : ∀ j : Nat, s0.heap.objs.size + j ≠ P := fun j z => by
      rw [← z] at tl
      exact absurd tl (Nat.not_lt_of_le (Nat.le_add_right _ _))
    simp only [List.mem_cons, List.mem_append, List.not_mem_nil, or_false] at hb
    rcases hb with z | z | z | ((z | z) | (z | z)) <;> subst z
    · exact up 4
    · exact up 2
    · exact up 3
    · exact Nat.ne_of_gt tl
    · exact ax.np
    · exact up 1
    · exact ay.np
  · intro z
    have no : ∀ j : Nat, s0.heap.objs.size + j ∉ frs X.stack := fun j z => absurd (frl _ z) (Nat.not_lt_of_le (Nat.le_add_right _ _))
    simp only [List.mem_cons, List.mem_append, List.not_mem_nil, or_false] at hb
    rcases hb with y | y | y | ((y | y) | (y | y)) <;> subst y
    · exact no 4 z
    · exact no 2 z
    · exact no 3 z
    · exact no 0 z
    · exact ax.nf z
    · exact no 1 z
    · exact ay.nf z
end
end V3
/-! any, all, sum, tuple of whole numbers: over any iterable, with tests. -/
namespace V3
open PySem.Spec PySem L2 PyProof.Rows GxR RZ
/-- what is told of a generator expression's tests and element, place by place -/
structure Asks (X : Cx) (scope : Scope) (σ : L2.St) (H1 : Hp) (Row : Nat → (Str → Option Value) → Prop) (ifs : List Expr) (elt : Expr) (pz : Nat → Bool) (F : Nat → V → Prop) : Prop where
  tst : ∀ (h : Heap), HOk X.prog X.w H1 h → ∀ (ce : Env) (B : Around) (mp : Str → Option Value) (Ok : Shared → Prop) (i : Nat), Row i mp → GF X H1 h σ scope ce B mp Ok → GT X ce B Ok ifs (pz i)
  elt : ∀ (h : Heap), HOk X.prog X.w H1 h → ∀ (ce : Env) (B : Around) (mp : Str → Option Value) (Ok : Shared → Prop) (i : Nat), Row i mp → pz i = true → GF X H1 h σ scope ce B mp Ok → GE X ce B Ok elt (F i)
abbrev genG (elt iter tgt : Expr) (ifs : List Expr) (scope : Scope) (gpos : Pos) : Expr := .GeneratorExp elt [⟨tgt, iter, ifs, 0⟩] scope gpos
theorem any_idx {L : List Nat} (f : Nat → Bool) : ((List.range L.length).any fun j => ((L[j]?).map f).getD false) = L.any f := by
  (rw [Bool.eq_iff_iff, List.any_eq_true, List.any_eq_true])
  constructor
  · rintro ⟨j, hj, h⟩
    have hl := List.mem_range.mp hj
    rw [List.getElem?_eq_getElem hl] at h
    exact ⟨_, List.getElem_mem hl, h⟩
  · rintro ⟨i, hi, h⟩
    obtain ⟨j, hj⟩ := List.getElem?_of_mem hi
    exact ⟨j, List.mem_range.mpr (List.getElem?_eq_some_iff.mp hj).1, by rw [hj]; exact h⟩
theorem all_idx {L : List Nat} (f : Nat → Bool) : ((List.range L.length).all fun j => ((L[j]?).map f).getD false) = L.all f := by
  (rw [Bool.eq_iff_iff, List.all_eq_true, List.all_eq_true])
  constructor
  · intro h i hi
    obtain ⟨j, hj⟩ := List.getElem?_of_mem hi
    have := h j (List.mem_range.mpr (List.getElem?_eq_some_iff.mp hj).1)
    rw [hj] at this
    exact this
  · intro h j hj
    have hl := List.mem_range.mp hj
    rw [List.getElem?_eq_getElem hl]
    exact h _ (List.getElem_mem hl)
theorem pre_shift (g : Nat → Int) : ∀ n : Nat, preSum g (n + 1) = g 0 + preSum (fun i => g (i + 1)) n
  | 0 => by
    show preSum g 0 + g 0 = g 0 + 0
    show (0 : Int) + g 0 = g 0 + 0
    omega
  | n + 1 => by
    show preSum g (n + 1) + g (n + 1) = g 0 + (preSum (fun i => g (i + 1)) n + g (n + 1))
    rw [pre_shift g n]
    omega
theorem pre_idx (f : Nat → Int) : ∀ L : List Nat, preSum (fun j => ((L[j]?).map f).getD 0) L.length = (L.map f).sum
  | [] => rfl
  | a :: r => by
    rw [List.length_cons, pre_shift, List.map_cons, List.sum_cons, ← pre_idx f r]
    rfl
section
variable {X : Cx}
theorem isB_of {L : List Nat} {tr : Nat → Bool} {j : Nat} {y : Value} (h : ∃ i, L[j]? = some i ∧ ∃ v, RelV v y ∧ v = .bl (tr i)) : y = .bool (((L[j]?).map tr).getD false) := by
  obtain ⟨i, hi, v, r, rfl⟩ := h
  rw [hi]
  exact r
theorem isI_of {L : List Nat} {val : Nat → Int} {j : Nat} {y : Value} (h : ∃ i, L[j]? = some i ∧ ∃ v, RelV v y ∧ v = .int (val i)) : ∃ tz, y = .int (((L[j]?).map val).getD 0) tz := by
  obtain ⟨i, hi, v, r, rfl⟩ := h
  rw [hi]
  exact r
variable {pins : List (Addr × Obj)} {σ : L2.St} {H1 : Hp} {P g : Addr} {t5 : Shared} {wr' fs' : List Addr} {St' : Nat → Shared → Prop} {L : List Nat} {pos : Pos} {Q : VK}
theorem any_endT {tr : Nat → Bool} (Sg : Stands X g t5 wr' fs' L.length (fun j y => ∃ i, L[j]? = some i ∧ ∃ v, RelV v y ∧ v = .bl (tr i)) St') (on : ∀ t', MovedV wr' fs' t5 t' → ∃ H2, Tabbed P H1 H2 ∧ Inv X pins σ H2 t') (q : ∀ H2, Tabbed P H1 H2 → Q (.bl (L.any tr)) H2) :
    wpAny (model X.prog X.w) X.A (spliced (backTo pos (starEach [] X.env))) (fun vs t6 => wpAny (model X.prog X.w) X.A (call (.builtin "any") (.ref g :: vs)) (EP X pins σ Q) X.xe t6) X.xe t5 := by
  refine Calls.spliced_nil (call_anyV ?_)
  refine Sg.walk.in4.self _ _ _ Sg.st ⟨g, _, _, _, _, _, _, rfl, Sg.walk.in4, Sg.st, fun j y hy => isB_of hy, fun t' mv => ?_⟩
  obtain ⟨H2, tb, J⟩ := on t' mv
  rw [any_idx]
  exact ⟨.bl _, H2, J, rfl, q H2 tb⟩
theorem all_endT {tr : Nat → Bool} (Sg : Stands X g t5 wr' fs' L.length (fun j y => ∃ i, L[j]? = some i ∧ ∃ v, RelV v y ∧ v = .bl (tr i)) St') (on : ∀ t', MovedV wr' fs' t5 t' → ∃ H2, Tabbed P H1 H2 ∧ Inv X pins σ H2 t') (q : ∀ H2, Tabbed P H1 H2 → Q (.bl (L.all tr)) H2) :
    wpAny (model X.prog X.w) X.A (spliced (backTo pos (starEach [] X.env))) (fun vs t6 => wpAny (model X.prog X.w) X.A (call (.builtin "all") (.ref g :: vs)) (EP X pins σ Q) X.xe t6) X.xe t5 := by
  refine Calls.spliced_nil (call_allV ?_)
  refine Sg.walk.in4.self _ _ _ Sg.st ⟨g, _, _, _, _, _, _, rfl, Sg.walk.in4, Sg.st, fun j y hy => isB_of hy, fun t' mv => ?_⟩
  obtain ⟨H2, tb, J⟩ := on t' mv
  rw [all_idx]
  exact ⟨.bl _, H2, J, rfl, q H2 tb⟩
theorem sum_endT {val : Nat → Int} (Sg : Stands X g t5 wr' fs' L.length (fun j y => ∃ i, L[j]? = some i ∧ ∃ v, RelV v y ∧ v = .int (val i)) St') (on : ∀ t', MovedV wr' fs' t5 t' → ∃ H2, Tabbed P H1 H2 ∧ Inv X pins σ H2 t') (q : ∀ H2, Tabbed P H1 H2 → Q (.int (L.map val).sum) H2) :
    wpAny (model X.prog X.w) X.A (spliced (backTo pos (starEach [] X.env))) (fun vs t6 => wpAny (model X.prog X.w) X.A (call (.builtin "sum") (.ref g :: vs)) (EP X pins σ Q) X.xe t6) X.xe t5 := by
  refine Calls.spliced_nil (call_sumV ?_)
  refine Sg.walk.in4.self _ _ _ Sg.st ⟨g, _, _, _, _, _, _, rfl, Sg.walk.in4, Sg.st, fun j y hy => isI_of hy, fun z => Nat.lt_irrefl _ (Sg.wlow _ z), fun z => Nat.lt_irrefl _ (Sg.flow _ z), fun i t2 h' tk st2 k2 => Sg.frame i t2 h' tk _ (Nat.le_refl _) st2 k2, fun t' tz os bare heap => ?_⟩
  obtain ⟨H2, tb, J⟩ := on t' ⟨os, bare, heap⟩
  refine ⟨.int _, H2, J, ⟨tz, rfl⟩, ?_⟩
  rw [pre_idx]
  exact q H2 tb
theorem items_vals {val : Nat → Int} {acc : Array Value} (h : ItemsOf (fun j y => ∃ i, L[j]? = some i ∧ ∃ v, RelV v y ∧ v = .int (val i)) acc L.length) : Vals (L.map fun i => V.int (val i)) acc.toList := by
  have go : ∀ (M : List Nat) (l : List Value), l.length = M.length → (∀ j y, l[j]? = some y → ∃ i, M[j]? = some i ∧ ∃ v, RelV v y ∧ v = .int (val i)) → Vals (M.map fun i => V.int (val i)) l := fun M => by
    induction M with
    | nil =>
      intro l hl _
      cases l with
      | nil => exact .nil
      | cons a r => cases hl
    | cons m r ih =>
      intro l hl hh
      cases l with
      | nil => cases hl
      | cons a s =>
        obtain ⟨i, hi, v, rv, rfl⟩ := hh 0 a rfl
        have e : m = i := Option.some.inj hi
        subst e
        exact .cons rv (ih s (Nat.succ.inj hl) fun j y hj => hh (j + 1) y hj)
  exact go L acc.toList (by rw [Array.length_toList]; exact h.1) fun j y hj => h.2 j y (by simpa using hj)
theorem tup_endT {val : Nat → Int} (Sg : Stands X g t5 wr' fs' L.length (fun j y => ∃ i, L[j]? = some i ∧ ∃ v, RelV v y ∧ v = .int (val i)) St') (on : ∀ t', MovedV wr' fs' t5 t' → ∃ H2, Tabbed P H1 H2 ∧ Inv X pins σ H2 t') (l9 : L.length ≤ sizeLine)
    (q : ∀ H2 l, Tabbed P H1 H2 → H2 l = none → Q (.ref l) (upd H2 l (.tup (L.map fun i => V.int (val i))))) :
    wpAny (model X.prog X.w) X.A (spliced (backTo pos (starEach [] X.env))) (fun vs t6 => wpAny (model X.prog X.w) X.A (call (.type "tuple") (.ref g :: vs)) (EP X pins σ Q) X.xe t6) X.xe t5 := by
  refine Calls.spliced_nil (call_tuple_genV (WalksV.down (A := X.A.in1.in1.in1) Sg.walk) l9 Sg.ty Sg.st Sg.low (fun z => Nat.lt_irrefl _ (Sg.wlow _ z)) (fun z => Nat.lt_irrefl _ (Sg.flow _ z)) (fun i t2 h' tk st2 k2 => Sg.frame i t2 h' tk _ (Nat.le_refl _) st2 k2) fun t' acc mv items => ?_)
  obtain ⟨H2, tb, J⟩ := on t' mv
  have rv := items_vals items
  have I2 : Inv X pins σ (upd H2 t'.heap.objs.size (.tup (L.map fun i => V.int (val i)))) { t' with heap := t'.heap.push { cls := .type "tuple", data := .seq acc } } :=
    J.laid (t' := t'.toks) (fun b o e => Heap.get?_push_of_some _ e) (Nat.le_refl _) (show ObjOk X.prog X.w _ _ _ (.tup _) from ⟨by rw [List.length_map]; exact l9, acc.toList, rv, by
      (have e : acc.toList.toArray = acc := by simp)
      rw [e]
      exact IsTup.new _ _⟩)
  exact ⟨.ref t'.heap.objs.size, _, I2, rfl, q H2 _ tb (J.hok.fresh (Nat.le_refl _))⟩
end
section
variable {X : Cx}
def tAnyG (X : Cx) (P : Addr) (scope : Scope) (ifs : List Expr) (elt : Expr) (ti : TI) : TE := fun σ H Q => ti σ H fun n Row H1 => ∃ (pz tr : Nat → Bool), Asks X scope σ H1 Row ifs elt pz (fun i v => v = .bl (tr i)) ∧ ∀ H2, Tabbed P H1 H2 → Q (.bl (((List.range n).filter pz).any tr)) H2
def tAllG (X : Cx) (P : Addr) (scope : Scope) (ifs : List Expr) (elt : Expr) (ti : TI) : TE := fun σ H Q => ti σ H fun n Row H1 => ∃ (pz tr : Nat → Bool), Asks X scope σ H1 Row ifs elt pz (fun i v => v = .bl (tr i)) ∧ ∀ H2, Tabbed P H1 H2 → Q (.bl (((List.range n).filter pz).all tr)) H2
def tSumG (X : Cx) (P : Addr) (scope : Scope) (ifs : List Expr) (elt : Expr) (ti : TI) : TE := fun σ H Q => ti σ H fun n Row H1 => ∃ (pz : Nat → Bool) (val : Nat → Int), Asks X scope σ H1 Row ifs elt pz (fun i v => v = .int (val i)) ∧ ∀ H2, Tabbed P H1 H2 → Q (.int (((List.range n).filter pz).map val).sum) H2
def tTupG (X : Cx) (P : Addr) (scope : Scope) (ifs : List Expr) (elt : Expr) (ti : TI) : TE := fun σ H Q => ti σ H fun n Row H1 => ∃ (pz : Nat → Bool) (val : Nat → Int), Asks X scope σ H1 Row ifs elt pz (fun i v => v = .int (val i)) ∧ n ≤ 1000 ∧
  ∀ H2 l, Tabbed P H1 H2 → H2 l = none → Q (.ref l) (upd H2 l (.tup (((List.range n).filter pz).map fun i => V.int (val i))))
variable {c P : Addr} {iter tgt elt : Expr} {ifs : List Expr} {p gpos pos : Pos} {scope : Scope} {ti : TI} {k : Nat}
theorem pe_anyG (hr : Room k X.A) (hg : Gl X "any") (hma : X.mg "any" = none) (TB : TabB X.base X.mg c P) (hcode : X.env.code = .ref c) (S : GenS0 X.env scope) (hi : IR X P iter tgt scope ti) (nofold : ∀ v, genFold iter X.env v = pure v)
    (he : starEach [genG elt iter tgt ifs scope gpos] X.env = (false, eval (genG elt iter tgt ifs scope gpos) X.env) :: starEach [] X.env := by rfl) : PE X (.Call (.Name "any" p) [genG elt iter tgt ifs scope gpos] [] pos) (tAnyG X P scope ifs elt ti) := by
  (refine ⟨fun pins s σ H Q I h => ?_⟩)
  refine wpAny_Call_Name_kw (ld_blt (u := .builtin "any") I hg hma (by decide +kernel) ?_)
  refine PyProof.Rows.callWith_builtin1 (id := "any") ?_ he (by rfl)
  rw [he]
  show wpAny _ _ (spliced ((false, eval (genG elt iter tgt ifs scope gpos) X.env) :: backTo pos (starEach [] X.env))) _ _ s
  refine Calls.spliced_cons (genexpD hr.hd S.co (closure_ok S.free) S.cell S.dot S.kind (by have := hr.dp; omega) ?_ nofold)
  refine hi.run pins s σ H _ _ I h fun H1 s0 hz I fp wr n Bd St I0 tab rdy _ ⟨pz, tr, ask, q⟩ => ?_
  exact gen_coreT (F := fun i v => v = .bl (tr i)) (pz := pz) I0 hr TB hcode S rdy tab (fun ce B mp Ok i bd G => ask.tst _ I0.hok ce B mp Ok i bd G) (fun ce B mp Ok i bd pi G => ask.elt _ I0.hok ce B mp Ok i bd pi G) (fun g t5 wr' fs' St' Sg on => any_endT (P := P) (H1 := H1) Sg on q)
theorem pe_allG (hr : Room k X.A) (hg : Gl X "all") (hma : X.mg "all" = none) (TB : TabB X.base X.mg c P) (hcode : X.env.code = .ref c) (S : GenS0 X.env scope) (hi : IR X P iter tgt scope ti) (nofold : ∀ v, genFold iter X.env v = pure v)
    (he : starEach [genG elt iter tgt ifs scope gpos] X.env = (false, eval (genG elt iter tgt ifs scope gpos) X.env) :: starEach [] X.env := by rfl) : PE X (.Call (.Name "all" p) [genG elt iter tgt ifs scope gpos] [] pos) (tAllG X P scope ifs elt ti) := by
  (refine ⟨fun pins s σ H Q I h => ?_⟩)
  refine wpAny_Call_Name_kw (ld_blt (u := .builtin "all") I hg hma (by decide +kernel) ?_)
  refine PyProof.Rows.callWith_builtin1 (id := "all") ?_ he (by rfl)
  rw [he]
  show wpAny _ _ (spliced ((false, eval (genG elt iter tgt ifs scope gpos) X.env) :: backTo pos (starEach [] X.env))) _ _ s
  refine Calls.spliced_cons (genexpD hr.hd S.co (closure_ok S.free) S.cell S.dot S.kind (by have := hr.dp; omega) ?_ nofold)
  refine hi.run pins s σ H _ _ I h fun H1 s0 hz I fp wr n Bd St I0 tab rdy _ ⟨pz, tr, ask, q⟩ => ?_
  exact gen_coreT (F := fun i v => v = .bl (tr i)) (pz := pz) I0 hr TB hcode S rdy tab (fun ce B mp Ok i bd G => ask.tst _ I0.hok ce B mp Ok i bd G) (fun ce B mp Ok i bd pi G => ask.elt _ I0.hok ce B mp Ok i bd pi G) (fun g t5 wr' fs' St' Sg on => all_endT (P := P) (H1 := H1) Sg on q)
theorem pe_sumG (hr : Room k X.A) (hg : Gl X "sum") (hma : X.mg "sum" = none) (TB : TabB X.base X.mg c P) (hcode : X.env.code = .ref c) (S : GenS0 X.env scope) (hi : IR X P iter tgt scope ti) (nofold : ∀ v, genFold iter X.env v = pure v)
    (he : starEach [genG elt iter tgt ifs scope gpos] X.env = (false, eval (genG elt iter tgt ifs scope gpos) X.env) :: starEach [] X.env := by rfl) : PE X (.Call (.Name "sum" p) [genG elt iter tgt ifs scope gpos] [] pos) (tSumG X P scope ifs elt ti) := by
  (refine ⟨fun pins s σ H Q I h => ?_⟩)
  refine wpAny_Call_Name_kw (ld_blt (u := .builtin "sum") I hg hma (by decide +kernel) ?_)
  refine PyProof.Rows.callWith_builtin1 (id := "sum") ?_ he (by rfl)
  rw [he]
  show wpAny _ _ (spliced ((false, eval (genG elt iter tgt ifs scope gpos) X.env) :: backTo pos (starEach [] X.env))) _ _ s
  refine Calls.spliced_cons (genexpD hr.hd S.co (closure_ok S.free) S.cell S.dot S.kind (by have := hr.dp; omega) ?_ nofold)
  refine hi.run pins s σ H _ _ I h fun H1 s0 hz I fp wr n Bd St I0 tab rdy _ ⟨pz, val, ask, q⟩ => ?_
  exact gen_coreT (F := fun i v => v = .int (val i)) (pz := pz) I0 hr TB hcode S rdy tab (fun ce B mp Ok i bd G => ask.tst _ I0.hok ce B mp Ok i bd G) (fun ce B mp Ok i bd pi G => ask.elt _ I0.hok ce B mp Ok i bd pi G) (fun g t5 wr' fs' St' Sg on => sum_endT (P := P) (H1 := H1) Sg on q)
theorem pe_tupG (hr : Room k X.A) (hg : Gl X "tuple") (hma : X.mg "tuple" = none) (TB : TabB X.base X.mg c P) (hcode : X.env.code = .ref c) (S : GenS0 X.env scope) (hi : IR X P iter tgt scope ti) (nofold : ∀ v, genFold iter X.env v = pure v)
    (he : starEach [genG elt iter tgt ifs scope gpos] X.env = (false, eval (genG elt iter tgt ifs scope gpos) X.env) :: starEach [] X.env := by rfl) : PE X (.Call (.Name "tuple" p) [genG elt iter tgt ifs scope gpos] [] pos) (tTupG X P scope ifs elt ti) := by
  (refine ⟨fun pins s σ H Q I h => ?_⟩)
  refine wpAny_Call_Name_kw (ld_blt (u := .type "tuple") I hg hma (by decide +kernel) ?_)
  refine PyProof.Rows.callWith_type1 (T := "tuple") ?_ he (by rfl)
  rw [he]
  show wpAny _ _ (spliced ((false, eval (genG elt iter tgt ifs scope gpos) X.env) :: backTo pos (starEach [] X.env))) _ _ s
  refine Calls.spliced_cons (genexpD hr.hd S.co (closure_ok S.free) S.cell S.dot S.kind (by have := hr.dp; omega) ?_ nofold)
  refine hi.run pins s σ H _ _ I h fun H1 s0 hz I fp wr n Bd St I0 tab rdy _ ⟨pz, val, ask, n9, q⟩ => ?_
  refine gen_coreT (F := fun i v => v = .int (val i)) (pz := pz) I0 hr TB hcode S rdy tab (fun ce B mp Ok i bd G => ask.tst _ I0.hok ce B mp Ok i bd G) (fun ce B mp Ok i bd pi G => ask.elt _ I0.hok ce B mp Ok i bd pi G) (fun g t5 wr' fs' St' Sg on => tup_endT (P := P) (H1 := H1) Sg on ?_ q)
  refine Nat.le_of_lt (small1000 (Nat.le_trans (List.length_filter_le _ _) ?_))
  rw [List.length_drop, List.length_range]
  omega
end
end V3
/-! A generator expression whose elements are new things: what is told of each lies in the heap. -/
namespace V3
open PySem.Spec PySem L2 PyProof.Rows GxR RZ
structure QuietH (prog : Program) (w : World) (ce : Env) (ifs : List Expr) (elt : Expr) (old wr fs : List Addr) (Bd : Nat → (Str → Option Value) → Prop) (pz : Nat → Bool) (F : Nat → Value → Heap → Prop) (ref : Heap) (fr : Option (List Env)) (D U : Nat) : Prop where
  tests : ∀ (B : Around) Ex i (t : Shared) mp, B.handled = none → B.frames = fr → B.depth ≤ D → B.units ≤ U → AllBare t.gens → Bd i mp → t.heap.Ns ce.locals mp → KeptO old wr fs ref t.heap → (∀ b ∈ wr, ∃ o, t.heap.get? b = some o) →
    wpAny (model prog w) B (testsOf ifs ce) (fun ok t' => ok = pz i ∧ KeptG fs t t') Ex t
  elt : ∀ (B : Around) Ex i (t : Shared) mp, B.handled = none → B.frames = fr → B.depth ≤ D → B.units ≤ U → AllBare t.gens → Bd i mp → pz i = true → t.heap.Ns ce.locals mp → KeptO old wr fs ref t.heap → (∀ b ∈ wr, ∃ o, t.heap.get? b = some o) →
    wpAny (model prog w) B (eval elt ce) (fun y t' => F i y t'.heap ∧ KeptG fs t t') Ex t
def protoH (C : Addr) (fp old wr fs : List Addr) (pz : Nat → Bool) (n : Nat) (F : Nat → Value → Heap → Prop) : Protocol := fun left t0 v t go =>
  (∃ i, (passing pz n 0)[(passing pz n 0).length - 1 - left]? = some i ∧ F i v t.heap) ∧ SinceG C wr fs t0 t ∧
    ∀ u : Shared, (∀ b ∈ C :: (fp ++ old), ∀ o, t.heap.get? b = some o → u.heap.get? b = some o) → AllBare u.gens → go (.send .none) u
structure WalksH (prog : Program) (w : World) (A : Around) (I : Addr) (wr fs : List Addr) (n : Nat) (P : Nat → Value → Heap → Prop) (St : Nat → Shared → Prop) : Prop where
  item : ∀ i (t : Shared) (Q : Option Value → Shared → Prop) (E : Value → Shared → Prop), i < n → St i t → (∀ v t', P i v t'.heap → St (i + 1) t' → MovedV wr fs t t' → Q (some v) t') → wpAny (model prog w) A (pyNext (.ref I)) Q E t
  done : ∀ (t : Shared) (Q : Option Value → Shared → Prop) (E : Value → Shared → Prop), St n t → (∀ t', MovedV wr fs t t' → Q none t') → wpAny (model prog w) A (pyNext (.ref I)) Q E t
  self : ∀ (t : Shared) (Q : Value → Shared → Prop) (E : Value → Shared → Prop), St 0 t → Q (.ref I) t → wpAny (model prog w) A (pyIter (.ref I)) Q E t
section
variable {w : World} {prog : Program} {A : Around}
theorem WalksH.down {I : Addr} {wr fs : List Addr} {n : Nat} {P : Nat → Value → Heap → Prop} {St : Nat → Shared → Prop} (Wk : WalksH prog w A.in1 I wr fs n P St) : WalksH prog w A I wr fs n P St :=
  ⟨fun i t Q E il st k => wpAny_of_in1 (Wk.item i t Q E il st k), fun t Q E st k => wpAny_of_in1 (Wk.done t Q E st k), fun t Q E st k => wpAny_of_in1 (Wk.self t Q E st k)⟩
theorem WalksH.in4 {I : Addr} {wr fs : List Addr} {n : Nat} {P : Nat → Value → Heap → Prop} {St : Nat → Shared → Prop} (Wk : WalksH prog w A.in4 I wr fs n P St) : WalksH prog w A.in1 I wr fs n P St :=
  WalksH.down (A := A.in1) (WalksH.down (A := A.in1.in1) (WalksH.down (A := A.in1.in1.in1) Wk))
/-- the generator at a, number g, before its j-th thing -/
def AtH (prog : Program) (w : World) (A : Around) (a : Addr) (g : Nat) (C : Addr) (fp old wr fs : List Addr) (pz : Nat → Bool) (n : Nat) (F : Nat → Value → Heap → Prop) (j : Nat) (t : Shared) : Prop :=
  t.heap.IsGen a g ∧ t.heap.NoLimit ∧ AllBare t.gens ∧ ∃ gs, t.gens[g]? = some gs ∧ ∀ u : Shared, (∀ b ∈ C :: (fp ++ old), ∀ o, t.heap.get? b = some o → u.heap.get? b = some o) → AllBare u.gens →
    gs.Goes (model prog w) A.in1 (endB C wr fs) (protoH C fp old wr fs pz n F) ((passing pz n 0).length - j) (.send .none) u
/-- the generator stands as it stood where one new object is written -/
theorem AtH.frame {prog : Program} {w : World} {A : Around} {a S : Addr} {g : Nat} {C : Addr} {fp old wr fs : List Addr} {pz : Nat → Bool} {n : Nat} {F : Nat → Value → Heap → Prop} {j : Nat} {t : Shared} {h' : Heap} {tk : Nat}
    (st : AtH prog w A a g C fp old wr fs pz n F j t) (k : ∀ b o, b ≠ S → t.heap.get? b = some o → h'.get? b = some o) (na : a ≠ S) (nc : cStatics ≠ S) (off : ∀ b ∈ C :: (fp ++ old), b ≠ S) : AtH prog w A a g C fp old wr fs pz n F j { t with heap := h', toks := tk } := by
  obtain ⟨⟨o, nm, qn, ho, more⟩, ⟨mc, nsc, nol⟩, bare, gs, at_, goes⟩ := st
  exact ⟨⟨o, nm, qn, k a o na ho, more⟩, ⟨mc, nsc.at' fun o it => k _ o nc it, nol⟩, bare, gs, at_, fun u hal bu => goes u (fun b hb o it => hal b hb o (k b o (off b hb) it)) bu⟩
theorem seg_loopH {elt iter : Expr} {tgt : Expr} {ifs : List Expr} {scope : Scope} {pos : Pos} {I : Addr} {fp old wr fs : List Addr} {n : Nat} {Bd : Nat → (Str → Option Value) → Prop} {St : Nat → Heap → Prop} {ce : Env} {fr : Option (List Env)}
    (quiet0 : A.handled = none) (frA : (A.over (loopD elt tgt iter ifs scope pos I ce) []).frames = fr) (Wk : Draws2 prog w tgt ce I fp wr n Bd St) (pz : Nat → Bool) (F : Nat → Value → Heap → Prop) (ref : Heap)
    (noco : ce.scope.isCoroutine = false) (apart : ce.locals ∉ fp) (apartO : ce.locals ∉ old) (sepF : ∀ b ∈ fp, b ∉ fs) (hQ : QuietH prog w ce ifs elt old wr fs Bd pz F ref fr (A.depth + 1) (A.units + 3)) (live : ∀ i h, St i h → ∀ b ∈ wr, ∃ o, h.get? b = some o) :
    ∀ (k i : Nat) (t0 t : Shared) (mp : Str → Option Value), n - i = k → i ≤ n → St i t.heap → t.heap.Ns ce.locals mp → SinceG ce.locals wr fs t0 t →
      KeptO old wr fs ref t.heap →
      Seg (model prog w) A (endB ce.locals wr fs) (protoH ce.locals fp old wr fs pz n F) (passing pz n i).length t0 (loopD elt tgt iter ifs scope pos I ce) ((model prog w).den (loopD elt tgt iter ifs scope pos I ce)) [] t := by
  have q0 : (A.over (loopD elt tgt iter ifs scope pos I ce) []).handled = none := quiet0
  have qd : (A.over (loopD elt tgt iter ifs scope pos I ce) []).depth ≤ A.depth + 1 := Nat.le_of_eq rfl
  have qu : (A.over (loopD elt tgt iter ifs scope pos I ce) []).units ≤ A.units + 3 := Nat.le_of_eq rfl
  have offW : ce.locals ∉ wr := fun z => apart (Wk.sub _ z)
  intro k
  induction k with
  | zero =>
    intro i t0 t mp ek il st ns since kept
    obtain rfl : i = n := by omega
    show Seg _ A _ _ _ t0 _ ((compTurn (.GeneratorExp elt [⟨tgt, iter, ifs, 0⟩] scope pos) 0 (.ref I) .none ce).onRaise (leaving ce)) [] t
    (rw [compTurn_gen, Sem.onRaise_eq_wrap])
    (refine seg_bind_wrap (wpAny_standAt ?_))
    refine seg_bind_wrap (Wk.done _ q0 t _ _ st fun hp tk stay => ?_)
    exact seg_end (.ok .next) ⟨rfl, by rw [passing_end]; rfl, since.step fun b o _ nw it => stay b o nw it⟩
  | succ k again =>
    intro i t0 t mp ek il st ns since kept
    have more : i < n := by omega
    show Seg _ A _ _ _ t0 _ ((compTurn (.GeneratorExp elt [⟨tgt, iter, ifs, 0⟩] scope pos) 0 (.ref I) .none ce).onRaise (leaving ce)) [] t
    (rw [compTurn_gen, Sem.onRaise_eq_wrap])
    (refine seg_bind_wrap (wpAny_standAt ?_))
    refine seg_bind_wrap (Wk.one _ q0 i t mp _ _ more st ns fun v t1 h1 => ?_)
    refine seg_bind_wrap (wpAny_mono h1 (fun _ t2 h2 => ?_) fun _ _ z => z.elim)
    refine seg_bind_wrap (wpAny_mono h2 (fun _ t3 h3 => ?_) fun _ _ z => z.elim)
    obtain ⟨hb, tk, mp', rfl, bound, stb, nsb, stayB⟩ := h3
    have keptB : KeptO old wr fs ref hb := kept.exact fun b hm nw o it => stayB b o (fun z => apartO (z ▸ hm)) nw it
    have bareT : AllBare t.gens := since.bare
    refine seg_bind_wrap (GenW.wpAny_gsz (n := t.gens.size) (Nat.le_refl _) (wpAny_mono (hQ.tests _ _ i _ _ q0 frA qd qu bareT bound nsb keptB (live _ _ stb)) (fun ok tc kc szc => ?_) fun _ _ z => z))
    obtain ⟨rfl, kc⟩ := kc
    have stc : St (i + 1) tc.heap := Wk.frame _ _ _ stb fun b hm o it => (kc.heap b o it).1 (sepF b hm)
    have nsc := kc.heap.ns nsb
    have sinceC : SinceG ce.locals wr fs t0 tc := (since.step stayB).more szc kc
    cases ep : pz i with
    | false =>
      rw [passing_false more ep]
      (simp only [Bool.false_eq_true, if_false])
      exact seg_again rfl (again (i + 1) t0 _ _ (by omega) more stc nsc sinceC (keptB.km kc.heap))
    | true =>
      rw [passing_true more ep, List.length_cons]
      simp only [if_true]
      have out : ∀ v, yieldOut ce v = yieldValue v := fun v => by simp only [yieldOut, noco, Bool.false_eq_true, if_false]
      simp only [out]
      (rw [Sem.bind_eq_wrap', Sem.bind_eq_wrap', Sem.wrap_wrap, Sem.wrap_wrap])
      refine seg_wrap (GenW.wpAny_gsz (n := tc.gens.size) (Nat.le_refl _) (wpAny_mono (hQ.elt _ _ i _ _ q0 frA qd qu sinceC.bare bound ep nsc (keptB.km kc.heap) (live _ _ stc)) (fun y td hd szd => ?_) fun _ _ z => z))
      obtain ⟨fy, kd⟩ := hd
      refine seg_at (seg_yield rfl rfl rfl ⟨⟨i, passing_here more ep, fy⟩, sinceC.more szd kd, fun u hal bu => ?_⟩)
      refine seg_again rfl (again (i + 1) u u _ (by omega) more (Wk.frame _ _ _ stc fun b hm o it => hal b (List.mem_cons_of_mem _ (List.mem_append_left _ hm)) o ((kd.heap b o it).1 (sepF b hm)))
        ((kd.heap.ns nsc).at' fun o it => hal _ (List.mem_cons_self ..) o it) (SinceG.refl bu) (((keptB.km kc.heap).km kd.heap).exact fun b hm _ o it => hal b (List.mem_cons_of_mem _ (List.mem_append_right _ hm)) o it))
theorem seg_startH {elt iter : Expr} {tgt : Expr} {ifs : List Expr} {scope : Scope} {pos : Pos} {I : Addr} {fp old wr fs : List Addr} {n : Nat} {Bd : Nat → (Str → Option Value) → Prop} {St : Nat → Heap → Prop} {ce : Env} {fr : Option (List Env)}
    (quiet0 : A.handled = none) (frA : (A.over (loopD elt tgt iter ifs scope pos I ce) []).frames = fr) (Wk : Draws2 prog w tgt ce I fp wr n Bd St) (pz : Nat → Bool) (F : Nat → Value → Heap → Prop) (ref : Heap)
    (noco : ce.scope.isCoroutine = false) (apart : ce.locals ∉ fp) (apartO : ce.locals ∉ old) (sepF : ∀ b ∈ fp, b ∉ fs) (hQ : QuietH prog w ce ifs elt old wr fs Bd pz F ref fr (A.depth + 1) (A.units + 3)) (live : ∀ i h, St i h → ∀ b ∈ wr, ∃ o, h.get? b = some o)
    (t0 t : Shared) (mp : Str → Option Value) (st : St 0 t.heap) (ns : t.heap.Ns ce.locals mp) (since : SinceG ce.locals wr fs t0 t) (kept : KeptO old wr fs ref t.heap) :
    Seg (model prog w) A (endB ce.locals wr fs) (protoH ce.locals fp old wr fs pz n F) (passing pz n 0).length t0 (startD elt tgt iter ifs scope pos I ce) ((model prog w).den (startD elt tgt iter ifs scope pos I ce)) [] t := by
  have q0 : (A.over (startD elt tgt iter ifs scope pos I ce) []).handled = none := quiet0
  have lp := seg_loopH (iter := iter) (scope := scope) (pos := pos) quiet0 frA Wk pz F ref noco apart apartO sepF hQ live n 0 t0 t mp (Nat.sub_zero _) (Nat.zero_le _) st ns since kept
  show Seg _ A _ _ _ t0 _ ((compStart (.GeneratorExp elt [⟨tgt, iter, ifs, 0⟩] scope pos) 0 (.ref I) .none ce).onRaise (leaving ce)) [] t
  unfold compStart
  rw [Sem.onRaise_eq_wrap]
  show Seg _ A _ _ _ t0 _ ((ask >>= _).wrap _ _ _ _) [] t
  (refine seg_bind_wrap (wpAny_askSetting ?_))
  split
  · exact seg_again rfl lp
  · first
      | exact seg_bind_wrap (wpAny_rule (seg_bind_wrap (wpAny_standAt (seg_bind_wrap (Wk.self _ q0 t _ _ st (seg_again rfl lp))))))
      | (refine seg_bind_wrap (wpAny_rule ?_)
         show Seg _ A _ _ _ t0 _ ((standAt iter.pos >>= _).wrap _ _ _ _) [] t
         exact seg_bind_wrap (wpAny_standAt (seg_bind_wrap (Wk.self _ q0 t _ _ st (seg_again rfl lp)))))
theorem AtH.fresh {elt iter : Expr} {tgt : Expr} {ifs : List Expr} {scope : Scope} {pos : Pos} {I a : Addr} {g : Nat} {fp old wr fs : List Addr} {n : Nat} {Bd : Nat → (Str → Option Value) → Prop} {St : Nat → Heap → Prop} {ce : Env} {fr : Option (List Env)}
    (quiet0 : A.handled = none) (frA : (A.in1.over (loopD elt tgt iter ifs scope pos I ce) []).frames = fr) (Wk : Draws2 prog w tgt ce I fp wr n Bd St) (pz : Nat → Bool) (F : Nat → Value → Heap → Prop)
    (noco : ce.scope.isCoroutine = false) (apart : ce.locals ∉ fp) (apartO : ce.locals ∉ old) (sepF : ∀ b ∈ fp, b ∉ fs) {t : Shared} {mp : Str → Option Value} (hQ : QuietH prog w ce ifs elt old wr fs Bd pz F t.heap fr (A.depth + 1) (A.units + 4)) (live : ∀ i h, St i h → ∀ b ∈ wr, ∃ o, h.get? b = some o)
    (gen : t.heap.IsGen a g) (new : t.gens[g]? = some (.fresh (startD elt tgt iter ifs scope pos I ce))) (st : St 0 t.heap) (ns : t.heap.Ns ce.locals mp) (lim : t.heap.NoLimit) (bare : AllBare t.gens) : AtH prog w A a g ce.locals fp old wr fs pz n F 0 t :=
  ⟨gen, lim, bare, _, new, fun u hal bu => ⟨rfl, seg_startH (A := A.in1) quiet0 frA Wk pz F t.heap noco apart apartO sepF hQ live u u mp (Wk.frame _ _ _ st fun b hm o it => hal b (List.mem_cons_of_mem _ (List.mem_append_left _ hm)) o it)
    (ns.at' fun o it => hal _ (List.mem_cons_self ..) o it) (SinceG.refl bu) fun b hm _ o it => ⟨fun _ => hal b (List.mem_cons_of_mem _ (List.mem_append_right _ hm)) o it, o.slots, hal b (List.mem_cons_of_mem _ (List.mem_append_right _ hm)) o it⟩⟩⟩
theorem walksH (quiet0 : A.handled = none) (a : Addr) (g : Nat) (C : Addr) (fp old wr fs : List Addr) (pz : Nat → Bool) (n : Nat) (F : Nat → Value → Heap → Prop) (ac : a ≠ C) (aw : a ∉ wr) (af : a ∉ fs)
    (room : A.depth < recursionLimit) (csC : cStatics ≠ C) (csW : cStatics ∉ wr) (csF : cStatics ∉ fs) :
    WalksH prog w A a (C :: wr) fs (passing pz n 0).length (fun j y h => ∃ i, (passing pz n 0)[j]? = some i ∧ F i y h) (AtH prog w A a g C fp old wr fs pz n F) where
  item := fun j t Q E jl st want => by
    obtain ⟨gen, lim, bare, gs, at_, goes⟩ := st
    obtain ⟨r, hr⟩ : ∃ r, (passing pz n 0).length - j = r + 1 := ⟨(passing pz n 0).length - j - 1, by omega⟩
    rw [hr] at goes
    have gl : g < t.gens.size := (Array.getElem?_eq_some_iff.mp at_).1
    refine wpAny_pyNext_genexpQ (P := fun k t0 t1 => k = 0 ∧ SinceG C wr fs t0 t1) quiet0 lim room gen at_ (goes _ (fun _ _ _ it => it) (bare_set bare rfl)) (fun v t1 gs1 b1 told => ?_) (fun t1 ended hp keep => ?_)
    · obtain ⟨⟨i, hi, fv⟩, since, go⟩ := told
      rw [show (passing pz n 0).length - 1 - (r + 1 - 1) = j by omega] at hi
      have gl1 : g < t1.gens.size := by
        have := since.size
        rw [set_size] at this
        omega
      have g1 : (t1.setGen g gs1).gens[g]? = some gs1 := set_at gl1
      obtain ⟨o, nm, qn, ho, more⟩ := gen
      obtain ⟨mc, nsc, nol⟩ := lim
      refine want v _ ⟨i, hi, fv⟩ ⟨⟨o, nm, qn, (since.heap a o ac aw ho).1 af, more⟩, ⟨mc, nsc.at' fun o it => (since.heap cStatics o csC csW it).1 csF, nol⟩, bare_set since.bare b1, gs1, g1, fun u hal bu => ?_⟩
        ⟨since.os, bare_set since.bare b1, fun b o hb it => since.heap b o (fun z => hb (z ▸ List.mem_cons_self ..)) (fun z => hb (List.mem_cons_of_mem _ z)) it⟩
      rw [show (passing pz n 0).length - (j + 1) = r by omega]
      exact go u hal bu
    · exact absurd ended.1 (Nat.succ_ne_zero r)
  done := fun t Q E st want => by
    obtain ⟨gen, lim, bare, gs, at_, goes⟩ := st
    rw [Nat.sub_self] at goes
    refine wpAny_pyNext_genexpQ (P := fun k t0 t1 => k = 0 ∧ SinceG C wr fs t0 t1) quiet0 lim room gen at_ (goes _ (fun _ _ _ it => it) (bare_set bare rfl)) (fun v t1 gs1 b1 told => ?_) (fun t1 ended hp keep => ?_)
    · obtain ⟨_, since, go⟩ := told
      exact (go t1 (fun _ _ _ it => it) since.bare).elim
    · obtain ⟨_, since⟩ := ended
      exact want _ ⟨since.os, bare_set since.bare rfl, fun b o hb it => by
        obtain ⟨p1, sl, p2⟩ := since.heap b o (fun z => hb (z ▸ List.mem_cons_self ..)) (fun z => hb (List.mem_cons_of_mem _ z)) it
        exact ⟨fun nf => keep b o (p1 nf), sl, keep b _ p2⟩⟩
  self := fun _ _ _ st want => wpAny_pyIter_gen st.1 want
end
section
variable {w : World} {prog : Program} {A : Around} {E : Value → Shared → Prop} {s : Shared}
/-- what the maker of such a generator has to know, behind the code object and the builtins -/
def MadeH (prog : Program) (w : World) (A : Around) (env : Env) (elt iter tgt : Expr) (ifs : List Expr) (scope : Scope) (cl : List (Str × Addr)) (pos : Pos) (Q : Value → Shared → Prop) (it code : Value) (bi : Addr) (t : Shared) : Prop :=
  AllBare t.gens ∧ ∃ (I : Addr) (fp wr fs : List Addr) (n : Nat) (Bd : Nat → (Str → Option Value) → Prop) (St : Nat → Heap → Prop) (pz : Nat → Bool) (F : Nat → Value → Heap → Prop), it = .ref I ∧ Draws2 prog w tgt (genEnv scope cl t.heap.objs.size code bi env) I fp wr n Bd St ∧ St 0 t.heap ∧ (∀ i h, St i h → ∀ b ∈ wr, ∃ o, h.get? b = some o) ∧
    (∀ b ∈ fp, b < t.heap.objs.size) ∧ t.heap.NoLimit ∧ cStatics ∉ wr ∧ (∀ b ∈ fs, b ≤ t.heap.objs.size) ∧ (∀ b ∈ fp, b ∉ fs) ∧ cStatics ∉ fs ∧
    (∀ ref : Heap, (∀ b o, t.heap.get? b = some o → ref.get? b = some o) →
      QuietH prog w (genEnv scope cl t.heap.objs.size code bi env) ifs elt (List.range t.heap.objs.size) wr fs Bd pz F ref (A.in4.in1.over (loopD elt tgt iter ifs scope pos I (genEnv scope cl t.heap.objs.size code bi env)) []).frames (A.depth + 1) (A.units + 8)) ∧
    ∀ a hp tk gs, gs.bare = true → t.heap.objs.size < a → hp.objs.size = a + 1 → (∀ b o, t.heap.get? b = some o → hp.get? b = some o) →
      WalksH prog w A.in4 a (t.heap.objs.size :: wr) fs (passing pz n 0).length (fun j y h => ∃ i, (passing pz n 0)[j]? = some i ∧ F i y h) (AtH prog w A.in4 a t.gens.size t.heap.objs.size fp (List.range t.heap.objs.size) wr fs pz n F) →
      AtH prog w A.in4 a t.gens.size t.heap.objs.size fp (List.range t.heap.objs.size) wr fs pz n F 0 { t with gens := t.gens.push gs, toks := tk, heap := hp } → Q (.ref a) { t with gens := t.gens.push gs, toks := tk, heap := hp }
theorem genexpH {env : Env} {elt iter : Expr} {tgt : Expr} {ifs : List Expr} {scope : Scope} {cl : List (Str × Addr)} {pos : Pos} {Q : Value → Shared → Prop}
    (quiet0 : A.handled = none) (noco : scope.isCoroutine = false) (clo : closureFor scope env = pure cl) (nocell : ∀ y ∈ scope.names, y.2 ≠ .cell) (dot0 : scope.names.lookup (".0" : Str) = some NameKind.local)
    (kd : scope.kind = .function) (room : A.depth < recursionLimit)
    (h : wpAny (model prog w) A (eval iter env) (fun xv t1 => wpAny (model prog w) A (pyIter xv) (fun it t2 => t2.heap.NoLimit ∧
      wpAny (model prog w) A (genexprCode env pos (env.qual ++ "<genexpr>") scope) (fun code t3 => wpAny (model prog w) A (builtinsFor env.globals env.builtins) (fun bi t4 => MadeH prog w A env elt iter tgt ifs scope cl pos Q it code bi t4) E t3) E t2) E t1) E s)
    (nofold : ∀ v, genFold iter env v = pure v) : wpAny (model prog w) A (eval (.GeneratorExp elt [⟨tgt, iter, ifs, 0⟩] scope pos) env) Q E s := by
  refine wpAny_GeneratorExp_make noco clo nocell dot0 kd room (wpAny_mono h (fun xv t1 a1 => wpAny_mono a1 (fun it t2 a2 => ⟨a2.1, wpAny_mono a2.2 (fun code t3 a3 => wpAny_mono a3 (fun bi t4 a4 => ?_)
    fun _ _ z => z) fun _ _ z => z⟩) fun _ _ z => z) fun _ _ z => z) nofold
  obtain ⟨bare, I, fp, wr, fs, n, Bd, St, pz, F, rfl, Wk, st, live, low, lim, csW, lowF, sepF, csF, hQ, want⟩ := a4
  have cl4 : cStatics < t4.heap.objs.size := by
    obtain ⟨_, q, _⟩ := lim
    exact q.lt
  intro hp nsp same
  have sz : hp.objs.size = t4.heap.objs.size + 1 := by rw [same.1, Heap.size_push]
  have keep : ∀ b o, t4.heap.get? b = some o → hp.get? b = some o := fun b o it => same.extBut b o (Nat.ne_of_lt (Heap.lt_size it)) (Heap.get?_push_of_some _ it)
  have inR : ∀ b ∈ wr, b ∈ List.range t4.heap.objs.size := fun b hb => List.mem_range.mpr (low b (Wk.sub b hb))
  have nC : hp.objs.size ≠ t4.heap.objs.size := by
    rw [sz]
    exact Nat.succ_ne_self _
  have nR : hp.objs.size ∉ List.range t4.heap.objs.size := fun z => by
    have := List.mem_range.mp z
    omega
  have keep5 : ∀ b o, t4.heap.get? b = some o → (hp.push { cls := .type "generator", data := .fields #[.int t4.gens.size 0, .str "<genexpr>" (t4.toks + 1), .str (env.qual ++ "<genexpr>") (t4.toks + 1 + 1)] }).get? b = some o :=
    fun b o it => Heap.get?_push_of_some _ (keep b o it)
  refine want _ _ _ _ rfl (by omega) (by rw [Heap.size_push]) keep5 (walksH (A := A.in4) quiet0 _ _ _ fp _ wr fs pz n F nC (fun z => nR (inR _ z)) (fun z => by have h9 : (hp.objs.size : Nat) ≤ t4.heap.objs.size := lowF _ z; omega) room (Nat.ne_of_lt cl4) csW csF) ?_
  refine AtH.fresh (A := A.in4) (ce := genEnv scope cl t4.heap.objs.size code bi env) (mp := fun y => if y = ".0" then some (.ref I) else none) quiet0 rfl
    Wk pz F noco
    (fun z => Nat.lt_irrefl _ (low _ z)) (fun z => Nat.lt_irrefl _ (List.mem_range.mp z)) sepF (hQ _ keep5) live ⟨_, _, _, Heap.get?_push_size _ rfl, rfl, rfl, rfl⟩ (Array.getElem?_push_size ..) (Wk.frame _ _ _ st fun b _ o it => keep5 b o it) (nsp.push _) (lim.keeps keep5) (bare.push rfl)
end
def GEH (X : Cx) (ce : Env) (B : Around) (Ok : Shared → Prop) (e : Expr) (P : V → Heap → Prop) : Prop :=
  ∀ (Ex : Value → Shared → Prop) (t : Shared), Ok t → wpAny (model X.prog X.w) B (eval e ce) (fun u t' => (∃ v, RelV v u ∧ P v t'.heap) ∧ KeptG (frs (ce :: X.stack)) t t') Ex t
/-- the frame, and what the new things of its calls stay away from -/
structure GFH (X : Cx) (H : Hp) (h : Heap) (σ : L2.St) (scope : Scope) (ce : Env) (B : Around) (mp : Str → Option Value) (Ok : Shared → Prop) (bad : List Addr) : Prop where
  g : GF X H h σ scope ce B mp Ok
  bad : ∀ t, Ok t → ∀ b ∈ bad, (∃ o, t.heap.get? b = some o) ∧ H b = none
  old : ∀ t, Ok t → ∀ b o, h.get? b = some o → ∃ o', t.heap.get? b = some o'
/-- what is known, and new tuples beside -/
def mergeN (h : Heap) (H : Hp) (P : Addr) (ps : Array Value) (N : Hp) : Hp := fun b => if b = P then some (.tbl ps) else match H b with
  | some u => some u
  | none => if (h.get? b).isSome then none else N b
theorem inv_genN {X : Cx} {pins : List (Addr × Obj)} {σ : L2.St} {H : Hp} {s : Shared} {P : Addr} {ps more : Array Value} {t' : Shared} (I : Inv X pins σ H s) (hP : H P = some (.tbl ps)) (os : t'.os = s.os) (bare : AllBare t'.gens)
    (k : ∀ b o, b ≠ P → s.heap.get? b = some o → (b ∉ frs X.stack → t'.heap.get? b = some o) ∧ ∃ sl, t'.heap.get? b = some { o with slots := sl })
    (hm : t'.heap.get? P = some { cls := .none, data := .fields (ps ++ more) }) (N : Hp) (hN : ∀ b u, N b = some u → ∃ o xs, u = .frz o (.tup xs) ∧ ObjOk X.prog X.w N t'.heap b u) :
    ∃ H2, H2 P = some (.tbl (ps ++ more)) ∧ (∀ b u, b ≠ P → H b = some u → H2 b = some u) ∧ (∀ b u, H b = none → s.heap.get? b = none → N b = some u → H2 b = some u) ∧ Inv X pins σ H2 t' := by
  have nP : ∀ b u, H b = some u → (∀ q, u ≠ .tbl q) → b ≠ P := fun b u e q zz => by
    rw [zz, hP] at e
    (exact q ps (Option.some.inj e).symm)
  have nN : ∀ b, H b = none → b ≠ P := fun b e zz => by
    rw [zz, hP] at e
    cases e
  have m1 : mergeN s.heap H P (ps ++ more) N P = some (.tbl (ps ++ more)) := if_pos rfl
  have m2 : ∀ b u, b ≠ P → H b = some u → mergeN s.heap H P (ps ++ more) N b = some u := fun b u n e => by
    unfold mergeN
    rw [if_neg n, e]
  have m3 : ∀ b, H b = none → mergeN s.heap H P (ps ++ more) N b = if (s.heap.get? b).isSome then none else N b := fun b e => by
    unfold mergeN
    rw [if_neg (nN b e), e]
  have exactly : ∀ b u o, H b = some u → b ≠ P → s.heap.get? b = some o → t'.heap.get? b = some o := fun b u o e n it => (k b o n it).1 fun z => by
    rw [I.stkFree b z] at e
    cases e
  have un : Un (frs X.stack) [] H (mergeN s.heap H P (ps ++ more) N) s.heap t'.heap := by
    refine ⟨fun b o it e nf _ => (k b o (nN b e) it).1 nf, fun b o it e _ _ => (k b o (nN b e) it).2, fun b o it e _ => by rw [m3 b e, it]; rfl, fun b o it _ => ?_, fun b xs e => m2 b _ (nP b _ e (fun q z => by cases z)) e,
      fun b o u e => m2 b _ (nP b _ e (fun q z => by cases z)) e, fun b qs e => ?_⟩
    · by_cases hb : b = P
      · exact ⟨_, by rw [hb]; exact hm⟩
      · obtain ⟨_, sl, z⟩ := k b o hb it
        exact ⟨_, z⟩
    · by_cases hb : b = P
      · rw [hb, hP] at e
        cases e
        exact ⟨more, by rw [hb]; exact m1⟩
      · exact ⟨#[], by rw [m2 b _ hb e]; simp⟩
  have ok : HOk X.prog X.w (mergeN s.heap H P (ps ++ more) N) t'.heap := by
    intro b u e
    by_cases hb : b = P
    · subst hb
      rw [m1] at e
      cases e
      exact hm
    · cases eh : H b with
      | some u2 =>
        rw [m2 b u2 hb eh] at e
        cases e
        refine (I.hok b _ eh).stay (fun d v hd q => ?_) (fun d q => m2 d _ (nP d _ q (fun q z => by cases z)) q) fun d xs q => m2 d _ (nP d _ q (fun q z => by cases z)) q
        rcases hd with (z | z)
        · subst z
          exact exactly _ _ v eh hb q
        · exact exactly d _ v z (nP d _ z (fun q z => by cases z)) q
      | none =>
        rw [m3 b eh] at e
        split at e
        · cases e
        · obtain ⟨o, xs, rfl, hh⟩ := hN b u e
          refine hh.stay (fun d v _ q => q) (fun d q => ?_) fun d xs q => ?_
          · obtain ⟨_, _, z, _⟩ := hN d _ q
            cases z
          · obtain ⟨_, _, z, _⟩ := hN d _ q
            cases z
  have J := I.call (h' := t'.heap) (g' := t'.gens) (d' := t'.drawn) (t' := t'.toks) (ch := []) un ok bare (fun b z => absurd z (by simp))
  rw [sh_eta s t' os] at J
  refine ⟨_, m1, m2, fun b u e e2 n => ?_, J⟩
  rw [m3 b e, e2]
  exact n
/-- a generator that stands: it walks, its own things lie below what is new, and new things written leave it -/
structure StandsH (X : Cx) (g : Addr) (t5 : Shared) (wr fs : List Addr) (n : Nat) (Pv : Nat → Value → Heap → Prop) (St : Nat → Shared → Prop) : Prop where
  walk : WalksH X.prog X.w X.A.in4 g wr fs n Pv St
  st : St 0 t5
  low : g < t5.heap.objs.size
  wlow : ∀ b ∈ wr, b < t5.heap.objs.size
  flow : ∀ b ∈ fs, b < t5.heap.objs.size
  frame : ∀ i (t2 : Shared) (h' : Heap) (tk S : Nat), t5.heap.objs.size ≤ S → St i t2 → (∀ b o, b ≠ S → t2.heap.get? b = some o → h'.get? b = some o) → St i { t2 with heap := h', toks := tk }
  ty : ∀ i t2, St i t2 → t2.TypeIs (.ref g) "generator"
section
variable {X : Cx}
theorem gen_coreH {pins : List (Addr × Obj)} {σ : L2.St} {H1 : Hp} {s0 : Shared} {hz : Heap} {c P I : Addr} {elt iter tgt : Expr} {ifs : List Expr} {pz : Nat → Bool} {scope : Scope} {gpos : Pos} {fp wr : List Addr} {n : Nat} {Bd : Nat → (Str → Option Value) → Prop} {St : Nat → Heap → Prop} {E : Value → Shared → Prop} {F : List Addr → Nat → V → Heap → Prop} {Qg : Value → Shared → Prop} {k : Nat}
    (I0 : Inv X pins σ H1 s0) (hr : Room k X.A) (TB : TabB X.base X.mg c P) (hcode : X.env.code = .ref c) (S : GenS0 X.env scope) (rdy : ItReady X P s0.heap hz tgt scope I fp wr n Bd St) (live : ∀ i h, St i h → ∀ b ∈ wr, ∃ o, h.get? b = some o) (tab : TabG H1 P)
    (htst : ∀ (bad : List Addr) (ce : Env) (B : Around) (mp : Str → Option Value) (Ok : Shared → Prop) (i : Nat), Bd i mp → GFH X H1 s0.heap σ scope ce B mp Ok bad → GT X ce B Ok ifs (pz i))
    (helt : ∀ (bad : List Addr) (ce : Env) (B : Around) (mp : Str → Option Value) (Ok : Shared → Prop) (i : Nat), Bd i mp → pz i = true → GFH X H1 s0.heap σ scope ce B mp Ok bad → GEH X ce B Ok elt (F bad i))
    (want : ∀ (bad : List Addr) (g : Addr) (t5 : Shared) (wr' fs' : List Addr) (St' : Nat → Shared → Prop), (∀ b ∈ wr', b ∈ bad) → (∀ b ∈ fs', b ∈ bad) → StandsH X g t5 wr' fs' (passing pz n 0).length (fun j y h => ∃ i, (passing pz n 0)[j]? = some i ∧ ∃ v, RelV v y ∧ F bad i v h) St' →
      (∀ (t' : Shared) (N : Hp), MovedV wr' fs' t5 t' → (∀ b u, N b = some u → ∃ o xs, u = .frz o (.tup xs) ∧ ObjOk X.prog X.w N t'.heap b u) → ∃ H2, TabG H2 P ∧ (∀ b u, b ≠ P → H1 b = some u → H2 b = some u) ∧ (∀ b u, H1 b = none → s0.heap.get? b = none → N b = some u → H2 b = some u) ∧ Inv X pins σ H2 t') → Qg (.ref g) t5) :
    hz.NoLimit ∧ wpAny (model X.prog X.w) X.A (genexprCode X.env gpos (X.env.qual ++ "<genexpr>") scope) (fun code t3 => wpAny (model X.prog X.w) X.A (builtinsFor X.env.globals X.env.builtins) (fun bi t4 => MadeH X.prog X.w X.A X.env elt iter tgt ifs scope (cloFrom X.env.cells scope.names []) gpos Qg (.ref I) code bi t4) E t3) E { s0 with heap := hz } := by
  obtain ⟨ptab, hP, htr⟩ := tab
  have I1 : Inv X pins σ H1 { s0 with heap := hz } := I0.kept (t' := s0.toks) rdy.keep
  have atP : s0.heap.get? P = some { cls := .none, data := .fields ptab } := I0.hok P _ hP
  have ltP : P < s0.heap.objs.size := Heap.lt_size atP
  have atP2 : hz.get? P = some { cls := .none, data := .fields ptab } := rdy.keep _ _ atP
  have hdC : PySem.W.CodeHd hz c P := TB.code.keeps fun b u e => I1.bk b u e
  have nol : hz.NoLimit := I1.nolimit
  have csB : ∃ o, X.base.get? cStatics = some o := by
    obtain ⟨_, q, _⟩ := I0.ok.mod.nolimit
    obtain ⟨o, es, ep, ho, _⟩ := q
    exact ⟨o, ho⟩
  have notFr : ∀ b o, X.base.get? b = some o → b ∉ frs X.stack := fun b o it z => by
    have := (frs_apart I0.stack z).1
    rw [it] at this
    cases this
  have frLow : ∀ b ∈ frs X.stack, b < s0.heap.objs.size := fun b z => by
    obtain ⟨_, o, ho, _⟩ := frs_apart I0.stack z
    exact Heap.lt_size ho
  have frNotP : P ∉ frs X.stack := fun z => by
    have := I0.stkFree P z
    rw [hP] at this
    cases this
  have cont : ∀ (code : Value) (hp3 : Heap) (tk : Nat) (ptab3 : Array Value), Heap.ExtBut P hz hp3 → hz.objs.size ≤ hp3.objs.size → hp3.get? P = some { cls := .none, data := .fields ptab3 } → (∃ more, ptab3 = ptab ++ more) → TriplesOk ptab3.toList →
      wpAny (model X.prog X.w) X.A (builtinsFor X.env.globals X.env.builtins) (fun bi t4 => MadeH X.prog X.w X.A X.env elt iter tgt ifs scope (cloFrom X.env.cells scope.names []) gpos Qg (.ref I) code bi t4) E { s0 with heap := hp3, toks := tk } := by
    intro code hp3 tk ptab3 hx3 sz3 atP3 grown ok3
    (obtain ⟨bm, ob, e1, e2, e3, e4, e5, e6, e7, e8⟩ := TB.bm)
    have keep3 : ∀ b u, b ≠ P → hz.get? b = some u → hp3.get? b = some u := fun b u nb it => hx3 b u nb it
    have keep0 : ∀ b u, b ≠ P → s0.heap.get? b = some u → hp3.get? b = some u := fun b u nb it => hx3 b u nb (rdy.keep b u it)
    have baseNP : ∀ b o, X.base.get? b = some o → b ≠ P := fun b o it z => by
      have := (I0.bs b o it).2
      rw [z, hP] at this
      cases this
    obtain ⟨oCs, csAt⟩ := csB
    have csLow : cStatics < s0.heap.objs.size := Heap.lt_size (I0.bk _ _ csAt)
    have lowN : s0.heap.objs.size ≤ hp3.objs.size := Nat.le_trans rdy.grow sz3
    have fpLow : ∀ b ∈ fp, b < hp3.objs.size := fun b hb => Nat.lt_of_lt_of_le (rdy.low b hb) sz3
    have wrHigh : ∀ b ∈ wr, s0.heap.objs.size ≤ b ∧ b < hp3.objs.size := fun b hb => ⟨rdy.high b hb, fpLow b (rdy.sub b hb)⟩
    refine wpAny_builtinsFor (m := X.mg) (by rw [I0.ok.glob]; exact (I1.mod.glob.keeps I1.bk).extBut hx3 TB.gP) e1 e2 (keep3 _ _ e4 (I1.bk _ _ e5)) e6 e7 e8 ?_
    have dr := rdy.draws (genEnv scope (cloFrom X.env.cells scope.names []) hp3.objs.size code builtinsNs X.env) rfl (fun z => Nat.lt_irrefl _ (fpLow _ z))
    refine ⟨I0.bare, I, fp, wr, hp3.objs.size :: frs X.stack, n, Bd, St, pz, (fun i y h => ∃ v, RelV v y ∧ F (hp3.objs.size :: (wr ++ frs X.stack)) i v h), rfl, dr, dr.frame 0 _ _ rdy.st (fun b hb o it => keep3 b o (rdy.offP b hb) it), live, fpLow, nol.extBut hx3 (baseNP _ _ csAt), ?_, ?_, ?_, ?_, ?_, ?_⟩
    · intro z
      exact absurd (wrHigh _ z).1 (Nat.not_le_of_lt csLow)
    · intro b hb
      show b ≤ hp3.objs.size
      rcases List.mem_cons.mp hb with (z | z)
      · rw [z]
        exact Nat.le_refl _
      · exact Nat.le_of_lt (Nat.lt_of_lt_of_le (frLow b z) lowN)
    · intro b hb hf
      rcases List.mem_cons.mp hf with (y | y)
      · have := fpLow b hb
        rw [y] at this
        exact Nat.lt_irrefl _ this
      · exact rdy.offF b hb y
    · intro z
      rcases List.mem_cons.mp z with (y | y)
      · have e : cStatics = hp3.objs.size := y
        rw [e] at csLow
        exact absurd csLow (Nat.not_lt_of_le lowN)
      · exact notFr _ _ csAt y
    · intro ref href
      have mk : ∀ (B : Around) (i : Nat) (t : Shared) (mp : Str → Option Value), B.handled = none → B.frames = (X.A.in4.in1.over (loopD elt tgt iter ifs scope gpos I (genEnv scope (cloFrom X.env.cells scope.names []) hp3.objs.size code builtinsNs X.env)) []).frames → B.depth ≤ X.A.depth + 1 → B.units ≤ X.A.units + 8 →
          GFH X H1 s0.heap σ scope (genEnv scope (cloFrom X.env.cells scope.names []) hp3.objs.size code builtinsNs X.env) B mp (fun u => AllBare u.gens ∧ u.heap.Ns hp3.objs.size mp ∧ KeptO (List.range hp3.objs.size) wr (hp3.objs.size :: frs X.stack) ref u.heap ∧ ∀ b ∈ wr, ∃ o, u.heap.get? b = some o) (hp3.objs.size :: (wr ++ frs X.stack)) := fun B i t mp hB fB dB uB => by
        have fB' : B.frames = some (genEnv scope (cloFrom X.env.cells scope.names []) hp3.objs.size code builtinsNs X.env :: X.stack) := by
          have e5 : X.A.in4.in1.frames = some X.stack := I0.ok.frames
          rw [fB]
          simp only [Around.over, List.map_nil]
          rw [e5]
          rfl
        have bszS : X.base.objs.size ≤ s0.heap.objs.size := Nat.le_trans I0.ok.bsz I0.sz
        have both : ∀ u : Heap, KeptO (List.range hp3.objs.size) wr (hp3.objs.size :: frs X.stack) ref u → ∀ b o, b ≠ P → s0.heap.get? b = some o → (b ∉ frs X.stack → u.get? b = some o) ∧ ∃ sl, u.get? b = some { o with slots := sl } := fun u kept b o nb it => by
          have lt := Heap.lt_size it
          have ltc : b < hp3.objs.size := Nat.lt_of_lt_of_le lt lowN
          obtain ⟨p1, p2⟩ := kept b (List.mem_range.mpr ltc) (fun z => absurd lt (Nat.not_lt_of_le (wrHigh b z).1)) o (href _ _ (keep0 b o nb it))
          exact ⟨fun nf => p1 fun z => (List.mem_cons.mp z).elim (fun y => Nat.ne_of_lt ltc y) nf, p2⟩
        refine ⟨⟨⟨pins, s0, rfl, I0⟩, hB, fB', dB, uB, rfl, S.kind, I0.ok.glob, fun u ⟨ub, un, uk, ul⟩ => ?_, fun u ok => ok.2.1, fun u u' ⟨ub, un, uk, ul⟩ kg => ⟨kg.bare, kg.heap.ns un, uk.km kg.heap, fun b hb => ?_⟩, fun u n ok => ok, fun cn ic vc Cc hvc => ?_⟩, fun u ok b hb => ?_, fun u ok b o it => ?_⟩
        · have bu := both u.heap uk
          have baseT : ∀ b o, X.base.get? b = some o → u.heap.get? b = some o := fun b o it => (bu b o (baseNP b o it) (I0.bk b o it)).1 (notFr b o it)
          obtain ⟨oC, esC, epC, atC, datC, moreC⟩ := id un
          have ltC : hp3.objs.size < u.heap.objs.size := Heap.lt_size atC
          refine ⟨baseT, Nat.le_trans bszS (Nat.le_of_lt (Nat.lt_of_le_of_lt lowN ltC)), ⟨?_, ⟨hp3.objs.size, oC, rfl, ?_, atC, fun vs z => ?_⟩, ?_⟩, fun b hb => ?_, ?_, ub⟩
          · show scope.kind ≠ .module
            rw [S.kind]
            exact fun z => nomatch z
          · cases eb : X.base.get? hp3.objs.size with
            | none => rfl
            | some o =>
              have := Nat.lt_of_lt_of_le (Heap.lt_size eb) bszS
              exact absurd this (Nat.not_lt_of_le lowN)
          · rw [datC] at z
            cases z
          · refine Heap.FunFrames.of_keeps (fun b o it nf => ?_) I0.stack
            have nb : b ≠ P := fun z => by
              rw [z, atP] at it
              cases it
              exact nf _ rfl
            obtain ⟨_, sl, z⟩ := bu b o nb it
            exact ⟨_, z, rfl⟩
          · rcases List.mem_cons.mp hb with (z | z)
            · rw [z]
              exact I0.hok.fresh lowN
            · exact I0.stkFree b z
          · refine fast_ok I0.hok fun b u2 o e nt it => (bu b o (fun z => ?_) it).1 fun z => ?_
            · rw [z, hP] at e
              exact nt ptab (Option.some.inj e).symm
            · have := I0.stkFree b z
              rw [e] at this
              cases this
        · obtain ⟨o, e⟩ := ul b hb
          obtain ⟨_, sl, z⟩ := kg.heap b o e
          exact ⟨_, z⟩
        · obtain ⟨cc, uc, rc, look, cellAt⟩ := Cc.at I0 hvc
          refine ⟨uc, rc, fun p Ex R u ok q => Cc.eval S.kind rfl rfl look ?_ q⟩
          obtain ⟨o, ho, hd⟩ := cellAt
          have nb : cc ≠ P := fun z => by
            rw [z, atP] at ho
            cases ho
            cases hd
          obtain ⟨_, sl, z⟩ := both u.heap ok.2.2.1 cc o nb ho
          exact ⟨_, z, hd⟩
        · rcases List.mem_cons.mp hb with y | y
          · obtain ⟨oC, esC, epC, atC, _⟩ := id ok.2.1
            rw [y]
            exact ⟨⟨oC, atC⟩, I0.hok.fresh lowN⟩
          · rcases List.mem_append.mp y with y | y
            · exact ⟨ok.2.2.2 b y, I0.hok.fresh (wrHigh _ y).1⟩
            · obtain ⟨_, o, ho, _⟩ := frs_apart I0.stack y
              have nb : b ≠ P := fun z => frNotP (z ▸ y)
              obtain ⟨_, sl, z⟩ := both u.heap ok.2.2.1 b o nb ho
              exact ⟨⟨_, z⟩, I0.stkFree b y⟩
        · by_cases nb : b = P
          · subst nb
            obtain ⟨_, sl, z⟩ := ok.2.2.1 b (List.mem_range.mpr (Nat.lt_of_lt_of_le ltP lowN)) (fun z => absurd ltP (Nat.not_lt_of_le (wrHigh b z).1)) _ (href _ _ atP3)
            exact ⟨_, z⟩
          · obtain ⟨_, sl, z⟩ := both u.heap ok.2.2.1 b o nb it
            exact ⟨_, z⟩
      refine ⟨fun B Ex i t mp hB fB dB uB bT bd ns kept lv => htst _ _ B mp _ i bd (mk B i t mp hB fB dB uB) Ex t ⟨bT, ns, kept, lv⟩, fun B Ex i t mp hB fB dB uB bT bd pt ns kept lv => helt _ _ B mp _ i bd pt (mk B i t mp hB fB dB uB) Ex t ⟨bT, ns, kept, lv⟩⟩
    · intro g hp5 tk5 gs gsb ltg szg k5 Wk at5
      have hg5 : hp3.objs.size < hp5.objs.size := by
        rw [szg]
        exact Nat.lt_succ_of_lt ltg
      refine want (hp3.objs.size :: (wr ++ frs X.stack)) g _ _ _ _ (fun b hb => (List.mem_cons.mp hb).elim (fun y => y ▸ List.mem_cons_self ..) fun y => List.mem_cons_of_mem _ (List.mem_append_left _ y)) (fun b hb => (List.mem_cons.mp hb).elim (fun y => y ▸ List.mem_cons_self ..) fun y => List.mem_cons_of_mem _ (List.mem_append_right _ y)) ⟨Wk, at5, ?_, ?_, ?_, fun i t2 h' tk2 S hS st2 kk2 => AtH.frame st2 kk2 ?_ ?_ ?_, fun i t2 st2 => ?_⟩ fun t' N mv hN => ?_
      · show g < hp5.objs.size
        rw [szg]
        exact Nat.lt_succ_self _
      · intro b z
        show b < hp5.objs.size
        rcases List.mem_cons.mp z with y | y
        · have e : b = hp3.objs.size := y
          rw [e]
          exact hg5
        · exact Nat.lt_trans (wrHigh _ y).2 hg5
      · intro b z
        show b < hp5.objs.size
        rcases List.mem_cons.mp z with y | y
        · have e : b = hp3.objs.size := y
          rw [e]
          exact hg5
        · exact Nat.lt_of_lt_of_le (frLow _ y) (Nat.le_trans lowN (Nat.le_of_lt hg5))
      · intro z
        have l : g < hp5.objs.size := by rw [szg]; exact Nat.lt_succ_self _
        rw [z] at l
        exact absurd l (Nat.not_lt_of_le hS)
      · intro z
        have l : cStatics < hp5.objs.size := Nat.lt_of_lt_of_le csLow (Nat.le_trans lowN (Nat.le_of_lt hg5))
        rw [z] at l
        exact absurd l (Nat.not_lt_of_le hS)
      · intro b hb z
        have l : b < hp5.objs.size := by
          rcases List.mem_cons.mp hb with y | y
          · have e : b = hp3.objs.size := y
            rw [e]
            exact hg5
          · rcases List.mem_append.mp y with v | v
            · exact Nat.lt_trans (fpLow b v) hg5
            · exact Nat.lt_trans (List.mem_range.mp v) hg5
        rw [z] at l
        exact absurd l (Nat.not_lt_of_le hS)
      · obtain ⟨⟨o, nm, qn, ho, hc, _⟩, _⟩ := st2
        exact ⟨o, ho, hc⟩
      · obtain ⟨more, rfl⟩ := grown
        have offW : ∀ b, b < s0.heap.objs.size → b ∉ hp3.objs.size :: wr := fun b lt z => by
          rcases List.mem_cons.mp z with (y | y)
          · rw [y] at lt
            exact absurd lt (Nat.not_lt_of_le lowN)
          · exact absurd lt (Nat.not_lt_of_le (wrHigh _ y).1)
        have kB : ∀ b o, b < s0.heap.objs.size → hp3.get? b = some o → (b ∉ frs X.stack → t'.heap.get? b = some o) ∧ ∃ sl, t'.heap.get? b = some { o with slots := sl } := fun b o lt it => by
          obtain ⟨p1, p2⟩ := mv.heap b o (offW b lt) (k5 b o it)
          exact ⟨fun nf => p1 fun z => (List.mem_cons.mp z).elim (fun y => absurd (Nat.lt_of_lt_of_le lt lowN) (by rw [y]; exact Nat.lt_irrefl _)) nf, p2⟩
        obtain ⟨H2, h1, h2, h3, J⟩ := inv_genN (t' := t') (more := more) I0 hP mv.os mv.bare (fun b o nb it => kB b o (Heap.lt_size it) (keep0 b o nb it)) ((kB P _ ltP atP3).1 frNotP) N hN
        exact ⟨H2, ⟨ptab ++ more, h1, ok3⟩, h2, h3, J⟩
  refine ⟨nol, ?_⟩
  cases among : codeAmong gpos ptab.toList with
  | none =>
    refine wpAny_genexprCodeX hcode (hdC.code atP2 htr) (hdC.tab atP2) among fun c2 hp2 tk hx2 ge2 lt2 isC _ tabA _ => ?_
    obtain ⟨o1, vs, f1, tf, fl, tg, inF, tx, tt, op, _, _, _, _, _, _, _, _, _, trs, _⟩ := isC
    exact cont _ hp2 tk _ hx2 (Nat.le_trans ge2 (Nat.le_of_lt lt2)) tabA.2 ⟨_, rfl⟩ trs
  | some cv =>
    refine wpAny_genexprCode_hit hcode (hdC.code atP2 htr) among ?_
    exact cont cv hz s0.toks ptab (Heap.ExtBut.refl _ _) (Nat.le_refl _) atP2 ⟨#[], by simp⟩ htr
end
end V3
/-! tuple over a generator whose elements are new things. -/
namespace V3
open PySem.Spec PySem L2 PyProof.Rows GxR RZ
/-- the tuples beside these places stand -/
def KeepsT (bad : List Addr) (h h' : Heap) : Prop := ∀ b o, b ∉ bad → o.cls = .type "tuple" → h.get? b = some o → h'.get? b = some o
def ItemsH (P : Nat → Value → Heap → Prop) (acc : Array Value) (i : Nat) (h : Heap) : Prop := acc.size = i ∧ ∀ j v, acc[j]? = some v → P j v h
theorem ItemsH.nil (P : Nat → Value → Heap → Prop) (h : Heap) : ItemsH P #[] 0 h := ⟨rfl, fun j v e => by simp at e⟩
theorem ItemsH.push {P : Nat → Value → Heap → Prop} {acc : Array Value} {i : Nat} {h : Heap} {x : Value} (a : ItemsH P acc i h) (px : P i x h) : ItemsH P (acc.push x) (i + 1) h := by
  refine ⟨by rw [Array.size_push, a.1], fun j v e => ?_⟩
  (rw [Array.getElem?_push] at e)
  split at e
  · rename_i z
    rw [a.1] at z
    cases e
    rw [z]
    exact px
  · exact a.2 j v e
theorem ItemsH.stay {P : Nat → Value → Heap → Prop} {acc : Array Value} {i : Nat} {h h' : Heap} {bad : List Addr} (a : ItemsH P acc i h) (stab : ∀ j v (h h' : Heap), P j v h → KeepsT bad h h' → P j v h') (k : KeepsT bad h h') : ItemsH P acc i h' := ⟨a.1, fun j v e => stab j v h h' (a.2 j v e) k⟩
theorem MovedV.keeps {wr fs bad : List Addr} {t t' : Shared} (m : MovedV wr fs t t') (wb : ∀ b ∈ wr, b ∈ bad) (fb : ∀ b ∈ fs, b ∈ bad) : KeepsT bad t.heap t'.heap := fun b o nb _ it => (m.heap b o (fun z => nb (wb b z)) it).1 fun z => nb (fb b z)
section
variable {w : World} {prog : Program} {A : Around}
/-- a list taken from a walk -/
theorem extend_loopH {I : Addr} {wr fs : List Addr} {n : Nat} {P : Nat → Value → Heap → Prop} {bad : List Addr} {St : Nat → Shared → Prop} {R : Result → Shared → Prop} (Wk : WalksH prog w A.in1 I wr fs n P St) (wb : ∀ b ∈ wr, b ∈ bad) (fb : ∀ b ∈ fs, b ∈ bad) (stab : ∀ j v (h h' : Heap), P j v h → KeepsT bad h h' → P j v h') (hn : n ≤ sizeLine) (S : Addr) (Sw : S ∉ wr) (Sf : S ∉ fs)
    (fr : ∀ i (t : Shared) h' tk, St i t → (∀ b o, b ≠ S → t.heap.get? b = some o → h'.get? b = some o) → St i { t with heap := h', toks := tk }) (res : Value) :
    ∀ (k i : Nat) (t : Shared) (acc : Array Value) (c : Nat), n - i = k → i ≤ n → St i t → t.heap.get? S = some { cls := .type "list", dict := none, data := .seq acc c, slots := #[] } → ItemsH P acc i t.heap →
      (∀ t' acc', MovedV (S :: wr) fs t t' → (∃ c', t'.heap.get? S = some { cls := .type "list", dict := none, data := .seq acc' c', slots := #[] }) → ItemsH P acc' n t'.heap → R (.ok (.ret res)) t') →
      codeAny (model prog w) A (.builtin "list.extend.loop" ⟨[.ref S, .ref I, res], []⟩) R t := by
  intro k
  induction k with
  | zero =>
    intro i t acc c ek il st atS items want
    obtain rfl : i = n := by omega
    (refine codeAny_builtin F.entry_extend_loop ?_)
    (rw [Around.under_plainId F.plain_extend_loop _])
    show wpAny _ A.in1 (pyNext (.ref I) >>= _) _ _ t
    exact wpAny_bind (Wk.done t _ _ st fun t' mv => wpAny_pure (want t' acc (mv.wide fun b hb => List.mem_cons_of_mem _ hb) ⟨c, (mv.heap S _ Sw atS).1 Sf⟩ (items.stay stab (mv.keeps wb fb))))
  | succ k again =>
    intro i t acc c ek il st atS items want
    have lt : i < n := by omega
    (refine codeAny_builtin F.entry_extend_loop ?_)
    (rw [Around.under_plainId F.plain_extend_loop _])
    show wpAny _ A.in1 (pyNext (.ref I) >>= _) _ _ t
    refine wpAny_bind (Wk.item i t _ _ lt st fun v u pv su mv => ?_)
    have atU := (mv.heap S _ Sw atS).1 Sf
    have off : ∀ b o, b ≠ S → u.heap.get? b = some o → (u.heap.update S (Obj.mapSeq (·.push v))).get? b = some o := fun b o n it => (Heap.get?_update_other _ _ (Ne.symm n)).trans it
    have sz := items.1
    (show wpAny _ A.in1 (updateSeq S (·.push v) >>= _) _ _ _)
    refine wpAny_bind (wpAny_updateSeq atU rfl (wpAny_pure ⟨plainId_quiet F.plain_extend_loop _, again (i + 1) _ (acc.push v) _ (by omega) lt (fr _ u _ u.toks su off) (Heap.get?_update_self _ atU rfl) (((items.stay stab (mv.keeps wb fb)).push pv).stay stab (fun b o _ ct it => off b o (fun z => by rw [z, atU] at it; cases it; exact absurd (show Value.type "list" = Value.type "tuple" from ct) (by decide)) it)) fun t' acc' mv2 at' it' => ?_⟩) (by omega) (by show (acc.push v).size ≤ sizeLine + 1; rw [Array.size_push]; omega))
    exact want t' acc' ((mv.wrote off).trans mv2) at' it'
theorem collect_genH {E : Value → Shared → Prop} {s : Shared} {I : Addr} {wr fs : List Addr} {n : Nat} {P : Nat → Value → Heap → Prop} {bad : List Addr} {St : Nat → Shared → Prop} {Q : List Value → Shared → Prop} (Wk : WalksH prog w A.in1 I wr fs n P St) (wb : ∀ b ∈ wr, b ∈ bad) (fb : ∀ b ∈ fs, b ∈ bad) (stab : ∀ j v (h h' : Heap), P j v h → KeepsT bad h h' → P j v h') (hn : n ≤ sizeLine) (ty : ∀ i t, St i t → t.TypeIs (.ref I) "generator") (st : St 0 s)
    (Iw : I < s.heap.objs.size) (Sw : s.heap.objs.size ∉ wr) (Sf : s.heap.objs.size ∉ fs) (fr : ∀ i (t : Shared) h' tk, St i t → (∀ b o, b ≠ s.heap.objs.size → t.heap.get? b = some o → h'.get? b = some o) → St i { t with heap := h', toks := tk })
    (want : ∀ t' acc, MovedV wr fs s t' → ItemsH P acc n t'.heap → Q acc.toList t') : wpAny (model prog w) A (collect (.ref I)) Q E s := by
  have SI : s.heap.objs.size ≠ I := Nat.ne_of_gt Iw
  unfold collect
  (refine wpAny_bind (wpAny_runValue (codeAny_builtin F.entry_proto_collect ?_)))
  (rw [Around.under_plainId F.plain_proto_collect _])
  (show wpAny _ A.in1 (newList [] >>= fun l => again (.builtin "list.__iadd__" ⟨[l, .ref I], []⟩)) _ _ s)
  refine wpAny_bind (wpAny_newObj_type (wpAny_pure ⟨plainId_quiet F.plain_list_iadd _, codeAny_builtin F.entry_list_iadd ?_⟩))
  (rw [Around.under_plainId F.plain_list_iadd _])
  have k1 : ∀ b o, s.heap.get? b = some o → (s.heap.push { cls := .type "list", data := .seq ([] : List Value).toArray }).get? b = some o := fun b o it => Heap.get?_push_of_some _ it
  have st1 := fr 0 s (s.heap.push { cls := .type "list", data := .seq ([] : List Value).toArray }) s.toks st fun b o _ it => k1 b o it
  (show wpAny _ A.in1 (Builtin.List.listExtendWith (.ref s.heap.objs.size) (.ref I) (.ref s.heap.objs.size)) _ _ _)
  (unfold Builtin.List.listExtendWith)
  refine wpAny_bind (wpAny_typeOf (ty 0 _ st1) ?_)
  have n1 : Builtin.List.listSameRef (.ref s.heap.objs.size) (.ref I) = false := by simp [Builtin.List.listSameRef, SI]
  have n2 : (Value.type "generator" == Value.type "list") = false := by decide
  have n3 : (Value.type "generator" == Value.type "tuple") = false := by decide
  simp only [n1, n2, n3, Bool.or_false, Bool.false_eq_true, if_false]
  refine wpAny_bind (Wk.self _ _ _ st1 (wpAny_bind (wpAny_holding ?_)))
  (unfold Builtin.List.listLengthHint)
  refine wpAny_bind (wpAny_specialOf (ty 0 _ st1) F.gen_no_len ?_)
  (show wpAny _ A.in1 (specialOf (Value.ref I) (Str.ofString "__length_hint__") >>= _) _ _ _)
  refine wpAny_bind (wpAny_specialOf (ty 0 _ st1) F.gen_no_hint (wpAny_pure ?_))
  (show wpAny _ A.in1 (rule "list.extend.makes-room" >>= fun _ => Builtin.List.listTouch (.ref s.heap.objs.size) >>= fun _ =>
      again (.builtin "list.extend.loop" ⟨[.ref s.heap.objs.size, .ref I, .ref s.heap.objs.size], []⟩)) _ _ _)
  (refine wpAny_bind (wpAny_rule (wpAny_bind ?_)))
  have at1 : (s.heap.push { cls := .type "list", data := .seq ([] : List Value).toArray }).get? s.heap.objs.size = some { cls := .type "list", data := .seq ([] : List Value).toArray } := Heap.get?_push_size _ rfl
  (show wpAny _ A.in1 (updateSeq s.heap.objs.size (·.push .none) >>= fun _ => updateSeq s.heap.objs.size (·.pop)) _ _ _)
  refine wpAny_bind (wpAny_updateSeq at1 rfl ?_)
  have at2 := Heap.get?_update_self (Obj.mapSeq (·.push Value.none)) at1 rfl
  refine wpAny_updateSeq at2 rfl ?_
  have at3 := Heap.get?_update_self (Obj.mapSeq (·.pop)) at2 rfl
  have stays : ∀ (f : Obj → Obj) (h0 : Heap) b o, b ≠ s.heap.objs.size → h0.get? b = some o → (h0.update s.heap.objs.size f).get? b = some o := fun f h0 b o ne it => (Heap.get?_update_other _ _ (Ne.symm ne)).trans it
  refine wpAny_pure ⟨plainId_quiet F.plain_extend_loop _, extend_loopH Wk wb fb stab hn _ Sw Sf fr _ n 0 _ _ _ rfl (Nat.zero_le _) (fr 0 ({ s with heap := s.heap.push { cls := .type "list", data := .seq ([] : List Value).toArray } } : Shared) _ s.toks st1 fun b o ne it => stays _ _ b o ne (stays _ _ b o ne it)) at3 (ItemsH.nil P _) fun t' acc mv at' items => ?_⟩
  obtain ⟨c', at'⟩ := at'
  show wpAny _ A (load s.heap.objs.size >>= _) _ _ t'
  refine wpAny_bind (wpAny_load at' (wpAny_pure (want t' acc ⟨mv.os, mv.bare, fun b o nb it => ?_⟩ items)))
  have ne : b ≠ s.heap.objs.size := fun z => Nat.lt_irrefl _ (z ▸ Heap.lt_size it)
  exact mv.heap b o (fun z => (List.mem_cons.mp z).elim ne nb) (stays _ _ b o ne (stays _ _ b o ne (k1 b o it)))
theorem tuple_new_genH {E : Value → Shared → Prop} {s : Shared} {I : Addr} {wr fs : List Addr} {n : Nat} {P : Nat → Value → Heap → Prop} {bad : List Addr} {St : Nat → Shared → Prop} {Q : Value → Shared → Prop} (Wk : WalksH prog w A.in1.in1 I wr fs n P St) (wb : ∀ b ∈ wr, b ∈ bad) (fb : ∀ b ∈ fs, b ∈ bad) (stab : ∀ j v (h h' : Heap), P j v h → KeepsT bad h h' → P j v h') (hn : n ≤ sizeLine) (ty : ∀ i t, St i t → t.TypeIs (.ref I) "generator") (st : St 0 s)
    (Iw : I < s.heap.objs.size) (Sw : s.heap.objs.size ∉ wr) (Sf : s.heap.objs.size ∉ fs) (fr : ∀ i (t : Shared) h' tk, St i t → (∀ b o, b ≠ s.heap.objs.size → t.heap.get? b = some o → h'.get? b = some o) → St i { t with heap := h', toks := tk })
    (want : ∀ t' acc, MovedV wr fs s t' → ItemsH P acc n t'.heap → Q (.ref t'.heap.objs.size) { t' with heap := t'.heap.push { cls := .type "tuple", data := .seq acc } }) :
    codeAny (model prog w) A (.call (.builtin "tuple.__new__") ⟨[.type "tuple", .ref I], []⟩) (wants Q E) s := by
  (refine codeAny_of_tree ?_)
  (show wpAny _ A.in1 (do checkBuiltinCall "tuple.__new__" ⟨[.type "tuple", .ref I], []⟩; again (.builtin "tuple.__new__" ⟨[.type "tuple", .ref I], []⟩)) _ _ s)
  (refine wpAny_bind (wpAny_of_eq (F.newCall_tuple_1 _) (wpAny_pure ⟨plainId_quiet F.plain_tuple_new _, codeAny_builtin F.entry_tuple_new ?_⟩)))
  (rw [Around.under_plainId F.plain_tuple_new _])
  have sub := sub_tuple_self
  have ini := init_tuple_lookup
  have made := madeHere_tuple
  have tI := ty 0 s st
  wp_walk using wpAny_typeOf tI, collect_genH Wk wb fb stab hn ty st Iw Sw Sf fr
  intro t' acc mv items
  (show wpAny _ _ (Builtin.Tuple.tupleExact acc.toList.toArray >>= fun v => ret v) _ _ _)
  (unfold Builtin.Tuple.tupleExact)
  (have e : acc.toList.toArray = acc := by simp)
  refine wpAny_bind (wpAny_newObj_type (wpAny_pure ?_) (by show acc.toList.toArray.size ≤ sizeLine; rw [e, items.1]; exact hn))
  rw [e]
  exact want t' acc mv items
theorem call_tuple_genH {E : Value → Shared → Prop} {s : Shared} {I : Addr} {wr fs : List Addr} {n : Nat} {P : Nat → Value → Heap → Prop} {bad : List Addr} {St : Nat → Shared → Prop} {Q : Value → Shared → Prop} (Wk : WalksH prog w A.in1.in1.in1 I wr fs n P St) (wb : ∀ b ∈ wr, b ∈ bad) (fb : ∀ b ∈ fs, b ∈ bad) (stab : ∀ j v (h h' : Heap), P j v h → KeepsT bad h h' → P j v h') (hn : n ≤ sizeLine) (ty : ∀ i t, St i t → t.TypeIs (.ref I) "generator") (st : St 0 s)
    (Iw : I < s.heap.objs.size) (Sw : s.heap.objs.size ∉ wr) (Sf : s.heap.objs.size ∉ fs) (fr : ∀ i (t : Shared) h' tk, St i t → (∀ b o, b ≠ s.heap.objs.size → t.heap.get? b = some o → h'.get? b = some o) → St i { t with heap := h', toks := tk })
    (want : ∀ t' acc, MovedV wr fs s t' → ItemsH P acc n t'.heap → Q (.ref t'.heap.objs.size) { t' with heap := t'.heap.push { cls := .type "tuple", data := .seq acc } }) :
    (wpAny (model prog w) A (call (.type "tuple") [.ref I]) Q E s) := by
  refine callType_codes (Q₁ := fun obj s1 => s1.TypeIs obj "tuple" ∧ Q obj s1) F.called_tuple (F.typeCall_tuple_1 _) F.entry_object_init
    (tuple_new_genH Wk wb fb stab hn ty st Iw Sw Sf fr (fun t' acc mv items => ⟨⟨_, Heap.get?_push_size _ rfl, rfl⟩, want t' acc mv items⟩)) fun obj s1 h1 => ?_
  exact ⟨h1.1, F.args_object_init_2 obj _, object_init_meets F.called_tuple.init.lookup F.called_tuple.made (by decide) prog w A.in1 _ s1 ⟨h1.1, rfl, h1.2⟩⟩
end
/-! ### what is new, in the heap -/
theorem rel_one {v v2 : V} {u : Value} (a : RelV v u) (b : RelV v2 u) : v = v2 := by
  cases v <;> cases v2 <;> simp only [L2.RelV] at a b <;> first
    | (subst a; cases b; done)
    | (subst a; cases b; rfl)
    | (subst a; obtain ⟨_, e⟩ := b; cases e; done)
    | (obtain ⟨_, rfl⟩ := a; obtain ⟨_, e⟩ := b; cases e; done)
    | (obtain ⟨_, rfl⟩ := a; obtain ⟨_, e⟩ := b; cases e; rfl)
    | (obtain ⟨_, rfl⟩ := a; cases b; done)
theorem vals_one : ∀ {xs ys : List V} {its : List Value}, Vals xs its → Vals ys its → xs = ys
  | _, _, _, .nil, .nil => rfl
  | _, _, _, .cons a r, .cons b s => by rw [rel_one a b, vals_one r s]
/-- a new tuple -/
structure NewT (h0 : Heap) (bad : List Addr) (h : Heap) (a : Addr) (xs : List V) : Prop where
  nb : a ∉ bad
  n0 : h0.get? a = none
  len : xs.length ≤ sizeLine
  its : ∃ its : List Value, Vals xs its ∧ IsTup h a its.toArray
mutual
inductive RdT (K : PySem.W.Frag) (H : Hp) (h0 : Heap) (bad : List Addr) (h : Heap) : V → PyData → Prop
  | non : RdT K H h0 bad h .non .none
  | bl (b : Bool) : RdT K H h0 bad h (.bl b) (.bool b)
  | int (i : Int) : RdT K H h0 bad h (.int i) (.int i)
  | str (x : Str) : RdT K H h0 bad h (.str x) (.str x)
  | tup {a : Addr} {xs : List V} {ds : List PyData} : (SqT K H a xs ∨ NewT h0 bad h a xs) → RdTAll K H h0 bad h xs ds → RdT K H h0 bad h (.ref a) (.tuple ds)
inductive RdTAll (K : PySem.W.Frag) (H : Hp) (h0 : Heap) (bad : List Addr) (h : Heap) : List V → List PyData → Prop
  | nil : RdTAll K H h0 bad h [] []
  | cons {v : V} {vs : List V} {d : PyData} {ds : List PyData} : RdT K H h0 bad h v d → RdTAll K H h0 bad h vs ds → RdTAll K H h0 bad h (v :: vs) (d :: ds)
end
theorem NewT.stay {h0 h h' : Heap} {bad : List Addr} {a : Addr} {xs : List V} (n : NewT h0 bad h a xs) (k : KeepsT bad h h') : NewT h0 bad h' a xs := by
  obtain ⟨its, r, o, e, c⟩ := n.its
  exact ⟨n.nb, n.n0, n.len, its, r, o, k a o n.nb c.1 e, c⟩
mutual
theorem RdT.stay {K : PySem.W.Frag} {H : Hp} {h0 h h' : Heap} {bad : List Addr} (k : KeepsT bad h h') : ∀ {v : V} {d : PyData}, RdT K H h0 bad h v d → RdT K H h0 bad h' v d
  | _, _, .non => .non
  | _, _, .bl b => .bl b
  | _, _, .int i => .int i
  | _, _, .str x => .str x
  | _, _, .tup s a => .tup (s.imp id fun n => n.stay k) (RdTAll.stay k a)
theorem RdTAll.stay {K : PySem.W.Frag} {H : Hp} {h0 h h' : Heap} {bad : List Addr} (k : KeepsT bad h h') : ∀ {vs : List V} {ds : List PyData}, RdTAll K H h0 bad h vs ds → RdTAll K H h0 bad h' vs ds
  | _, _, .nil => .nil
  | _, _, .cons a b => .cons (RdT.stay k a) (RdTAll.stay k b)
end
mutual
theorem RdT.of {K : PySem.W.Frag} {H G : Hp} {h0 h : Heap} {bad : List Addr} (node : ∀ a xs, SqT K G a xs → SqT K H a xs ∨ NewT h0 bad h a xs) : ∀ {v : V} {d : PyData}, DpT K G v d → RdT K H h0 bad h v d
  | _, _, .non => .non
  | _, _, .bl b => .bl b
  | _, _, .int i => .int i
  | _, _, .str x => .str x
  | _, _, .tup s a => .tup (node _ _ s) (RdTAll.of node a)
theorem RdTAll.of {K : PySem.W.Frag} {H G : Hp} {h0 h : Heap} {bad : List Addr} (node : ∀ a xs, SqT K G a xs → SqT K H a xs ∨ NewT h0 bad h a xs) : ∀ {vs : List V} {ds : List PyData}, DpTAll K G vs ds → RdTAll K H h0 bad h vs ds
  | _, _, .nil => .nil
  | _, _, .cons a b => .cons (RdT.of node a) (RdTAll.of node b)
end
mutual
theorem RdT.to {K : PySem.W.Frag} {H G : Hp} {h0 h : Heap} {bad : List Addr} (node : ∀ a xs, (SqT K H a xs ∨ NewT h0 bad h a xs) → SqT K G a xs) : ∀ {v : V} {d : PyData}, RdT K H h0 bad h v d → DpT K G v d
  | _, _, .non => .non
  | _, _, .bl b => .bl b
  | _, _, .int i => .int i
  | _, _, .str x => .str x
  | _, _, .tup s a => .tup (node _ _ s) (RdTAll.to node a)
theorem RdTAll.to {K : PySem.W.Frag} {H G : Hp} {h0 h : Heap} {bad : List Addr} (node : ∀ a xs, (SqT K H a xs ∨ NewT h0 bad h a xs) → SqT K G a xs) : ∀ {vs : List V} {ds : List PyData}, RdTAll K H h0 bad h vs ds → DpTAll K G vs ds
  | _, _, .nil => .nil
  | _, _, .cons a b => .cons (RdT.to node a) (RdTAll.to node b)
end
open Classical in
/-- all tuples of a heap -/
noncomputable def allT (h : Heap) : Hp := fun b => if e : ∃ (o : Obj) (xs : List V), xs.length ≤ sizeLine ∧ (∃ its : List Value, Vals xs its ∧ IsTup h b its.toArray) ∧ h.get? b = some o then some (.frz e.choose (.tup e.choose_spec.choose)) else none
theorem allT_ok {P : Program} {w : World} {h : Heap} {N : Hp} {b : Addr} {u : HO} (e : allT h b = some u) : ∃ o xs, u = .frz o (.tup xs) ∧ ObjOk P w N h b u := by
  unfold allT at e
  split at e
  · rename_i z
    cases e
    have s := z.choose_spec.choose_spec
    exact ⟨_, _, rfl, s.2.2, s.1, s.2.1⟩
  · cases e
theorem allT_new {h0 h : Heap} {bad : List Addr} {a : Addr} {xs : List V} (n : NewT h0 bad h a xs) : ∃ o, allT h a = some (.frz o (.tup xs)) := by
  obtain ⟨its, r, o, e, c⟩ := n.its
  have z : ∃ (o : Obj) (xs : List V), xs.length ≤ sizeLine ∧ (∃ its : List Value, Vals xs its ∧ IsTup h a its.toArray) ∧ h.get? a = some o := ⟨o, xs, n.len, ⟨its, r, o, e, c⟩, e⟩
  unfold allT
  rw [dif_pos z]
  obtain ⟨_, ⟨its2, r2, o2, e2, c2⟩, _⟩ := z.choose_spec.choose_spec
  have ex : z.choose_spec.choose = xs := by
    rw [e] at e2
    cases e2
    obtain ⟨_, m, d⟩ := c
    obtain ⟨_, m2, d2⟩ := c2
    rw [d] at d2
    have : its = its2 := by
      cases d2
      rfl
    subst this
    exact vals_one r2 r
  rw [ex]
  exact ⟨_, rfl⟩
end V3
/-! tuple(f(..) for .. in ..): calls whose results are new tuples. -/
namespace V3
open PySem.Spec PySem L2 PyProof.Rows GxR RZ
theorem obj_there {P : Program} {w : World} {H : Hp} {h : Heap} {a : Addr} {u : HO} (x : ObjOk P w H h a u) : ∃ o, h.get? a = some o := by
  cases u with
  | lst xs =>
    obtain ⟨_, _, _, _, e⟩ := x
    exact ⟨_, e⟩
  | tup xs =>
    obtain ⟨_, _, _, o, e, _⟩ := x
    exact ⟨o, e⟩
  | dK kvs =>
    obtain ⟨_, _, _, _, o, _, _, e, _⟩ := x
    exact ⟨o, e⟩
  | dT kvs =>
    obtain ⟨_, _, _, _, o, _, _, e, _⟩ := x
    exact ⟨o, e⟩
  | set S n =>
    obtain ⟨o, _, _, _, e, _⟩ := x
    exact ⟨o, e⟩
  | ins C dx fs =>
    obtain ⟨_, _, _, e, _⟩ := x
    exact ⟨_, e⟩
  | own y => exact x
  | xd fs =>
    obtain ⟨_, ⟨o, _, _, e, _⟩, _⟩ := x
    exact ⟨o, e⟩
  | rng lo hi =>
    obtain ⟨_, _, _, e⟩ := x
    exact ⟨_, e⟩
  | frz ob u => exact ⟨ob, x.1⟩
  | tbl ps => exact ⟨_, x⟩
  | met f y => exact ⟨_, x⟩
  | ext φ => exact x.2.1
theorem gen_callH {X : Cx} {pins : List (Addr × Obj)} {σ : L2.St} {H : Hp} {s t : Shared} {k : Nat} {f C : Addr} {fd : FuncData} {ps : List Str} {sp : Sp} {B : Around} {ce : Env} {us : List Value} {vs : List V} {q : V → Hp → Prop} {R : Value → Shared → Prop} {Ex : Value → Shared → Prop}
    (I : Inv X pins σ H s) (G : FnOk X.prog X.w X.K X.mg X.base CX0 k f fd ps sp) (bd : Binds X.K fd ps []) (hr : Room (k + 1) X.A) (g : InGen X H s.heap ce C t)
    (b0 : B.handled = none) (bf : B.frames = some (ce :: X.stack)) (bd1 : B.depth ≤ X.A.depth + 1) (bu : B.units ≤ X.A.units + 8) (r : Vals vs us) (ask : sp vs (fast s.heap H) (fun v H' => q v H') E0)
    (fin : ∀ v u t' H', q v H' → HOk X.prog X.w H' t'.heap → Un (frs (ce :: X.stack)) [] (fast s.heap H) H' t.heap t'.heap → RelV v u → KeptG (frs (ce :: X.stack)) t t' → R u t') : wpAny (model X.prog X.w) B (call (.ref f) us) R Ex t := by
  have room : Room k B := ⟨b0, by have := hr.dp; omega, by have := hr.un; omega⟩
  have kin : X.K.In t.heap := I.ok.mod.kin.keeps g.base
  have e0 : Env0 X.prog X.w X.K X.mg X.base B (ce :: X.stack) t (fast s.heap H) := ⟨bf, I.ok.mod, fun b o it => ⟨g.base b o it, fast_none (I.bs b o it).2⟩, g.sz, g.funs, fun b hb => fast_none (g.frf b hb), g.ok, g.bare⟩
  have hl : (us ++ []).length = ps.length := by
    rw [List.append_nil, ← r.length]
    exact G.len _ _ _ _ ask
  have bs := bd t us kin hl
  rw [List.append_nil] at bs
  refine wpAny_call (codeAny_mono (G.run B (ce :: X.stack) t (fast s.heap H) ⟨us, []⟩ us vs (fun v H' => q v H') E0 room e0 bs r ask) fun res t' c => ?_)
  cases res with
  | error e => exact False.elim c
  | ok fl =>
    cases fl with
    | ret u =>
      obtain ⟨kg, _⟩ := kept_CE g.ok c
      obtain ⟨v, H', os, bare, un, ok, rv, qv⟩ := c
      exact fin v u t' H' qv ok un rv kg
    | next => exact False.elim c
    | brk => exact False.elim c
    | cont => exact False.elim c
section
variable {X : Cx} {H : Hp} {h : Heap} {σ : L2.St} {scope : Scope} {ce : Env} {B : Around} {mp : Str → Option Value} {Ok : Shared → Prop} {bad : List Addr} {e e1 e2 : Expr} {P1 P2 : V → Prop}
/-- what a call leaves, read in the heap -/
theorem rd_call {v : V} {d : PyData} {t t' : Shared} {H' : Hp} (G : GFH X H h σ scope ce B mp Ok bad) (ok : Ok t) (dv : DpT X.K H' v d) (hk : HOk X.prog X.w H' t'.heap) (un : Un (frs (ce :: X.stack)) [] (fast h H) H' t.heap t'.heap) : RdT X.K H h bad t'.heap v d := by
  refine RdT.of (fun a xs s => ?_) dv
  have both : ∀ w, H' a = some w → (w = .tup xs ∨ ∃ o, w = .frz o (.tup xs)) → SqT X.K H a xs ∨ NewT h bad t'.heap a xs := fun w e hw => by
    have tup : xs.length ≤ sizeLine ∧ ∃ its : List Value, Vals xs its ∧ IsTup t'.heap a its.toArray := by
      rcases hw with rfl | ⟨o, rfl⟩
      · exact hk a _ e
      · exact (hk a _ e).2
    cases ef : fast h H a with
    | some w2 =>
      left
      have keepW : ∀ o u, fast h H a = some (.frz o u) → H' a = some (.frz o u) := fun o u z => un.frzs a o u z
      rcases fast_cases ef with ⟨ys, o, e1, e2, rfl⟩ | ⟨ys, o, e1, e2, rfl⟩ | ⟨ys, o, e1, rfl⟩ | ⟨ys, o, e1, rfl⟩ | ⟨kvs, o, e1, e2, rfl⟩ | ⟨kvs, o, e1, rfl⟩
      · have z := keepW _ _ ef
        rw [e] at z
        cases z
        rcases hw with z | ⟨o2, z⟩ <;> cases z
        exact .inl (.inl e1)
      · have z := keepW _ _ ef
        rw [e] at z
        cases z
        rcases hw with z | ⟨o2, z⟩ <;> cases z
      · have z := keepW _ _ ef
        rw [e] at z
        cases z
        rcases hw with z | ⟨o2, z⟩ <;> cases z
        exact .inl (.inr ⟨_, e1⟩)
      · have z := keepW _ _ ef
        rw [e] at z
        cases z
        rcases hw with z | ⟨o2, z⟩ <;> cases z
      · have z := keepW _ _ ef
        rw [e] at z
        cases z
        rcases hw with z | ⟨o2, z⟩ <;> cases z
      · have z := keepW _ _ ef
        rw [e] at z
        cases z
        rcases hw with z | ⟨o2, z⟩ <;> cases z
    | none =>
      right
      have absent : t.heap.get? a = none := by
        cases et : t.heap.get? a with
        | none => rfl
        | some o =>
          have := un.free a o et ef (by simp)
          rw [e] at this
          cases this
      refine ⟨fun hb => ?_, ?_, tup.1, tup.2⟩
      · obtain ⟨⟨o, z⟩, _⟩ := G.bad t ok a hb
        rw [absent] at z
        cases z
      · cases eh : h.get? a with
        | none => rfl
        | some o =>
          obtain ⟨o', z⟩ := G.old t ok a o eh
          rw [absent] at z
          cases z
  rcases s with (e | ⟨o, e⟩) | c
  · exact both _ e (.inl rfl)
  · exact both _ e (.inr ⟨o, rfl⟩)
  · exact .inl (.inr c)
theorem geh_call1 {fn : Str} {p0 pos0 : Pos} {k : Nat} {ps : List Str} {sp : Sp} {d : PyData} (G : GFH X H h σ scope ce B mp Ok bad) (D : Df X.prog X.w X.K X.mg X.base fn k ps sp) (hr : Room (k + 1) X.A) (kf : scope.names.lookup fn = some .globalImplicit) (h1 : GE X ce B Ok e1 P1)
    (ask : ∀ x, P1 x → sp [x] (fast h H) (fun v H' => DpT X.K H' v d) E0) (df : (fn == ("__debug__" : Str)) = false := by decide) (hs : ∀ env, starEach [e1] env = (false, eval e1 env) :: starEach [] env := by intro _; rfl) :
    GEH X ce B Ok (.Call (.Name fn p0) [e1] [] pos0) (fun v h' => RdT X.K H h bad h' v d) := fun Ex t ok => by
  obtain ⟨f, fd, gf, kp, bd, F, _⟩ := D.ex
  obtain ⟨pins, s, hsh, I⟩ := G.g.inv
  subst hsh
  refine wpAny_Call_Name_kw (Calls.Name_function_global (by rw [G.g.sc]; exact G.g.kind) (by show ce.scope.names.lookup fn = _; rw [G.g.sc]; exact kf) (Calls.loadGlobal_global (by rw [G.g.glob]; exact I.mod.glob.keeps (G.g.inGen t ok).base) gf ?_) df)
  refine PySem.W.callWith_K (h₀ := X.base) I.ok.mod.kin kp ?_ (hs ce) (by rfl)
  rw [hs]
  show wpAny _ B (spliced ((false, eval e1 ce) :: [])) _ _ t
  refine Calls.spliced_cons (thn (h1 _ t ok) fun u1 t1 ⟨⟨x, r1, p1⟩, k1⟩ => ?_)
  have ok1 := G.g.next _ _ ok k1
  refine Calls.spliced_nil ⟨I.ok.mod.kin.keeps (G.g.inGen t1 ok1).base, ?_⟩
  exact gen_callH (q := fun v H' => DpT X.K H' v d) I F bd hr (G.g.inGen t1 ok1) G.g.b0 G.g.bf G.g.bd G.g.bu (.cons r1 .nil) (ask x p1) fun v2 u2 t2 H2 qv hk un rv2 kg => ⟨⟨v2, rv2, rd_call G ok1 qv hk un⟩, k1.trans kg⟩
theorem geh_call2 {fn : Str} {p0 pos0 : Pos} {k : Nat} {ps : List Str} {sp : Sp} {d : PyData} (G : GFH X H h σ scope ce B mp Ok bad) (D : Df X.prog X.w X.K X.mg X.base fn k ps sp) (hr : Room (k + 1) X.A) (kf : scope.names.lookup fn = some .globalImplicit) (h1 : GE X ce B Ok e1 P1) (h2 : GE X ce B Ok e2 P2)
    (ask : ∀ x y, P1 x → P2 y → sp [x, y] (fast h H) (fun v H' => DpT X.K H' v d) E0) (df : (fn == ("__debug__" : Str)) = false := by decide) (hs : ∀ env, starEach [e1, e2] env = (false, eval e1 env) :: starEach [e2] env := by intro _; rfl) (hs2 : ∀ env, starEach [e2] env = (false, eval e2 env) :: starEach [] env := by intro _; rfl) :
    GEH X ce B Ok (.Call (.Name fn p0) [e1, e2] [] pos0) (fun v h' => RdT X.K H h bad h' v d) := fun Ex t ok => by
  obtain ⟨f, fd, gf, kp, bd, F, _⟩ := D.ex
  obtain ⟨pins, s, hsh, I⟩ := G.g.inv
  subst hsh
  refine wpAny_Call_Name_kw (Calls.Name_function_global (by rw [G.g.sc]; exact G.g.kind) (by show ce.scope.names.lookup fn = _; rw [G.g.sc]; exact kf) (Calls.loadGlobal_global (by rw [G.g.glob]; exact I.mod.glob.keeps (G.g.inGen t ok).base) gf ?_) df)
  refine PySem.W.callWith_K (h₀ := X.base) I.ok.mod.kin kp ?_ (hs ce) (by rw [hs2]; rfl)
  rw [hs, hs2]
  show wpAny _ B (spliced ((false, eval e1 ce) :: (false, eval e2 ce) :: [])) _ _ t
  refine Calls.spliced_cons (thn (h1 _ t ok) fun u1 t1 ⟨⟨x, r1, p1⟩, k1⟩ => ?_)
  have ok1 := G.g.next _ _ ok k1
  refine Calls.spliced_cons (thn (h2 _ t1 ok1) fun u2 t2 ⟨⟨y, r2, p2⟩, k2⟩ => ?_)
  have ok2 := G.g.next _ _ ok1 k2
  refine Calls.spliced_nil ⟨I.ok.mod.kin.keeps (G.g.inGen t2 ok2).base, ?_⟩
  exact gen_callH (q := fun v H' => DpT X.K H' v d) I F bd hr (G.g.inGen t2 ok2) G.g.b0 G.g.bf G.g.bd G.g.bu (.cons r1 (.cons r2 .nil)) (ask x y p1 p2) fun v2 u3 t3 H2 qv hk un rv2 kg => ⟨⟨v2, rv2, rd_call G ok2 qv hk un⟩, (k1.trans k2).trans kg⟩
end
section
variable {X : Cx} {pins : List (Addr × Obj)} {σ : L2.St} {H1 : Hp} {h0 : Heap} {P g : Addr} {t5 : Shared} {wr' fs' bad : List Addr} {St' : Nat → Shared → Prop} {L : List Nat} {pos : Pos} {Q : VK}
theorem items_rd {d : Nat → PyData} {acc : Array Value} {h : Heap} (a : ItemsH (fun j y h => ∃ i, L[j]? = some i ∧ ∃ v, RelV v y ∧ RdT X.K H1 h0 bad h v (d i)) acc L.length h) : ∃ ys, Vals ys acc.toList ∧ RdTAll X.K H1 h0 bad h ys (L.map d) := by
  have go : ∀ (M : List Nat) (l : List Value), l.length = M.length → (∀ j y, l[j]? = some y → ∃ i, M[j]? = some i ∧ ∃ v, RelV v y ∧ RdT X.K H1 h0 bad h v (d i)) → ∃ ys, Vals ys l ∧ RdTAll X.K H1 h0 bad h ys (M.map d) := fun M => by
    induction M with
    | nil =>
      intro l hl _
      cases l with
      | nil =>
        exact ⟨[], .nil, .nil⟩
      | cons a r => cases hl
    | cons m r ih =>
      intro l hl hh
      cases l with
      | nil => cases hl
      | cons a s =>
        obtain ⟨i, hi, v, rv, rd⟩ := hh 0 a rfl
        have e : m = i := Option.some.inj hi
        subst e
        obtain ⟨ys, vr, rr⟩ := ih s (Nat.succ.inj hl) fun j y hj => hh (j + 1) y hj
        exact ⟨v :: ys, .cons rv vr, .cons rd rr⟩
  exact go L acc.toList (by rw [Array.length_toList]; exact a.1) fun j y hj => a.2 j y (by simpa using hj)
theorem tup_endH {d : Nat → PyData} (wb : ∀ b ∈ wr', b ∈ bad) (fb : ∀ b ∈ fs', b ∈ bad) (Sg : StandsH X g t5 wr' fs' L.length (fun j y h => ∃ i, L[j]? = some i ∧ ∃ v, RelV v y ∧ RdT X.K H1 h0 bad h v (d i)) St')
    (hH : ∀ b u, H1 b = some u → ∃ o, h0.get? b = some o) (hP : ∃ q, H1 P = some (.tbl q))
    (on : ∀ (t' : Shared) (N : Hp), MovedV wr' fs' t5 t' → (∀ b u, N b = some u → ∃ o xs, u = .frz o (.tup xs) ∧ ObjOk X.prog X.w N t'.heap b u) → ∃ H2, TabG H2 P ∧ (∀ b u, b ≠ P → H1 b = some u → H2 b = some u) ∧ (∀ b u, H1 b = none → h0.get? b = none → N b = some u → H2 b = some u) ∧ Inv X pins σ H2 t') (l9 : L.length ≤ sizeLine)
    (q : ∀ H2 l, But P H1 H2 → TabG H2 P → DpT X.K H2 (.ref l) (.tuple (L.map d)) → Q (.ref l) H2) :
    wpAny (model X.prog X.w) X.A (spliced (backTo pos (starEach [] X.env))) (fun vs t6 => wpAny (model X.prog X.w) X.A (call (.type "tuple") (.ref g :: vs)) (EP X pins σ Q) X.xe t6) X.xe t5 := by
  refine Calls.spliced_nil (call_tuple_genH (bad := bad) (WalksH.down (A := X.A.in1.in1.in1) Sg.walk) wb fb (fun j v h h' ⟨i, hi, v2, r, rd⟩ k => ⟨i, hi, v2, r, rd.stay k⟩) l9 Sg.ty Sg.st Sg.low (fun z => Nat.lt_irrefl _ (Sg.wlow _ z)) (fun z => Nat.lt_irrefl _ (Sg.flow _ z)) (fun i t2 h' tk st2 k2 => Sg.frame i t2 h' tk _ (Nat.le_refl _) st2 k2) fun t' acc mv items => ?_)
  obtain ⟨H2, tb, k1, k2, J⟩ := on t' (allT t'.heap) mv fun b u e => allT_ok e
  obtain ⟨ys, rv, rd⟩ := items_rd items
  have ly : ys.length ≤ sizeLine := by
    rw [rv.length, Array.length_toList, items.1]
    exact l9
  have dy : DpTAll X.K H2 ys (L.map d) := RdTAll.to (fun a xs hh => by
    rcases hh with s | n
    · rcases s with (e | ⟨o, e⟩) | c
      · refine .inl (.inl (k1 _ _ (fun z => ?_) e))
        obtain ⟨q, hq⟩ := hP
        rw [z, hq] at e
        cases e
      · refine .inl (.inr ⟨o, k1 _ _ (fun z => ?_) e⟩)
        obtain ⟨q, hq⟩ := hP
        rw [z, hq] at e
        cases e
      · exact .inr c
    · obtain ⟨o, e⟩ := allT_new n
      refine .inl (.inr ⟨o, k2 _ _ ?_ n.n0 e⟩)
      cases eh : H1 a with
      | none => rfl
      | some u =>
        obtain ⟨o2, z⟩ := hH a u eh
        rw [n.n0] at z
        cases z) rd
  have fresh := J.hok.fresh (Nat.le_refl t'.heap.objs.size)
  have I2 : Inv X pins σ (upd H2 t'.heap.objs.size (.tup ys)) { t' with heap := t'.heap.push { cls := .type "tuple", data := .seq acc } } :=
    J.laid (t' := t'.toks) (fun b o e => Heap.get?_push_of_some _ e) (Nat.le_refl _) (show ObjOk X.prog X.w _ _ _ (.tup _) from ⟨ly, acc.toList, rv, by
      (have e : acc.toList.toArray = acc := by simp)
      rw [e]
      exact IsTup.new _ _⟩)
  have sm : Same H2 (upd H2 t'.heap.objs.size (.tup ys)) := same_upd fresh
  refine ⟨.ref t'.heap.objs.size, _, I2, rfl, q _ _ (fun b u nb e => sm b u (k1 b u nb e)) (TabG.same (P := P) tb sm) (.tup (SqT.of upd_same) (dy.keep (Same.kt sm)))⟩
end
section
variable {X : Cx}
/-- what is told of the tests and of the new thing at each place -/
structure AsksH (X : Cx) (scope : Scope) (σ : L2.St) (H1 : Hp) (Row : Nat → (Str → Option Value) → Prop) (ifs : List Expr) (elt : Expr) (pz : Nat → Bool) (d : Nat → PyData) : Prop where
  tst : ∀ (h : Heap), HOk X.prog X.w H1 h → ∀ (bad : List Addr) (ce : Env) (B : Around) (mp : Str → Option Value) (Ok : Shared → Prop) (i : Nat), Row i mp → GFH X H1 h σ scope ce B mp Ok bad → GT X ce B Ok ifs (pz i)
  elt : ∀ (h : Heap), HOk X.prog X.w H1 h → ∀ (bad : List Addr) (ce : Env) (B : Around) (mp : Str → Option Value) (Ok : Shared → Prop) (i : Nat), Row i mp → pz i = true → GFH X H1 h σ scope ce B mp Ok bad → GEH X ce B Ok elt (fun v h' => RdT X.K H1 h bad h' v (d i))
def tTupH (X : Cx) (P : Addr) (scope : Scope) (ifs : List Expr) (elt : Expr) (ti : TI) : TE := fun σ H Q => ti σ H fun n Row H1 => ∃ (pz : Nat → Bool) (d : Nat → PyData), AsksH X scope σ H1 Row ifs elt pz d ∧ n ≤ 1000 ∧
  ∀ H2 l, But P H1 H2 → TabG H2 P → DpT X.K H2 (.ref l) (.tuple (((List.range n).filter pz).map d)) → Q (.ref l) H2
variable {c P : Addr} {iter tgt elt : Expr} {ifs : List Expr} {p gpos pos : Pos} {scope : Scope} {ti : TI} {k : Nat}
theorem pe_tupH (hr : Room k X.A) (hg : Gl X "tuple") (hma : X.mg "tuple" = none) (TB : TabB X.base X.mg c P) (hcode : X.env.code = .ref c) (S : GenS0 X.env scope) (hi : IR X P iter tgt scope ti) (nofold : ∀ v, genFold iter X.env v = pure v)
    (he : starEach [genG elt iter tgt ifs scope gpos] X.env = (false, eval (genG elt iter tgt ifs scope gpos) X.env) :: starEach [] X.env := by rfl) : PE X (.Call (.Name "tuple" p) [genG elt iter tgt ifs scope gpos] [] pos) (tTupH X P scope ifs elt ti) := by
  (refine ⟨fun pins s σ H Q I h => ?_⟩)
  refine wpAny_Call_Name_kw (ld_blt (u := .type "tuple") I hg hma (by decide +kernel) ?_)
  refine PyProof.Rows.callWith_type1 (T := "tuple") ?_ he (by rfl)
  rw [he]
  show wpAny _ _ (spliced ((false, eval (genG elt iter tgt ifs scope gpos) X.env) :: backTo pos (starEach [] X.env))) _ _ s
  refine Calls.spliced_cons (genexpH hr.hd S.co (closure_ok S.free) S.cell S.dot S.kind (by have := hr.dp; omega) ?_ nofold)
  refine hi.run pins s σ H _ _ I h fun H1 s0 hz I fp wr n Bd St I0 tab rdy live ⟨pz, d, ask, n9, q⟩ => ?_
  refine gen_coreH (F := fun bad i v h' => RdT X.K H1 s0.heap bad h' v (d i)) (pz := pz) I0 hr TB hcode S rdy live tab (fun bad ce B mp Ok i bd G => ask.tst _ I0.hok bad ce B mp Ok i bd G) (fun bad ce B mp Ok i bd pi G => ask.elt _ I0.hok bad ce B mp Ok i bd pi G) (fun bad g t5 wr' fs' St' wb fb Sg on => tup_endH (P := P) (H1 := H1) wb fb Sg (fun b u e => ?_) ?_ on ?_ q)
  · exact obj_there (I0.hok b u e)
  · obtain ⟨ptab, hP, _⟩ := tab
    exact ⟨_, hP⟩
  · refine Nat.le_of_lt (small1000 (Nat.le_trans (List.length_filter_le _ _) ?_))
    rw [List.length_drop, List.length_range]
    omega
end
end V3
set_option maxHeartbeats 4100000
namespace V3
open PySem.Spec PySem L2 PyProof.Rows RZ GxR
def rTupOf (K : PySem.W.Frag) : List V → Hp → VK → Prop := fun xs H Q => ∃ p ys, xs = [.ref p] ∧ ((SqL K H p ys ∧ ∀ l : Addr, H l = none → Q (.ref l) (upd H l (.tup ys))) ∨ (SqT K H p ys ∧ Q (.ref p) H))
theorem call_tuple_ofK {X : Cx} {K : PySem.W.Frag} (h : X.K = K) : CallR X (.type "tuple") (rTupOf K) := by
  subst h
  exact call_tuple_of
end V3
/-! Rows of rational numbers: put in order, laced one with the other, the rows between. -/
namespace V3
abbrev SrtQ (l : List Rat) : Prop := l.Pairwise fun a b => b ≤ a
/-- x is not below e -/
def geQ (e x : Rat) : Bool := !decide (x < e)
theorem geQ_iff {e x : Rat} : geQ e x = true ↔ e ≤ x := by
  unfold geQ
  simp [Rat.not_lt]
def insQ : List Rat → Rat → List Rat
  | [], e => [e]
  | a :: r, e => if geQ e a = true then a :: insQ r e else e :: a :: r
def insAtQ (l : List Rat) (e : Rat) : List Rat := l.take (l.filter (geQ e)).length ++ [e] ++ l.drop (l.filter (geQ e)).length
theorem insAt_insQ : ∀ {l : List Rat} {e : Rat}, SrtQ l → insAtQ l e = insQ l e
  | [], e, _ => rfl
  | a :: r, e, h => by
    (obtain ⟨h1, h2⟩ := List.pairwise_cons.mp h)
    have ih := insAt_insQ (e := e) h2
    cases g : geQ e a with
    | true =>
      unfold insAtQ insQ
      rw [List.filter_cons_of_pos g, if_pos g, ← ih]
      rfl
    | false =>
      have hn : r.filter (geQ e) = [] := by
        rw [List.filter_eq_nil_iff]
        intro x hx c
        have c1 := geQ_iff.mp c
        have c2 := Rat.le_trans c1 (h1 x hx)
        rw [← geQ_iff, g] at c2
        cases c2
      unfold insAtQ insQ
      rw [List.filter_cons_of_neg (by rw [g]; simp), hn, if_neg (by rw [g]; simp)]
      rfl
theorem insQ_perm : ∀ (l : List Rat) (e : Rat), (insQ l e).Perm (e :: l)
  | [], e => .refl _
  | a :: r, e => by
    unfold insQ
    split
    · exact ((insQ_perm r e).cons a).trans (.swap _ _ _)
    · exact .refl _
theorem insQ_srt : ∀ {l : List Rat} {e : Rat}, SrtQ l → SrtQ (insQ l e)
  | [], e, _ => List.pairwise_singleton _ _
  | a :: r, e, h => by
    (obtain ⟨h1, h2⟩ := List.pairwise_cons.mp h)
    unfold insQ
    split
    · rename_i g
      refine List.pairwise_cons.mpr ⟨fun x hx => ?_, insQ_srt h2⟩
      rcases List.mem_cons.mp ((insQ_perm r e).mem_iff.mp hx) with rfl | hx
      · exact geQ_iff.mp g
      · exact h1 x hx
    · rename_i g
      have d : a ≤ e := by
        rw [geQ_iff] at g
        exact Rat.le_of_lt (Rat.not_le.mp g)
      refine List.pairwise_cons.mpr ⟨fun x hx => ?_, h⟩
      (rcases List.mem_cons.mp hx with rfl | hx)
      · exact d
      · exact Rat.le_trans (h1 x hx) d
def downQ (qs : List Rat) : List Rat := qs.foldl insAtQ []
theorem downQ_more {qs : List Rat} {i : Nat} {q : Rat} (h : qs[i]? = some q) : downQ (qs.take (i + 1)) = insAtQ (downQ (qs.take i)) q := by
  unfold downQ
  (rw [take_more h, List.foldl_append])
  rfl
theorem downQ_fold : ∀ (qs : List Rat) (l : List Rat), SrtQ l → (qs.foldl insAtQ l).Perm (l ++ qs) ∧ SrtQ (qs.foldl insAtQ l)
  | [], l, h => by
    rw [List.append_nil]
    exact ⟨.refl _, h⟩
  | q :: qs, l, h => by
    have e := insAt_insQ (e := q) h
    obtain ⟨k1, k2⟩ := downQ_fold qs (insAtQ l q) (by rw [e]; exact insQ_srt h)
    refine ⟨k1.trans ?_, k2⟩
    rw [e]
    exact ((insQ_perm l q).append_right qs).trans (List.perm_middle.symm)
theorem downQ_perm (qs : List Rat) : (downQ qs).Perm qs := (downQ_fold qs [] .nil).1
theorem downQ_srt (qs : List Rat) : SrtQ (downQ qs) := (downQ_fold qs [] .nil).2
theorem downQ_len (qs : List Rat) : (downQ qs).length = qs.length := (downQ_perm qs).length_eq
theorem downQ_mem {qs : List Rat} {x : Rat} : x ∈ downQ qs ↔ x ∈ qs := (downQ_perm qs).mem_iff
/-- the place i, 0 where there is none -/
abbrev gq (l : List Rat) (i : Nat) : Rat := l.getD i 0
theorem gq_of {l : List Rat} {i : Nat} {x : Rat} (h : l[i]? = some x) : gq l i = x := by
  unfold gq
  rw [List.getD_eq_getElem?_getD, h]
  rfl
theorem gq_get {l : List Rat} {i : Nat} (h : i < l.length) : l[i]? = some (gq l i) := by
  unfold gq
  rw [List.getD_eq_getElem?_getD, List.getElem?_eq_getElem h]
  rfl
theorem gq_mem {l : List Rat} {i : Nat} (h : i < l.length) : gq l i ∈ l := List.mem_of_getElem? (gq_get h)
theorem SrtQ.le {l : List Rat} (h : SrtQ l) {i j : Nat} (ij : i ≤ j) (hj : j < l.length) : gq l j ≤ gq l i := by
  rcases Nat.lt_or_eq_of_le ij with k | k
  · have hi : i < l.length := by omega
    have := List.pairwise_iff_getElem.mp h i j hi hj k
    rw [gq_of (List.getElem?_eq_getElem hi), gq_of (List.getElem?_eq_getElem hj)]
    exact this
  · subst k
    exact Rat.le_refl
theorem SrtQ.of {l : List Rat} (h : ∀ i, i + 1 < l.length → gq l (i + 1) ≤ gq l i) : SrtQ l := by
  have all : ∀ d i, i + d < l.length → gq l (i + d) ≤ gq l i := by
    intro d
    induction d with
    | zero => intro i _; exact Rat.le_refl
    | succ d ih =>
      intro i hi
      exact Rat.le_trans (h (i + d) (by omega)) (ih i (by omega))
  rw [SrtQ, List.pairwise_iff_getElem]
  intro i j hi hj k
  have := all (j - i) i (by omega)
  rw [show i + (j - i) = j by omega] at this
  rw [gq_of (List.getElem?_eq_getElem hi), gq_of (List.getElem?_eq_getElem hj)] at this
  exact this
/-- laced -/
def Lc (tops lows : List Rat) : Prop := ∀ i, i < lows.length → gq lows i ≤ gq tops i ∧ gq tops (i + (tops.length - lows.length)) ≤ gq lows i
def lacB (tops lows : List Rat) : Bool := (List.range lows.length).all fun i => !decide (gq tops i < gq lows i) && !decide (gq lows i < gq tops (i + (tops.length - lows.length)))
theorem lac_iff {tops lows : List Rat} : lacB tops lows = true ↔ Lc tops lows := by
  unfold lacB Lc
  rw [List.all_eq_true]
  constructor
  · intro h i hi
    (have := h i (List.mem_range.mpr hi))
    simpa [Rat.not_lt] using this
  · intro h i hi
    have := h i (List.mem_range.mp hi)
    simpa [Rat.not_lt] using this
def oppQ (l : List Rat) : List Rat := (l.map fun x => -x).reverse
theorem oppQ_len (l : List Rat) : (oppQ l).length = l.length := by
  unfold oppQ
  rw [List.length_reverse, List.length_map]
theorem oppQ_get {l : List Rat} {i : Nat} (h : i < l.length) : gq (oppQ l) i = -gq l (l.length - 1 - i) := by
  apply gq_of
  unfold oppQ
  rw [List.getElem?_reverse (by rw [List.length_map]; exact h), List.length_map, List.getElem?_map, gq_get (by omega)]
  rfl
theorem oppQ_srt {l : List Rat} (h : SrtQ l) : SrtQ (oppQ l) := SrtQ.of fun i hi => by
  rw [oppQ_len] at hi
  rw [oppQ_get (by omega), oppQ_get (by omega)]
  have := h.le (i := l.length - 1 - (i + 1)) (j := l.length - 1 - i) (by omega) (by omega)
  grind
theorem lac_opp {tops lows : List Rat} (l : lows.length ≤ tops.length) : lacB (oppQ tops) (oppQ lows) = lacB tops lows := by
  rw [Bool.eq_iff_iff, lac_iff, lac_iff]
  unfold Lc
  rw [oppQ_len, oppQ_len]
  constructor
  · intro h i hi
    obtain ⟨a, b⟩ := h (lows.length - 1 - i) (by omega)
    rw [oppQ_get (by omega), oppQ_get (by omega)] at a
    rw [oppQ_get (by omega), oppQ_get (by omega)] at b
    rw [show lows.length - 1 - (lows.length - 1 - i) = i by omega] at a b
    rw [show tops.length - 1 - (lows.length - 1 - i) = i + (tops.length - lows.length) by omega] at a
    rw [show tops.length - 1 - (lows.length - 1 - i + (tops.length - lows.length)) = i by omega] at b
    constructor <;> grind
  · intro h i hi
    obtain ⟨a, b⟩ := h (lows.length - 1 - i) (by omega)
    rw [oppQ_get (by omega), oppQ_get (by omega), oppQ_get (by omega)]
    rw [show lows.length - 1 - i + (tops.length - lows.length) = tops.length - 1 - i by omega] at b
    rw [show tops.length - 1 - (i + (tops.length - lows.length)) = lows.length - 1 - i by omega]
    constructor <;> grind
theorem Lc.trans {a b c : List Rat} (h : Lc a b) (k : Lc b c) (l1 : b.length ≤ a.length) (l2 : c.length ≤ b.length) : Lc a c := fun i hi => by
  obtain ⟨k1, k2⟩ := k i hi
  obtain ⟨h1, _⟩ := h i (by omega)
  obtain ⟨_, h2⟩ := h (i + (b.length - c.length)) (by omega)
  rw [show i + (b.length - c.length) + (a.length - b.length) = i + (a.length - c.length) by omega] at h2
  exact ⟨Rat.le_trans k1 h1, Rat.le_trans h2 k2⟩
/-- the row under: behind i others -/
def undV (now others : List Rat) (i j : Nat) : Rat := if now.length - 1 - others.length ≤ j ∧ j - (now.length - 1 - others.length) < i ∧ gq others (j - (now.length - 1 - others.length)) < gq now j then gq others (j - (now.length - 1 - others.length)) else gq now j
def undI (now others : List Rat) (i : Nat) : List Rat := (List.range (now.length - 1)).map (undV now others i)
theorem undI_len (now others : List Rat) (i : Nat) : (undI now others i).length = now.length - 1 := by
  unfold undI
  (rw [List.length_map, List.length_range])
theorem undI_get {now others : List Rat} {i j : Nat} (h : j < now.length - 1) : gq (undI now others i) j = undV now others i j := by
  apply gq_of
  unfold undI
  rw [List.getElem?_map, List.getElem?_range h]
  rfl
theorem list_ext {a b : List Rat} (l : a.length = b.length) (h : ∀ i, i < a.length → gq a i = gq b i) : a = b := by
  apply List.ext_getElem? 
  intro i
  by_cases c : i < a.length
  · rw [gq_get c, gq_get (by omega), h i c]
  · rw [List.getElem?_eq_none (by omega), List.getElem?_eq_none (by omega)]
theorem undI_zero (now others : List Rat) : undI now others 0 = now.take (now.length - 1) := by
  apply list_ext
  · rw [undI_len, List.length_take]
    omega
  · intro i hi
    rw [undI_len] at hi
    rw [undI_get hi]
    have : gq (now.take (now.length - 1)) i = gq now i := by
      apply gq_of
      rw [List.getElem?_take_of_lt (by omega), gq_get (by omega)]
    rw [this]
    unfold undV
    rw [if_neg (by omega)]
theorem gq_set {l : List Rat} {i j : Nat} {x : Rat} (h : j < l.length) : gq (l.set i x) j = if i = j then x else gq l j := by
  apply gq_of
  rw [List.getElem?_set]
  split
  · rename_i e
    subst e
    rw [if_pos h]
  · exact gq_get h
/-- where the other one is below, it is put there -/
theorem undI_more {now others : List Rat} {i : Nat} (hi : i < others.length) (hl : others.length + 1 ≤ now.length) :
    undI now others (i + 1) = if gq others i < gq (undI now others i) (i + (now.length - 1 - others.length)) then (undI now others i).set (i + (now.length - 1 - others.length)) (gq others i) else undI now others i := by
  have e0 : gq (undI now others i) (i + (now.length - 1 - others.length)) = gq now (i + (now.length - 1 - others.length)) := by
    rw [undI_get (by omega)]
    unfold undV
    rw [if_neg (by omega)]
  rw [e0]
  split
  · rename_i c
    apply list_ext
    · rw [List.length_set, undI_len, undI_len]
    · intro j hj
      rw [undI_len] at hj
      rw [gq_set (by rw [undI_len]; exact hj), undI_get hj, undI_get hj]
      unfold undV
      split
      · rename_i h1
        split
        · rename_i h2
          congr 1
          omega
        · rename_i h2
          rw [if_pos ⟨h1.1, by omega, h1.2.2⟩]
      · rename_i h1
        split
        · rename_i h2
          exfalso
          apply h1
          rw [← h2]
          exact ⟨by omega, by omega, by rw [show i + (now.length - 1 - others.length) - (now.length - 1 - others.length) = i by omega]; exact c⟩
        · rename_i h2
          rw [if_neg fun z => h1 ⟨z.1, by omega, z.2.2⟩]
  · rename_i c
    apply list_ext
    · rw [undI_len, undI_len]
    · intro j hj
      rw [undI_len] at hj
      rw [undI_get hj, undI_get hj]
      unfold undV
      split
      · rename_i h1
        by_cases h2 : j - (now.length - 1 - others.length) = i
        · exfalso
          apply c
          rw [← h2, show j - (now.length - 1 - others.length) + (now.length - 1 - others.length) = j by omega]
          exact h1.2.2
        · rw [if_pos ⟨h1.1, by omega, h1.2.2⟩]
      · rename_i h1
        rw [if_neg fun z => h1 ⟨z.1, by omega, z.2.2⟩]
def undR (now others : List Rat) : List Rat := undI now others others.length
theorem undR_get {now others : List Rat} {j : Nat} (h : j < now.length - 1) (hl : others.length + 1 ≤ now.length) : gq (undR now others) j = if now.length - 1 - others.length ≤ j ∧ gq others (j - (now.length - 1 - others.length)) < gq now j then gq others (j - (now.length - 1 - others.length)) else gq now j := by
  unfold undR
  rw [undI_get h]
  unfold undV
  by_cases c : now.length - 1 - others.length ≤ j
  · have : j - (now.length - 1 - others.length) < others.length := by omega
    simp [c, this]
  · rw [if_neg fun z => c z.1, if_neg fun z => c z.1]
theorem undR_len (now others : List Rat) : (undR now others).length = now.length - 1 := undI_len _ _ _
theorem undR_mem {now others : List Rat} {x : Rat} (hl : others.length + 1 ≤ now.length) (h : x ∈ undR now others) : x ∈ now ∨ x ∈ others := by
  obtain ⟨j, hj⟩ := List.getElem?_of_mem h
  have lj := (List.getElem?_eq_some_iff.mp hj).1
  rw [undR_len] at lj
  have e := gq_of hj
  rw [undR_get lj hl] at e
  split at e
  · exact .inr (e ▸ gq_mem (by omega))
  · exact .inl (e ▸ gq_mem (by omega))
theorem undR_ok {now others : List Rat} (sn : SrtQ now) (so : SrtQ others) (lc : Lc now others) (hl : others.length + 2 ≤ now.length) : SrtQ (undR now others) ∧ Lc now (undR now others) ∧ Lc (undR now others) others := by
  obtain ⟨st, hst⟩ : ∃ st, st = now.length - 1 - others.length := ⟨_, rfl⟩
  have g : ∀ j, j < now.length - 1 → gq (undR now others) j = if st ≤ j ∧ gq others (j - st) < gq now j then gq others (j - st) else gq now j := fun j hj => by
    rw [undR_get hj (by omega), ← hst]
  have lo : ∀ j, st ≤ j → j < now.length - 1 → gq now (j + 1) ≤ gq others (j - st) := fun j h1 h2 => by
    have := (lc (j - st) (by omega)).2
    rw [show j - st + (now.length - others.length) = j + 1 by omega] at this
    exact this
  refine ⟨SrtQ.of fun i hi => ?_, fun i hi => ?_, fun i hi => ?_⟩
  · rw [undR_len] at hi
    rw [g (i + 1) (by omega), g i (by omega)]
    have n1 := sn.le (i := i) (j := i + 1) (by omega) (by omega)
    have o1 : st ≤ i → gq others (i + 1 - st) ≤ gq others (i - st) := fun h => so.le (by omega) (by omega)
    have l1 : st ≤ i → gq now (i + 1) ≤ gq others (i - st) := fun h => lo i h (by omega)
    by_cases c : st ≤ i
    · have o2 := o1 c
      have l2 := l1 c
      have c' : st ≤ i + 1 := by omega
      simp only [c, c', true_and]
      split <;> split <;> grind
    · rw [if_neg (c := st ≤ i ∧ _) fun z => c z.1]
      split <;> grind
  · rw [undR_len] at hi
    rw [undR_len, show now.length - (now.length - 1) = 1 by omega, g i hi]
    have n1 := sn.le (i := i) (j := i + 1) (by omega) (by omega)
    split
    · rename_i c
      exact ⟨Rat.le_of_lt c.2, lo i c.1 hi⟩
    · exact ⟨Rat.le_refl, n1⟩
  · rw [undR_len]
    rw [show now.length - 1 - others.length = st by omega, g i (by omega), g (i + st) (by omega)]
    have a := (lc i hi).1
    have o1 : st ≤ i → gq others i ≤ gq others (i - st) := fun h => so.le (by omega) hi
    rw [show i + st - st = i by omega]
    constructor
    · split
      · rename_i c
        exact o1 c.1
      · exact a
    · split
      · exact Rat.le_refl
      · rename_i c
        exact Rat.not_lt.mp fun z => c ⟨by omega, z⟩
/-- a row of so many numbers, the greatest first -/
structure Rw (n : Nat) (q : List Rat) : Prop where
  len : q.length = n
  srt : SrtQ q
  bq : ∀ x ∈ q, Bq 100 x
theorem Rw.opp {n : Nat} {q : List Rat} (h : Rw n q) : Rw n (oppQ q) := ⟨by rw [oppQ_len]; exact h.len, oppQ_srt h.srt, fun x hx => by
  unfold oppQ at hx
  obtain ⟨y, hy, rfl⟩ := List.mem_map.mp (List.mem_reverse.mp hx)
  have := h.bq y hy
  exact ⟨by rw [Rat.neg_num, Int.natAbs_neg]; exact this.n, by rw [Rat.neg_den]; exact this.d⟩⟩
/-- the rows between, so far as they are made -/
structure Ch (tops lows : List Rat) (rows : List (List Rat)) : Prop where
  few : rows.length + lows.length < tops.length
  each : ∀ k, k ≤ rows.length → Rw (tops.length - k) ((tops :: rows).getD k []) ∧ Lc ((tops :: rows).getD k []) lows ∧ ∀ j, j < k → Lc ((tops :: rows).getD j []) ((tops :: rows).getD k [])
theorem getD_app {α : Type} {l : List α} {x d : α} {k : Nat} (h : k < l.length) : (l ++ [x]).getD k d = l.getD k d := by
  rw [List.getD_eq_getElem?_getD, List.getD_eq_getElem?_getD, List.getElem?_append_left h]
theorem getD_last {α : Type} {l : List α} {x d : α} : (l ++ [x]).getD l.length d = x := by
  rw [List.getD_eq_getElem?_getD, List.getElem?_append_right (Nat.le_refl _), Nat.sub_self]
  rfl
theorem Ch.more {tops lows : List Rat} {rows : List (List Rat)} {m : Nat} (h : Ch tops lows rows) (rl : Rw m lows) (more : lows.length + 1 < tops.length - rows.length) : Ch tops lows (rows ++ [undR ((tops :: rows).getD rows.length []) lows]) := by
  obtain ⟨r, lc, _⟩ := h.each rows.length (Nat.le_refl _)
  obtain ⟨now, hn⟩ : ∃ now, now = (tops :: rows).getD rows.length [] := ⟨_, rfl⟩
  rw [← hn] at r lc ⊢
  have ln := r.len
  obtain ⟨s1, l1, l2⟩ := undR_ok r.srt rl.srt lc (by omega)
  have hc : tops :: (rows ++ [undR now lows]) = (tops :: rows) ++ [undR now lows] := rfl
  refine ⟨by rw [List.length_append, List.length_singleton]; omega, fun k hk => ?_⟩
  rw [List.length_append, List.length_singleton] at hk
  rw [hc]
  by_cases e : k ≤ rows.length
  · rw [getD_app (by rw [List.length_cons]; omega)]
    obtain ⟨a, b, c⟩ := h.each k e
    exact ⟨a, b, fun j hj => by rw [getD_app (by rw [List.length_cons]; omega)]; exact c j hj⟩
  · have ek : k = (tops :: rows).length := by rw [List.length_cons]; omega
    subst ek
    rw [getD_last]
    refine ⟨⟨by rw [undR_len, ln, List.length_cons]; omega, s1, fun x hx => ?_⟩, l2, fun j hj => ?_⟩
    · rcases undR_mem (by omega) hx with z | z
      · exact r.bq x z
      · exact rl.bq x z
    · rw [getD_app hj]
      rw [List.length_cons] at hj
      by_cases ej : j = rows.length
      · rw [ej, ← hn]
        exact l1
      · obtain ⟨rj, _, _⟩ := h.each j (by omega)
        obtain ⟨_, _, c⟩ := h.each rows.length (Nat.le_refl _)
        have cj := c j (by omega)
        rw [← hn] at cj
        have lj := rj.len
        exact cj.trans l1 (by omega) (by rw [undR_len]; omega)
theorem Ch.start {tops lows : List Rat} {n : Nat} (rt : Rw n tops) (lc : Lc tops lows) (few : lows.length < tops.length) : Ch tops lows [] := ⟨by simpa using few, fun k hk => by
  have : k = 0 := by simpa using hk
  subst this
  refine ⟨⟨rfl, rt.srt, rt.bq⟩, lc, fun j hj => by omega⟩⟩
end V3
/-! Polynomials as rows of fractions, the lowest power first: what the laws about arrows and changes reckon with. -/
namespace V3
def ev : List Rat → Rat → Rat
  | [], _ => 0
  | c :: r, t => c + t * ev r t
def subP : List Rat → List Rat → List Rat
  | [], _ => []
  | x :: xs, [] => x :: xs
  | x :: xs, y :: ys => (x - y) :: subP xs ys
/-- by a level more -/
def grP (p : List Rat) (a : Rat) : List Rat := subP (0 :: p) (p.map (a * ·))
def lessP (p : List Rat) (c : Rat) (q : List Rat) : List Rat := subP p (q.map (c * ·))
def ofZ (zs : List Rat) : List Rat := zs.foldl grP [1]
/-- the product of the gaps -/
def prG : List Rat → Rat → Rat
  | [], _ => 1
  | z :: r, t => (t - z) * prG r t
theorem subP_len : ∀ (p q : List Rat), (subP p q).length = p.length
  | [], _ => rfl
  | x :: xs, [] => rfl
  | x :: xs, y :: ys => by
    show (subP xs ys).length + 1 = xs.length + 1
    rw [subP_len xs ys]
theorem ev_sub : ∀ (p q : List Rat) (t : Rat), q.length ≤ p.length → ev (subP p q) t = ev p t - ev q t
  | [], [], t, _ => by
    show (0 : Rat) = 0 - 0
    grind
  | [], y :: ys, t, h => by
    simp at h
  | x :: xs, [], t, _ => by
    show ev (x :: xs) t = ev (x :: xs) t - 0
    grind
  | x :: xs, y :: ys, t, h => by
    show x - y + t * ev (subP xs ys) t = x + t * ev xs t - (y + t * ev ys t)
    rw [ev_sub xs ys t (by simpa using h)]
    grind
theorem ev_map (a : Rat) : ∀ (p : List Rat) (t : Rat), ev (p.map (a * ·)) t = a * ev p t
  | [], t => by
    show (0 : Rat) = a * 0
    grind
  | x :: xs, t => by
    show a * x + t * ev (xs.map (a * ·)) t = a * (x + t * ev xs t)
    rw [ev_map a xs t]
    grind
theorem gr_len (p : List Rat) (a : Rat) : (grP p a).length = p.length + 1 := by
  unfold grP
  rw [subP_len]
  rfl
theorem ev_gr (p : List Rat) (a t : Rat) : ev (grP p a) t = (t - a) * ev p t := by
  unfold grP
  rw [ev_sub _ _ _ (by rw [List.length_map, List.length_cons]; omega), ev_map]
  show 0 + t * ev p t - a * ev p t = _
  grind
theorem less_len (p : List Rat) (c : Rat) (q : List Rat) : (lessP p c q).length = p.length := subP_len _ _
theorem ev_less (p : List Rat) (c : Rat) (q : List Rat) (t : Rat) (h : q.length ≤ p.length) : ev (lessP p c q) t = ev p t - c * ev q t := by
  unfold lessP
  rw [ev_sub _ _ _ (by rw [List.length_map]; exact h), ev_map]
theorem ofZ_go (zs : List Rat) : ∀ p : List Rat, (zs.foldl grP p).length = zs.length + p.length ∧ ∀ t, ev (zs.foldl grP p) t = prG zs t * ev p t := by
  induction zs with
  | nil =>
    intro p
    refine ⟨by simp, fun t => ?_⟩
    show ev p t = 1 * ev p t
    grind
  | cons z r ih =>
    intro p
    obtain ⟨h1, h2⟩ := ih (grP p z)
    refine ⟨?_, fun t => ?_⟩
    · show (r.foldl grP (grP p z)).length = r.length + 1 + p.length
      rw [h1, gr_len]
      omega
    · show ev (r.foldl grP (grP p z)) t = (t - z) * prG r t * ev p t
      rw [h2, ev_gr]
      grind
theorem ofZ_len (zs : List Rat) : (ofZ zs).length = zs.length + 1 := (ofZ_go zs [1]).1
theorem ev_ofZ (zs : List Rat) (t : Rat) : ev (ofZ zs) t = prG zs t := by
  show ev (zs.foldl grP [1]) t = _
  rw [(ofZ_go zs [1]).2 t]
  show prG zs t * (1 + t * 0) = _
  grind
/-! ### few zeros -/
def hdP : List Rat → Rat
  | [] => 0
  | c :: _ => c
def tlP : List Rat → List Rat
  | [] => []
  | _ :: r => r
theorem ev_hd (t : Rat) : ∀ p : List Rat, ev p t = hdP p + t * ev (tlP p) t
  | [] => by
    show (0 : Rat) = 0 + t * 0
    grind
  | c :: r => rfl
/-- the row divided at a -/
def hsP (a : Rat) : List Rat → List Rat
  | [] => []
  | c :: r => (c + a * hdP (hsP a r)) :: hsP a r
theorem hs_len (a : Rat) : ∀ p : List Rat, (hsP a p).length = p.length
  | [] => rfl
  | c :: r => by
    show (hsP a r).length + 1 = r.length + 1
    rw [hs_len a r]
theorem ev_hs (a t : Rat) : ∀ p : List Rat, ev p t = hdP (hsP a p) + (t - a) * ev (tlP (hsP a p)) t
  | [] => by
    show (0 : Rat) = 0 + (t - a) * 0
    grind
  | c :: r => by
    show c + t * ev r t = c + a * hdP (hsP a r) + (t - a) * ev (hsP a r) t
    rw [ev_hs a t r, ev_hd t (hsP a r)]
    grind
theorem hs_at (a : Rat) (p : List Rat) : ev p a = hdP (hsP a p) := by
  rw [ev_hs a a p]
  grind
theorem hs_zero (a : Rat) : ∀ p : List Rat, (∀ c ∈ hsP a p, c = 0) → ∀ c ∈ p, c = 0
  | [], _ => fun c hnil => by cases hnil
  | d :: r, h => by
    have h1 : ∀ c ∈ hsP a r, c = 0 := fun c hc => h c (List.mem_cons_of_mem _ hc)
    have h2 := hs_zero a r h1
    have h3 : hdP (hsP a r) = 0 := by
      cases e : hsP a r with
      | nil => rfl
      | cons x y =>
        show x = 0
        exact h1 x (by rw [e]; exact List.mem_cons_self)
    have h4 : d + a * hdP (hsP a r) = 0 := h _ List.mem_cons_self
    rw [h3] at h4
    intro c hc
    rcases List.mem_cons.mp hc with z | z
    · rw [z]
      grind
    · exact h2 c z
theorem ev_zero : ∀ (p : List Rat) (t : Rat), (∀ c ∈ p, c = 0) → ev p t = 0
  | [], _, _ => rfl
  | c :: r, t, h => by
    show c + t * ev r t = 0
    rw [h c List.mem_cons_self, ev_zero r t fun x hx => h x (List.mem_cons_of_mem _ hx)]
    grind
/-- a row that vanishes at as many unlike numbers as it is long is all noughts -/
theorem vanish : ∀ (pts p : List Rat), p.length = pts.length → pts.Nodup → (∀ x ∈ pts, ev p x = 0) → ∀ c ∈ p, c = 0
  | [], p, l, _, _ => by
    have : p = [] := List.length_eq_zero_iff.mp l
    rw [this]
    exact fun c h => by cases h
  | a :: pts, p, l, nd, hz => by
    cases p with
    | nil => exact fun c hnil => by cases hnil
    | cons c r =>
      have z0 := hz a List.mem_cons_self
      rw [hs_at] at z0
      have nd2 := List.nodup_cons.mp nd
      have q0 : ∀ x ∈ hsP a r, x = 0 := vanish pts (hsP a r) (by rw [hs_len]; simpa using l) nd2.2 fun x hx => by
        have e := hz x (List.mem_cons_of_mem _ hx)
        rw [ev_hs a x (c :: r), z0] at e
        have e : 0 + (x - a) * ev (hsP a r) x = 0 := e
        have ne : x - a ≠ 0 := fun z => nd2.1 (by
          have : x = a := by grind
          rw [← this]
          exact hx)
        have e2 : (x - a) * ev (hsP a r) x = 0 := by grind
        rcases Rat.mul_eq_zero.mp e2 with h | h
        · exact absurd h ne
        · exact h
      refine hs_zero a (c :: r) fun x hx => ?_
      rcases List.mem_cons.mp hx with z | z
      · rw [z]
        exact z0
      · exact q0 x z
theorem subP_zero : ∀ (p q : List Rat), p.length = q.length → (∀ c ∈ subP p q, c = 0) → p = q
  | [], [], _, _ => rfl
  | [], _ :: _, l, _ => by simp at l
  | _ :: _, [], l, _ => by simp at l
  | x :: xs, y :: ys, l, h => by
    have h1 : x - y = 0 := h _ List.mem_cons_self
    have h2 := subP_zero xs ys (by simpa using l) fun c hc => h c (List.mem_cons_of_mem _ hc)
    rw [h2]
    have : x = y := by grind
    rw [this]
/-- two rows of one length that agree at as many unlike numbers are one -/
theorem rows_eq {pts p q : List Rat} (lp : p.length = pts.length) (lq : q.length = pts.length) (nd : pts.Nodup) (h : ∀ x ∈ pts, ev p x = ev q x) : p = q := by
  refine subP_zero p q (by omega) (vanish pts _ (by rw [subP_len]; exact lp) nd fun x hx => ?_)
  rw [ev_sub p q x (by omega), h x hx]
  grind
end V3
/-! Raised rows: what is kept, what is unlike, and the squares. -/
namespace V3
/-- of the roots, those that stay when each other that comes again takes one away -/
def kpP : List Rat → List Rat → Option Rat → List Rat
  | a :: as, b :: bs, pv => if pv = some b then kpP as bs (some b) else a :: kpP as bs (some b)
  | _, _, _ => []
def unP : List Rat → Option Rat → List Rat
  | [], _ => []
  | b :: bs, pv => if pv = some b then unP bs (some b) else b :: unP bs (some b)
/-- raised: each root is from its other on, the next one up to it; p: the other ahead -/
def Rsd : List Rat → List Rat → Option Rat → Prop
  | [], [], _ => True
  | a :: as, b :: bs, pv => b ≤ a ∧ (∀ p, pv = some p → a ≤ p) ∧ Rsd as bs (some b)
  | _, _, _ => False
theorem Rsd.len : ∀ {as bs : List Rat} {pv : Option Rat}, Rsd as bs pv → as.length = bs.length
  | [], [], _, _ => rfl
  | [], _ :: _, _, h => h.elim
  | _ :: _, [], _, h => h.elim
  | _ :: _, _ :: _, _, h => by
    rw [List.length_cons, List.length_cons, Rsd.len h.2.2]
theorem kp_len : ∀ {as bs : List Rat} {pv : Option Rat}, Rsd as bs pv → (kpP as bs pv).length = (unP bs pv).length
  | [], [], _, _ => rfl
  | [], _ :: _, _, h => h.elim
  | _ :: _, [], _, h => h.elim
  | a :: as, b :: bs, pv, h => by
    have ih := kp_len h.2.2
    unfold kpP unP
    split
    · exact ih
    · rw [List.length_cons, List.length_cons, ih]
/-- the products -/
theorem kp_prod (t : Rat) : ∀ {as bs : List Rat} {pv : Option Rat}, Rsd as bs pv → prG as t * prG (unP bs pv) t = prG (kpP as bs pv) t * prG bs t
  | [], [], _, _ => rfl
  | [], _ :: _, _, h => h.elim
  | _ :: _, [], _, h => h.elim
  | a :: as, b :: bs, pv, h => by
    have ih := kp_prod t h.2.2
    unfold kpP unP
    split
    · rename_i e
      have ab : a = b := Rat.le_antisymm (h.2.1 b e) h.1
      rw [ab]
      show (t - b) * prG as t * prG (unP bs (some b)) t = prG (kpP as bs (some b)) t * ((t - b) * prG bs t)
      grind
    · show (t - a) * prG as t * ((t - b) * prG (unP bs (some b)) t) = (t - a) * prG (kpP as bs (some b)) t * ((t - b) * prG bs t)
      grind
/-- a falling row; p: what stands ahead -/
def Fall : List Rat → Option Rat → Prop
  | [], _ => True
  | b :: bs, pv => (∀ p, pv = some p → b ≤ p) ∧ Fall bs (some b)
theorem Rsd.fall : ∀ {as bs : List Rat} {pv : Option Rat}, Rsd as bs pv → Fall bs pv
  | [], [], _, _ => trivial
  | [], _ :: _, _, h => h.elim
  | _ :: _, [], _, h => h.elim
  | a :: as, b :: bs, pv, h => ⟨fun p e => Rat.le_trans h.1 (h.2.1 p e), h.2.2.fall⟩
/-- strictly falling -/
def Steep : List Rat → Option Rat → Prop
  | [], _ => True
  | b :: bs, pv => (∀ p, pv = some p → b < p) ∧ Steep bs (some b)
theorem un_steep : ∀ {bs : List Rat} {pv : Option Rat}, Fall bs pv → Steep (unP bs pv) pv
  | [], _, _ => trivial
  | b :: bs, pv, h => by
    unfold unP
    split
    · rename_i e
      have := un_steep h.2
      rw [e]
      exact this
    · rename_i e
      refine ⟨fun p hp => ?_, un_steep h.2⟩
      have le := h.1 p hp
      rcases Rat.le_iff_lt_or_eq.mp le with z | z
      · exact z
      · exact absurd (by rw [hp, z]) e
/-- raised, and no two others alike -/
def Rst : List Rat → List Rat → Option Rat → Prop
  | [], [], _ => True
  | a :: as, b :: bs, pv => b ≤ a ∧ (∀ p, pv = some p → a ≤ p) ∧ (∀ p, pv = some p → b < p) ∧ Rst as bs (some b)
  | _, _, _ => False
theorem kp_rst : ∀ {as bs : List Rat} {pv : Option Rat}, Rsd as bs pv → Rst (kpP as bs pv) (unP bs pv) pv
  | [], [], _, _ => trivial
  | [], _ :: _, _, h => h.elim
  | _ :: _, [], _, h => h.elim
  | a :: as, b :: bs, pv, h => by
    have ih := kp_rst h.2.2
    unfold kpP unP
    split
    · rename_i e
      rw [e]
      exact ih
    · rename_i e
      refine ⟨h.1, h.2.1, fun p hp => ?_, ih⟩
      have le := Rat.le_trans h.1 (h.2.1 p hp)
      rcases Rat.le_iff_lt_or_eq.mp le with z | z
      · exact z
      · exact absurd (by rw [hp, z]) e
theorem steep_lt : ∀ {bs : List Rat} {p : Rat}, Steep bs (some p) → ∀ x ∈ bs, x < p
  | [], _, _ => fun x hnil => by cases hnil
  | b :: bs, p, h => fun x hx => by
    have h1 := h.1 p rfl
    rcases List.mem_cons.mp hx with e | e
    · rw [e]
      exact h1
    · have := steep_lt h.2 x e
      grind
theorem steep_nodup : ∀ {bs : List Rat} {pv : Option Rat}, Steep bs pv → bs.Nodup
  | [], _, _ => List.nodup_nil
  | b :: bs, _, h => List.nodup_cons.mpr ⟨fun z => absurd (steep_lt h.2 b z) (by grind), steep_nodup h.2⟩
/-! ### products of gaps the other way round, and one left out -/
def prB : List Rat → Rat → Rat
  | [], _ => 1
  | o :: r, x => (o - x) * prB r x
def sgP : Nat → Rat
  | 0 => 1
  | n + 1 => - sgP n
theorem prB_sg (x : Rat) : ∀ l : List Rat, prB l x = sgP l.length * prG l x
  | [] => by
    show (1 : Rat) = 1 * 1
    grind
  | o :: r => by
    show (o - x) * prB r x = - sgP r.length * ((x - o) * prG r x)
    rw [prB_sg x r]
    grind
theorem sg_sq (n : Nat) : sgP n * sgP n = 1 := by
  induction n with
  | zero =>
    show (1 : Rat) * 1 = 1
    grind
  | succ k ih =>
    show (- sgP k) * (- sgP k) = 1
    grind
theorem prG_zero : ∀ {l : List Rat} {x : Rat}, x ∈ l → prG l x = 0
  | o :: r, x, h => by
    show (x - o) * prG r x = 0
    (rcases List.mem_cons.mp h with e | e)
    · rw [e]
      grind
    · rw [prG_zero e]
      grind
theorem prG_ne : ∀ {l : List Rat} {x : Rat}, x ∉ l → prG l x ≠ 0
  | [], x, _ => by
    show (1 : Rat) ≠ 0
    decide
  | o :: r, x, h => fun z => by
    have z : (x - o) * prG r x = 0 := z
    rcases Rat.mul_eq_zero.mp z with e | e
    · exact h (List.mem_cons.mpr (.inl (by grind)))
    · exact prG_ne (fun m => h (List.mem_cons_of_mem _ m)) e
/-- without one -/
def woP (u : Rat) (l : List Rat) : List Rat := l.filter fun x => decide (x ≠ u)
theorem wo_not (u : Rat) (l : List Rat) : u ∉ woP u l := fun h => by
  have := (List.mem_filter.mp h).2
  simp at this
theorem wo_prod {u : Rat} : ∀ {l : List Rat}, l.Nodup → u ∈ l → ∀ t, prG l t = (t - u) * prG (woP u l) t ∧ l.length = (woP u l).length + 1
  | [], _, hnil, _ => by cases hnil
  | o :: r, nd, h, t => by
    have nd2 := List.nodup_cons.mp nd
    by_cases e : o = u
    · have e1 : woP u (o :: r) = r := by
        unfold woP
        rw [List.filter_cons_of_neg (by simp [e])]
        refine List.filter_eq_self.mpr fun x hx => ?_
        have : x ≠ u := fun z => nd2.1 (by rw [e, ← z]; exact hx)
        simpa using this
      rw [e1]
      exact ⟨by rw [e]; rfl, rfl⟩
    · have hu : u ∈ r := by
        (rcases List.mem_cons.mp h with z | z)
        · exact absurd z.symm e
        · exact z
      have e1 : woP u (o :: r) = o :: woP u r := by
        unfold woP
        rw [List.filter_cons_of_pos (by simpa using e)]
      obtain ⟨h1, h2⟩ := wo_prod nd2.2 hu t
      rw [e1]
      refine ⟨?_, by rw [List.length_cons, List.length_cons, h2]⟩
      show (t - o) * prG r t = (t - u) * ((t - o) * prG (woP u r) t)
      rw [h1]
      grind
def sqP (kept un : List Rat) (u : Rat) : Rat := prB kept u / prB (woP u un) u
/-- the square, with products as the polynomials have them -/
theorem sq_eq {kept un : List Rat} {u : Rat} (nd : un.Nodup) (hu : u ∈ un) (l : kept.length = un.length) : prG kept u = - (sqP kept un u * prG (woP u un) u) := by
  obtain ⟨_, hl⟩ := wo_prod nd hu u
  have ne := prG_ne (wo_not u un)
  unfold sqP
  rw [prB_sg, prB_sg, l, hl]
  have s2 := sg_sq (woP u un).length
  have sn : sgP (woP u un).length ≠ 0 := fun z => by
    rw [z] at s2
    grind
  generalize es : sgP (woP u un).length = s at s2 sn
  have e : sgP ((woP u un).length + 1) = - sgP (woP u un).length := rfl
  show prG kept u = _
  generalize prG (woP u un) u = q at ne
  have sq : s * q ≠ 0 := fun z => by
    rcases Rat.mul_eq_zero.mp z with h | h
    · exact sn h
    · exact ne h
  have hy := Rat.div_mul_cancel (a := sgP ((woP u un).length + 1) * prG kept u) sq
  rw [e] at hy ⊢
  rw [es] at hy ⊢
  generalize (-s * prG kept u) / (s * q) = y at hy ⊢
  grind
end V3
/-! The roots of a change: the polynomial of the raised row out of the squares. -/
namespace V3
def pwT (t : Rat) : Nat → Rat
  | 0 => 1
  | n + 1 => t * pwT t n
theorem ev_app (x t : Rat) : ∀ e : List Rat, ev (e ++ [x]) t = ev e t + x * pwT t e.length
  | [] => by
    show x + t * 0 = 0 + x * 1
    grind
  | c :: r => by
    show c + t * ev (r ++ [x]) t = c + t * ev r t + x * (t * pwT t r.length)
    rw [ev_app x t r]
    grind
theorem subP_app (x : Rat) : ∀ (p q : List Rat), q.length ≤ p.length → subP (p ++ [x]) q = subP p q ++ [x]
  | [], [], _ => rfl
  | [], _ :: _, h => (by simp at h)
  | c :: r, [], _ => rfl
  | c :: r, d :: s, h => by
    show (c - d) :: subP (r ++ [x]) s = (c - d) :: (subP r s ++ [x])
    rw [subP_app x r s (by simpa using h)]
/-- the highest number is 1 -/
def Monic (n : Nat) (p : List Rat) : Prop := ∃ e : List Rat, p = e ++ [1] ∧ e.length = n
theorem gr_monic {n : Nat} {p : List Rat} (a : Rat) (h : Monic n p) : Monic (n + 1) (grP p a) := by
  obtain ⟨e, rfl, l⟩ := h
  refine ⟨subP (0 :: e) ((e ++ [1]).map (a * ·)), ?_, ?_⟩
  · show subP ((0 :: e) ++ [1]) _ = _
    exact subP_app 1 _ _ (by rw [List.length_map, List.length_append, List.length_cons]; simp)
  · rw [subP_len, List.length_cons, l]
theorem ofZ_monic_go : ∀ (zs : List Rat) {n : Nat} {p : List Rat}, Monic n p → Monic (n + zs.length) (zs.foldl grP p)
  | [], _, _, h => h
  | z :: r, n, p, h => by
    have := ofZ_monic_go r (gr_monic z h)
    rw [List.length_cons, show n + (r.length + 1) = n + 1 + r.length by omega]
    exact this
theorem ofZ_monic (zs : List Rat) : Monic zs.length (ofZ zs) := by
  have := ofZ_monic_go zs (n := 0) (p := [1]) ⟨[], rfl, rfl⟩
  rw [Nat.zero_add] at this
  exact this
theorem less_monic {n : Nat} {p q : List Rat} (c : Rat) (h : Monic n p) (hq : q.length ≤ n) : Monic n (lessP p c q) := by
  obtain ⟨e, rfl, l⟩ := h
  refine ⟨subP e (q.map (c * ·)), subP_app 1 _ _ (by rw [List.length_map, l]; exact hq), by rw [subP_len, l]⟩
/-- monic rows that agree at as many unlike numbers as their order are one -/
theorem monic_eq {pts p q : List Rat} (hp : Monic pts.length p) (hq : Monic pts.length q) (nd : pts.Nodup) (h : ∀ x ∈ pts, ev p x = ev q x) : p = q := by
  obtain ⟨e, rfl, l⟩ := hp
  obtain ⟨f, rfl, m⟩ := hq
  have : e = f := rows_eq l m nd fun x hx => by
    have := h x hx
    rw [ev_app, ev_app, l, m] at this
    grind
  rw [this]
/-- what the squares take off -/
def tkP (g : Rat → Rat) (un : List Rat) (l : List Rat) (p : List Rat) : List Rat := l.foldl (fun f u => lessP f (g u) (ofZ (woP u un))) p
def smU (g : Rat → Rat) : List Rat → Rat
  | [] => 0
  | u :: r => g u + smU g r
theorem tk_ev (g : Rat → Rat) {un : List Rat} (nd : un.Nodup) (t : Rat) : ∀ (l p : List Rat), (∀ u ∈ l, u ∈ un) → Monic un.length p → Monic un.length (tkP g un l p) ∧ ev (tkP g un l p) t = ev p t - smU (fun u => g u * prG (woP u un) t) l
  | [], p, _, h => ⟨h, by
    show ev p t = ev p t - 0
    grind⟩
  | u :: r, p, hl, h => by
    have hw := (wo_prod nd (hl u List.mem_cons_self) t).2
    have lq : (ofZ (woP u un)).length ≤ un.length := by
      rw [ofZ_len]
      omega
    obtain ⟨e, hp, le⟩ := id h
    have lp : (ofZ (woP u un)).length ≤ p.length := by
      rw [hp, List.length_append]
      omega
    obtain ⟨h1, h2⟩ := tk_ev g nd t r (lessP p (g u) (ofZ (woP u un))) (fun v hv => hl v (List.mem_cons_of_mem _ hv)) (less_monic _ h lq)
    refine ⟨h1, ?_⟩
    show ev (tkP g un r (lessP p (g u) (ofZ (woP u un)))) t = ev p t - (g u * prG (woP u un) t + smU (fun u => g u * prG (woP u un) t) r)
    rw [h2, ev_less _ _ _ _ lp, ev_ofZ]
    grind
theorem smU_one {g : Rat → Rat} {u : Rat} : ∀ {l : List Rat}, l.Nodup → u ∈ l → (∀ v ∈ l, v ≠ u → g v = 0) → smU g l = g u
  | [], _, hnil, _ => by cases hnil
  | o :: r, nd, h, z => by
    have nd2 := List.nodup_cons.mp nd
    show g o + smU g r = g u
    by_cases e : o = u
    · have zr : ∀ {m : List Rat}, (∀ v ∈ m, g v = 0) → smU g m = 0 := fun {m} => by
        induction m with
        | nil => exact fun _ => rfl
        | cons a s ih =>
          intro k
          show g a + smU g s = 0
          rw [k a List.mem_cons_self, ih fun v hv => k v (List.mem_cons_of_mem _ hv)]
          grind
      rw [zr fun v hv => z v (List.mem_cons_of_mem _ hv) fun e2 => nd2.1 (by rw [e, ← e2]; exact hv), e]
      grind
    · have hu : u ∈ r := by
        rcases List.mem_cons.mp h with y | y
        · exact absurd y.symm e
        · exact y
      rw [z o List.mem_cons_self e, smU_one nd2.2 hu fun v hv => z v (List.mem_cons_of_mem _ hv)]
      grind
/-- the kept roots out of the unlike others and the squares -/
theorem kept_poly {kept un : List Rat} (nd : un.Nodup) (l : kept.length = un.length) (t : Rat) : prG kept t = prG un t - smU (fun u => sqP kept un u * prG (woP u un) t) un := by
  have e := monic_eq (pts := un) (p := tkP (sqP kept un) un un (ofZ un)) (q := ofZ kept) (tk_ev _ nd t un (ofZ un) (fun _ h => h) (ofZ_monic un)).1 (by rw [← l]; exact ofZ_monic kept) nd fun x hx => by
    rw [(tk_ev _ nd x un (ofZ un) (fun _ h => h) (ofZ_monic un)).2, ev_ofZ, ev_ofZ, prG_zero hx, smU_one nd hx fun v hv ne => ?_, sq_eq nd hx l]
    · grind
    · have : x ∈ woP v un := List.mem_filter.mpr ⟨hx, by simpa using fun z => ne z.symm⟩
      rw [prG_zero this]
      grind
  have h := (tk_ev (sqP kept un) nd t un (ofZ un) (fun _ h => h) (ofZ_monic un)).2
  rw [e, ev_ofZ, ev_ofZ] at h
  exact h
end V3
/-! The told squares: the bent polynomial is that of the raised row; none is below 0. -/
namespace V3
def toldR (kept un : List Rat) : List Rat → Option Rat → List Rat
  | [], _ => []
  | b :: bs, pv => (if pv = some b then 0 else sqP kept un b) :: toldR kept un bs (some b)
theorem told_len (kept un : List Rat) : ∀ (l : List Rat) (pv : Option Rat), (toldR kept un l pv).length = l.length
  | [], _ => rfl
  | b :: bs, pv => by
    show (toldR kept un bs (some b)).length + 1 = bs.length + 1
    rw [told_len]
/-- the bent polynomial, square by square -/
def bentGo (pre : List Rat) : List Rat → List Rat → List Rat → List Rat
  | b :: bs, c :: cs, p => bentGo (pre ++ [b]) bs cs (if c ≠ 0 then lessP p c (ofZ (pre ++ bs)) else p)
  | _, _, p => p
def qsM (t : Rat) : List Rat → List Rat → Rat
  | b :: bs, c :: cs => c / (t - b) + qsM t bs cs
  | _, _ => 0
theorem prG_app (t : Rat) : ∀ a b : List Rat, prG (a ++ b) t = prG a t * prG b t
  | [], b => by
    show prG b t = 1 * prG b t
    grind
  | x :: a, b => by
    show (t - x) * prG (a ++ b) t = (t - x) * prG a t * prG b t
    rw [prG_app t a b]
    grind
theorem bent_ev {t : Rat} : ∀ (post told pre p : List Rat), post.length = told.length → p.length = (pre ++ post).length + 1 → (∀ x ∈ post, x ≠ t) → (bentGo pre post told p).length = p.length ∧ ev (bentGo pre post told p) t = ev p t - prG (pre ++ post) t * qsM t post told
  | [], [], pre, p, _, _, _ => ⟨rfl, by
    show ev p t = ev p t - prG (pre ++ []) t * 0
    grind⟩
  | [], _ :: _, _, _, h, _, _ => by simp at h
  | _ :: _, [], _, _, h, _, _ => by simp at h
  | b :: bs, c :: cs, pre, p, h, hp, nt => by
    have hb : t - b ≠ 0 := fun z => nt b List.mem_cons_self (by grind)
    have lq : (ofZ (pre ++ bs)).length ≤ p.length := by
      rw [ofZ_len, hp, List.length_append, List.length_append, List.length_cons]
      omega
    have e2 : (pre ++ [b]) ++ bs = pre ++ b :: bs := by simp
    have lif : (if c ≠ 0 then lessP p c (ofZ (pre ++ bs)) else p).length = p.length := by
      split
      · exact less_len _ _ _
      · rfl
    obtain ⟨h1, h2⟩ := bent_ev bs cs (pre ++ [b]) (if c ≠ 0 then lessP p c (ofZ (pre ++ bs)) else p) (by simpa using h) (by rw [lif, e2]; exact hp) fun x hx => nt x (List.mem_cons_of_mem _ hx)
    refine ⟨h1.trans lif, ?_⟩
    show ev (bentGo (pre ++ [b]) bs cs (if c ≠ 0 then lessP p c (ofZ (pre ++ bs)) else p)) t = ev p t - prG (pre ++ b :: bs) t * (c / (t - b) + qsM t bs cs)
    rw [h2, e2]
    have ei : ev (if c ≠ 0 then lessP p c (ofZ (pre ++ bs)) else p) t = ev p t - c * prG (pre ++ bs) t := by
      split
      · rw [ev_less _ _ _ _ lq, ev_ofZ]
      · rename_i z
        have z : c = 0 := by simpa using z
        rw [z]
        grind
    rw [ei, prG_app, prG_app]
    have hc := Rat.div_mul_cancel (a := c) hb
    generalize c / (t - b) = d at hc ⊢
    show _ = ev p t - prG pre t * ((t - b) * prG bs t) * (d + qsM t bs cs)
    rw [← hc]
    show ev p t - d * (t - b) * (prG pre t * prG bs t) - prG pre t * ((t - b) * prG bs t) * qsM t bs cs = _
    grind
theorem qs_told (kept un : List Rat) (t : Rat) : ∀ (l : List Rat) (pv : Option Rat), qsM t l (toldR kept un l pv) = smU (fun u => sqP kept un u / (t - u)) (unP l pv)
  | [], _ => rfl
  | b :: bs, pv => by
    show (if pv = some b then 0 else sqP kept un b) / (t - b) + qsM t bs (toldR kept un bs (some b)) = _
    rw [qs_told kept un t bs (some b)]
    show _ = smU (fun u => sqP kept un u / (t - u)) (if pv = some b then unP bs (some b) else b :: unP bs (some b))
    split
    · rw [Rat.div_def]
      generalize smU (fun u => sqP kept un u / (t - u)) (unP bs (some b)) = S
      grind
    · rfl
theorem un_sub : ∀ {l : List Rat} {pv : Option Rat}, ∀ x ∈ unP l pv, x ∈ l
  | [], _, x, hnil => by cases hnil
  | b :: bs, pv, x, h => by
    unfold unP at h
    split at h
    · exact List.mem_cons_of_mem _ (un_sub x h)
    · rcases List.mem_cons.mp h with e | e
      · rw [e]
        exact List.mem_cons_self
      · exact List.mem_cons_of_mem _ (un_sub x e)
theorem smU_mul (c : Rat) (g k : Rat → Rat) : ∀ l : List Rat, (∀ u ∈ l, k u = c * g u) → smU k l = c * smU g l
  | [], _ => by
    show (0 : Rat) = c * 0
    grind
  | u :: r, h => by
    show k u + smU k r = c * (g u + smU g r)
    rw [h u List.mem_cons_self, smU_mul c g k r fun v hv => h v (List.mem_cons_of_mem _ hv)]
    grind
theorem above_all : ∀ l : List Rat, ∃ x : Rat, ∀ y ∈ l, y < x
  | [] => ⟨0, fun y h => by cases h⟩
  | a :: r => by
    obtain ⟨x, h⟩ := above_all r
    rcases Rat.le_total (a := a) (b := x) with z | z
    · refine ⟨x + 1, fun y hy => ?_⟩
      (rcases List.mem_cons.mp hy with e | e)
      · grind
      · have := h y e
        grind
    · refine ⟨a + 1, fun y hy => ?_⟩
      (rcases List.mem_cons.mp hy with e | e)
      · grind
      · have := h y e
        grind
theorem fresh_pts (l : List Rat) : ∀ n : Nat, ∃ pts : List Rat, pts.length = n ∧ pts.Nodup ∧ ∀ x ∈ pts, x ∉ l
  | 0 => ⟨[], rfl, List.nodup_nil, fun x h => by cases h⟩
  | n + 1 => by
    obtain ⟨pts, h1, h2, h3⟩ := fresh_pts l n
    obtain ⟨x, hx⟩ := above_all (l ++ pts)
    refine ⟨x :: pts, by rw [List.length_cons, h1], List.nodup_cons.mpr ⟨fun z => ?_, h2⟩, fun y hy => ?_⟩
    · have := hx x (List.mem_append_right _ z)
      grind
    · rcases List.mem_cons.mp hy with e | e
      · rw [e]
        intro z
        have := hx x (List.mem_append_left _ z)
        grind
      · exact h3 y e
/-- beside the others: the product of the roots' gaps -/
theorem tops_ev {tops lows : List Rat} (h : Rsd tops lows none) {t : Rat} (nt : t ∉ lows) : prG tops t = prG lows t - prG lows t * qsM t lows (toldR (kpP tops lows none) (unP lows none) lows none) := by
  have nd : (unP lows none).Nodup := steep_nodup (un_steep h.fall)
  have kp := kept_poly nd (kp_len h) t
  have pd := kp_prod t h
  have nu : t ∉ unP lows none := fun z => nt (un_sub t z)
  have pu := prG_ne nu
  rw [qs_told]
  have sm := smU_mul (prG (unP lows none) t) (fun u => sqP (kpP tops lows none) (unP lows none) u / (t - u)) (fun u => sqP (kpP tops lows none) (unP lows none) u * prG (woP u (unP lows none)) t) (unP lows none) fun u hu => by
    have hw := (wo_prod nd hu t).1
    have ne : t - u ≠ 0 := fun z => nu (by
      have : t = u := by grind
      rw [this]
      exact hu)
    have hc := Rat.div_mul_cancel (a := sqP (kpP tops lows none) (unP lows none) u) ne
    show sqP (kpP tops lows none) (unP lows none) u * prG (woP u (unP lows none)) t = prG (unP lows none) t * (sqP (kpP tops lows none) (unP lows none) u / (t - u))
    rw [hw]
    generalize sqP (kpP tops lows none) (unP lows none) u / (t - u) = d at hc ⊢
    rw [← hc]
    grind
  rw [sm] at kp
  rw [kp] at pd
  generalize smU (fun u => sqP (kpP tops lows none) (unP lows none) u / (t - u)) (unP lows none) = S at pd ⊢
  generalize prG (unP lows none) t = U at pd pu
  have e : U * (prG tops t - (prG lows t - prG lows t * S)) = 0 := by grind
  rcases Rat.mul_eq_zero.mp e with z | z
  · exact absurd z pu
  · grind
theorem change_poly {tops lows : List Rat} (h : Rsd tops lows none) : bentGo [] lows (toldR (kpP tops lows none) (unP lows none) lows none) (ofZ lows) = ofZ tops := by
  obtain ⟨pts, p1, p2, p3⟩ := fresh_pts lows (lows.length + 1)
  have lt := (told_len (kpP tops lows none) (unP lows none) lows none).symm
  obtain ⟨z, hz⟩ := above_all lows
  have len : (bentGo [] lows (toldR (kpP tops lows none) (unP lows none) lows none) (ofZ lows)).length = lows.length + 1 := by
    have := (bent_ev (t := z) lows _ [] (ofZ lows) lt (by rw [ofZ_len]; rfl) fun x hx e => by
      have := hz x hx
      grind).1
    rw [this, ofZ_len]
  refine rows_eq (pts := pts) (by rw [len, p1]) (by rw [ofZ_len, h.len, p1]) p2 fun x hx => ?_
  have nx := p3 x hx
  rw [(bent_ev (t := x) lows _ [] (ofZ lows) lt (by rw [ofZ_len]; rfl) fun y hy e => nx (e ▸ hy)).2, ev_ofZ, ev_ofZ, tops_ev h nx]
  rfl
/-! ### none below 0 -/
theorem div_nn {x y : Rat} (h : 0 ≤ x * y) (hy : y ≠ 0) : 0 ≤ x / y := by
  have hc := Rat.div_mul_cancel (a := x) hy
  generalize x / y = d at hc ⊢
  rcases Rat.le_total (a := 0) (b := d) with z | z
  · exact z
  · have e : x * y = d * (y * y) := by grind
    have yy : 0 < y * y := by
      have h1 : 0 ≤ y * y := by
        rcases Rat.le_total (a := 0) (b := y) with k | k
        · exact Rat.mul_nonneg k k
        · have := Rat.mul_nonneg (a := -y) (b := -y) (by grind) (by grind)
          grind
      have h2 : y * y ≠ 0 := fun k => by
        rcases Rat.mul_eq_zero.mp k with k | k <;> exact hy k
      rcases Rat.le_iff_lt_or_eq.mp h1 with k | k
      · exact k
      · exact absurd k.symm h2
    by_cases d0 : d = 0
    · rw [d0]
      exact Rat.le_refl
    · have dl : 0 < -d := by
        rcases Rat.le_iff_lt_or_eq.mp z with k | k
        · grind
        · exact absurd k d0
      have := Rat.mul_pos dl yy
      rw [e] at h
      grind
theorem below_nn {u : Rat} : ∀ {as bs : List Rat} {p : Rat}, Rst as bs (some p) → p ≤ u → 0 ≤ prB as u * prB bs u
  | [], [], _, _, _ => by
    show (0 : Rat) ≤ 1 * 1
    grind
  | [], _ :: _, _, h, _ => h.elim
  | _ :: _, [], _, h, _ => h.elim
  | a :: as, b :: bs, p, h, hu => by
    have h1 := h.2.1 p rfl
    have h2 := h.2.2.1 p rfl
    have ih := below_nn h.2.2.2 (u := u) (by grind)
    have k : 0 ≤ (u - a) * (u - b) := Rat.mul_nonneg (by grind) (by grind)
    have := Rat.mul_nonneg k ih
    show 0 ≤ (a - u) * prB as u * ((b - u) * prB bs u)
    grind
theorem rst_steep : ∀ {as bs : List Rat} {pv : Option Rat}, Rst as bs pv → Steep bs pv
  | [], [], _, _ => trivial
  | [], _ :: _, _, h => h.elim
  | _ :: _, [], _, h => h.elim
  | _ :: _, _ :: _, _, h => ⟨h.2.2.1, rst_steep h.2.2.2⟩
theorem rst_nn {u : Rat} : ∀ {as bs : List Rat} {pv : Option Rat}, Rst as bs pv → u ∈ bs → 0 ≤ prB as u * prB (woP u bs) u
  | [], [], _, _, m => by cases m
  | [], _ :: _, _, h, _ => h.elim
  | _ :: _, [], _, h, _ => h.elim
  | a :: as, b :: bs, pv, h, m => by
    have st := rst_steep h.2.2.2
    by_cases e : b = u
    · have e1 : woP u (b :: bs) = bs := by
        unfold woP
        rw [List.filter_cons_of_neg (by simp [e])]
        refine List.filter_eq_self.mpr fun x hx => ?_
        have := steep_lt st x hx
        have : x ≠ u := by grind
        simpa using this
      rw [e1]
      have k := below_nn h.2.2.2 (u := u) (by rw [e]; exact Rat.le_refl)
      have h1 := h.1
      have := Rat.mul_nonneg (a := a - u) (b := prB as u * prB bs u) (by grind) k
      show 0 ≤ (a - u) * prB as u * prB bs u
      grind
    · have hu : u ∈ bs := by
        rcases List.mem_cons.mp m with z | z
        · exact absurd z.symm e
        · exact z
      have e1 : woP u (b :: bs) = b :: woP u bs := by
        unfold woP
        rw [List.filter_cons_of_pos (by simpa using e)]
      rw [e1]
      have ub := steep_lt st u hu
      have h1 := h.1
      have ih := rst_nn h.2.2.2 hu
      have k : 0 ≤ (a - u) * (b - u) := Rat.mul_nonneg (by grind) (by grind)
      have := Rat.mul_nonneg k ih
      show 0 ≤ (a - u) * prB as u * ((b - u) * prB (woP u bs) u)
      grind
theorem sq_nn' {as bs : List Rat} {pv : Option Rat} {u : Rat} (h : Rst as bs pv) (hu : u ∈ bs) : 0 ≤ sqP as bs u := by
  unfold sqP
  refine div_nn (rst_nn h hu) ?_
  rw [prB_sg]
  intro z
  rcases Rat.mul_eq_zero.mp z with k | k
  · have := sg_sq (woP u bs).length
    rw [k] at this
    grind
  · exact prG_ne (wo_not u bs) k
end V3
/-! Sums, and how the kept roots are found. -/
namespace V3
def sR : List Rat → Rat
  | [] => 0
  | x :: r => x + sR r
theorem kp_sum : ∀ {as bs : List Rat} {pv : Option Rat}, Rsd as bs pv → sR as + sR (unP bs pv) = sR (kpP as bs pv) + sR bs
  | [], [], _, _ => rfl
  | [], _ :: _, _, h => h.elim
  | _ :: _, [], _, h => h.elim
  | a :: as, b :: bs, pv, h => by
    have ih := kp_sum h.2.2
    show a + sR as + sR (if pv = some b then unP bs (some b) else b :: unP bs (some b)) = sR (if pv = some b then kpP as bs (some b) else a :: kpP as bs (some b)) + (b + sR bs)
    split
    · rename_i e
      have ab : a = b := Rat.le_antisymm (h.2.1 b e) h.1
      rw [ab]
      generalize sR (unP bs (some b)) = u at ih ⊢
      generalize sR (kpP as bs (some b)) = k at ih ⊢
      grind
    · show a + sR as + (b + sR (unP bs (some b))) = (a + sR (kpP as bs (some b))) + (b + sR bs)
      generalize sR (unP bs (some b)) = u at ih ⊢
      generalize sR (kpP as bs (some b)) = k at ih ⊢
      grind
theorem told_sum (kept un : List Rat) : ∀ (l : List Rat) (pv : Option Rat), sR (toldR kept un l pv) = smU (sqP kept un) (unP l pv)
  | [], _ => rfl
  | b :: bs, pv => by
    show (if pv = some b then 0 else sqP kept un b) + sR (toldR kept un bs (some b)) = smU (sqP kept un) (if pv = some b then unP bs (some b) else b :: unP bs (some b))
    rw [told_sum kept un bs (some b)]
    split
    · generalize smU (sqP kept un) (unP bs (some b)) = S
      grind
    · rfl
/-- the two highest numbers -/
def Sec (n : Nat) (s : Rat) (p : List Rat) : Prop := ∃ e : List Rat, p = e ++ [s, 1] ∧ e.length = n
theorem subP_pair (s c : Rat) : ∀ (x y : List Rat), y.length = x.length → subP (x ++ [s, 1]) (y ++ [c]) = subP x y ++ [s - c, 1]
  | [], [], _ => rfl
  | [], _ :: _, h => (by simp at h)
  | _ :: _, [], h => (by simp at h)
  | a :: x, b :: y, h => by
    show (a - b) :: subP (x ++ [s, 1]) (y ++ [c]) = (a - b) :: (subP x y ++ [s - c, 1])
    rw [subP_pair s c x y (by simpa using h)]
theorem gr_sec {n : Nat} {s a : Rat} {p : List Rat} (h : Sec n s p) : Sec (n + 1) (s - a) (grP p a) := by
  obtain ⟨e, rfl, l⟩ := h
  refine ⟨subP (0 :: e) ((e ++ [s]).map (a * ·)), ?_, by rw [subP_len, List.length_cons, l]⟩
  have e1 : (e ++ [s, 1]).map (a * ·) = (e ++ [s]).map (a * ·) ++ [a * 1] := by simp
  show subP ((0 :: e) ++ [s, 1]) ((e ++ [s, 1]).map (a * ·)) = _
  rw [e1, subP_pair _ _ _ _ (by simp)]
  have : s - a * 1 = s - a := by grind
  rw [this]
theorem ofZ_sec_go : ∀ (zs : List Rat) {n : Nat} {s : Rat} {p : List Rat}, Sec n s p → Sec (n + zs.length) (s - sR zs) (zs.foldl grP p)
  | [], n, s, p, h => by
    have : s - sR [] = s := by
      show s - 0 = s
      grind
    rw [this]
    exact h
  | z :: r, n, s, p, h => by
    have k := ofZ_sec_go r (gr_sec (a := z) h)
    have e1 : s - sR (z :: r) = s - z - sR r := by
      show s - (z + sR r) = _
      grind
    rw [e1, List.length_cons, show n + (r.length + 1) = n + 1 + r.length by omega]
    exact k
theorem ofZ_sec (z : Rat) (r : List Rat) : Sec r.length (- sR (z :: r)) (ofZ (z :: r)) := by
  have h : Sec 0 (-z) (grP [1] z) := ⟨[], by
    show [0 - z * 1, (1 : Rat)] = [-z, 1]
    have : (0 : Rat) - z * 1 = -z := by grind
    rw [this], rfl⟩
  have k := ofZ_sec_go r h
  have e1 : - sR (z :: r) = -z - sR r := by
    show - (z + sR r) = _
    grind
  rw [e1]
  rw [Nat.zero_add] at k
  exact k
theorem less_sec {n : Nat} {s c : Rat} {p q : List Rat} (h : Sec n s p) (hq : Monic n q) : Sec n (s - c) (lessP p c q) := by
  obtain ⟨e, rfl, l⟩ := h
  obtain ⟨f, rfl, m⟩ := hq
  refine ⟨subP e (f.map (c * ·)), ?_, by rw [subP_len, l]⟩
  have e1 : (f ++ [1]).map (c * ·) = f.map (c * ·) ++ [c * 1] := by simp
  show subP (e ++ [s, 1]) ((f ++ [1]).map (c * ·)) = _
  rw [e1, subP_pair _ _ _ _ (by rw [List.length_map, l, m])]
  have : s - c * 1 = s - c := by grind
  rw [this]
theorem tk_sec (g : Rat → Rat) {un : List Rat} (nd : un.Nodup) {n : Nat} (hn : un.length = n + 1) : ∀ (l p : List Rat) (s : Rat), (∀ u ∈ l, u ∈ un) → Sec n s p → Sec n (s - smU g l) (tkP g un l p)
  | [], p, s, _, h => by
    have : s - smU g [] = s := by
      show s - 0 = s
      grind
    rw [this]
    exact h
  | u :: r, p, s, hl, h => by
    have hw := (wo_prod nd (hl u List.mem_cons_self) 0).2
    have mq : Monic n (ofZ (woP u un)) := by
      have := ofZ_monic (woP u un)
      rw [show (woP u un).length = n by omega] at this
      exact this
    have k := tk_sec g nd hn r _ _ (fun v hv => hl v (List.mem_cons_of_mem _ hv)) (less_sec (c := g u) h mq)
    have e1 : s - smU g (u :: r) = s - g u - smU g r := by
      show s - (g u + smU g r) = _
      grind
    rw [e1]
    exact k
theorem kept_sum {kept un : List Rat} (nd : un.Nodup) (l : kept.length = un.length) : sR kept = sR un + smU (sqP kept un) un := by
  cases un with
  | nil =>
    have : kept = [] := List.length_eq_zero_iff.mp l
    rw [this]
    show (0 : Rat) = 0 + 0
    grind
  | cons b bs =>
    cases kept with
    | nil => cases l
    | cons a as =>
      have e := monic_eq (pts := b :: bs) (p := tkP (sqP (a :: as) (b :: bs)) (b :: bs) (b :: bs) (ofZ (b :: bs))) (q := ofZ (a :: as)) (tk_ev _ nd 0 (b :: bs) (ofZ (b :: bs)) (fun _ h => h) (ofZ_monic _)).1 (by rw [← l]; exact ofZ_monic _) nd fun x hx => by
        rw [(tk_ev _ nd x (b :: bs) (ofZ (b :: bs)) (fun _ h => h) (ofZ_monic _)).2, ev_ofZ, ev_ofZ, kept_poly nd l x]
      have k1 := tk_sec (sqP (a :: as) (b :: bs)) nd rfl (b :: bs) _ _ (fun _ h => h) (ofZ_sec b bs)
      have k2 := ofZ_sec a as
      rw [e] at k1
      obtain ⟨e1, h1, l1⟩ := k1
      obtain ⟨e2, h2, l2⟩ := k2
      rw [h1] at h2
      have l3 : as.length = bs.length := Nat.succ.inj l
      have := List.append_inj_right h2 (by omega)
      have h3 : - sR (b :: bs) - smU (sqP (a :: as) (b :: bs)) (b :: bs) = - sR (a :: as) := by
        injection this
      grind
/-- the squares' sum and the others' are the roots' -/
theorem change_sum {tops lows : List Rat} (h : Rsd tops lows none) : sR (toldR (kpP tops lows none) (unP lows none) lows none) + sR lows = sR tops := by
  have k := kept_sum (steep_nodup (un_steep h.fall)) (kp_len h)
  have s := kp_sum h
  rw [told_sum]
  generalize smU (sqP (kpP tops lows none) (unP lows none)) (unP lows none) = S at k ⊢
  grind
/-! ### how they are found -/
theorem erase_end {v : Rat} {r : List Rat} : ∀ {l : List Rat}, l.Pairwise (fun x y => y ≤ x) → (∀ x ∈ l, v ≤ x) → (l ++ v :: r).erase v = l ++ r
  | [], _, _ => by
    show (v :: r).erase v = r
    rw [List.erase_cons_head]
  | x :: l, pw, h => by
    have pw2 := List.pairwise_cons.mp pw
    by_cases e : x = v
    · subst e
      show (x :: (l ++ x :: r)).erase x = _
      rw [List.erase_cons_head]
      have all : ∀ y ∈ l, y = x := fun y hy => Rat.le_antisymm (pw2.1 y hy) (h y (List.mem_cons_of_mem _ hy))
      have er : l = List.replicate l.length x := List.eq_replicate_iff.mpr ⟨rfl, all⟩
      have : ∀ n : Nat, List.replicate n x ++ x :: r = x :: (List.replicate n x ++ r) := fun n => by
        induction n with
        | zero => rfl
        | succ k ih =>
          show x :: (List.replicate k x ++ x :: r) = x :: (x :: (List.replicate k x ++ r))
          rw [ih]
      rw [er]
      exact this l.length
    · show (x :: (l ++ v :: r)).erase v = x :: (l ++ r)
      rw [List.erase_cons_tail (by simpa using e), erase_end pw2.2 fun y hy => h y (List.mem_cons_of_mem _ hy)]
def lfStep (s : List Rat × List Rat) (o : Rat) : List Rat × List Rat := if o ∈ s.2 then (s.1.erase o, s.2) else (s.1, s.2 ++ [o])
theorem lf_go : ∀ (as bs A U : List Rat) (pv : Option Rat), Rsd as bs pv → A.Pairwise (fun x y => y ≤ x) → (∀ p, pv = some p → ∀ x ∈ A, p ≤ x) → (∀ p, pv = some p → p ∈ U ∧ ∀ x ∈ U, p ≤ x) → (pv = none → U = [] ∧ A = []) →
    bs.foldl lfStep (A ++ as, U) = (A ++ kpP as bs pv, U ++ unP bs pv)
  | [], [], A, U, pv, _, _, _, _, _ => by
    show (A ++ [], U) = (A ++ [], U ++ [])
    simp
  | [], _ :: _, _, _, _, h, _, _, _, _ => h.elim
  | _ :: _, [], _, _, _, h, _, _, _, _ => h.elim
  | a :: as, b :: bs, A, U, pv, h, pw, hA, hU, h0 => by
    show bs.foldl lfStep (lfStep (A ++ a :: as, U) b) = (A ++ (if pv = some b then kpP as bs (some b) else a :: kpP as bs (some b)), U ++ (if pv = some b then unP bs (some b) else b :: unP bs (some b)))
    by_cases e : pv = some b
    · have ab : a = b := Rat.le_antisymm (h.2.1 b e) h.1
      have hb := hU b e
      rw [if_pos e, if_pos e]
      have st : lfStep (A ++ a :: as, U) b = (A ++ as, U) := by
        unfold lfStep
        rw [if_pos hb.1]
        show ((A ++ a :: as).erase b, U) = _
        rw [ab, erase_end pw fun x hx => hA b e x hx]
      rw [st]
      exact lf_go as bs A U (some b) h.2.2 pw (fun p hp x hx => by cases hp; exact hA b e x hx) (fun p hp => by cases hp; exact hb) fun z => by cases z
    · rw [if_neg e, if_neg e]
      have nb : b ∉ U := fun m => by
        cases pv with
        | none =>
          rw [(h0 rfl).1] at m
          cases m
        | some p =>
          have h1 := (hU p rfl).2 b m
          have h2 := Rat.le_trans h.1 (h.2.1 p rfl)
          exact e (by rw [Rat.le_antisymm h1 h2])
      have st : lfStep (A ++ a :: as, U) b = ((A ++ [a]) ++ as, U ++ [b]) := by
        unfold lfStep
        rw [if_neg nb]
        simp
      have ba : ∀ x ∈ A, a ≤ x := fun x hx => by
        cases pv with
        | none =>
          rw [(h0 rfl).2] at hx
          cases hx
        | some p => exact Rat.le_trans (h.2.1 p rfl) (hA p rfl x hx)
      rw [st, lf_go as bs (A ++ [a]) (U ++ [b]) (some b) h.2.2 (List.pairwise_append.mpr ⟨pw, List.pairwise_singleton _ _, fun x hx y hy => by rw [List.mem_singleton.mp hy]; exact ba x hx⟩) (fun p hp x hx => by
        cases hp
        rcases List.mem_append.mp hx with z | z
        · exact Rat.le_trans h.1 (ba x z)
        · (rw [List.mem_singleton.mp z])
          exact h.1) (fun p hp => by
        cases hp
        refine ⟨List.mem_append_right _ List.mem_cons_self, fun x hx => ?_⟩
        rcases List.mem_append.mp hx with z | z
        · cases pv with
          | none =>
            rw [(h0 rfl).1] at z
            cases z
          | some p => exact Rat.le_trans (Rat.le_trans h.1 (h.2.1 p rfl)) ((hU p rfl).2 x z)
        · (rw [List.mem_singleton.mp z])
          exact Rat.le_refl) fun z => by cases z]
      simp
theorem lf_eq {tops lows : List Rat} (h : Rsd tops lows none) : lows.foldl lfStep (tops, []) = (kpP tops lows none, unP lows none) := by
  have := lf_go tops lows [] [] none h List.Pairwise.nil (fun p hp => by cases hp) (fun p hp => by cases hp) fun _ => ⟨rfl, rfl⟩
  simpa using this
end V3
/-! How many roots of the raised row lie above a number. -/
namespace V3
def cA (t : Rat) : List Rat → Int
  | [] => 0
  | x :: r => (if t < x then 1 else 0) + cA t r
def cB (t : Rat) : List Rat → Int
  | [] => 0
  | x :: r => (if x < t then 1 else 0) + cB t r
theorem kp_cA (t : Rat) : ∀ {as bs : List Rat} {pv : Option Rat}, Rsd as bs pv → cA t as + cA t (unP bs pv) = cA t (kpP as bs pv) + cA t bs
  | [], [], _, _ => rfl
  | [], _ :: _, _, h => h.elim
  | _ :: _, [], _, h => h.elim
  | a :: as, b :: bs, pv, h => by
    have ih := kp_cA t h.2.2
    show (if t < a then 1 else 0) + cA t as + cA t (if pv = some b then unP bs (some b) else b :: unP bs (some b)) = cA t (if pv = some b then kpP as bs (some b) else a :: kpP as bs (some b)) + ((if t < b then 1 else 0) + cA t bs)
    by_cases e : pv = some b
    · have ab : a = b := Rat.le_antisymm (h.2.1 b e) h.1
      rw [ab, if_pos e, if_pos e]
      omega
    · rw [if_neg e, if_neg e]
      show (if t < a then 1 else 0) + cA t as + ((if t < b then 1 else 0) + cA t (unP bs (some b))) = ((if t < a then 1 else 0) + cA t (kpP as bs (some b))) + ((if t < b then 1 else 0) + cA t bs)
      omega
theorem kp_cB (t : Rat) : ∀ {as bs : List Rat} {pv : Option Rat}, Rsd as bs pv → cB t as + cB t (unP bs pv) = cB t (kpP as bs pv) + cB t bs
  | [], [], _, _ => rfl
  | [], _ :: _, _, h => h.elim
  | _ :: _, [], _, h => h.elim
  | a :: as, b :: bs, pv, h => by
    have ih := kp_cB t h.2.2
    show (if a < t then 1 else 0) + cB t as + cB t (if pv = some b then unP bs (some b) else b :: unP bs (some b)) = cB t (if pv = some b then kpP as bs (some b) else a :: kpP as bs (some b)) + ((if b < t then 1 else 0) + cB t bs)
    by_cases e : pv = some b
    · have ab : a = b := Rat.le_antisymm (h.2.1 b e) h.1
      rw [ab, if_pos e, if_pos e]
      omega
    · rw [if_neg e, if_neg e]
      show (if a < t then 1 else 0) + cB t as + ((if b < t then 1 else 0) + cB t (unP bs (some b))) = ((if a < t then 1 else 0) + cB t (kpP as bs (some b))) + ((if b < t then 1 else 0) + cB t bs)
      omega
/-- raised rows: the counts differ by one at most -/
theorem rst_counts (t : Rat) : ∀ {as bs : List Rat} {pv : Option Rat}, Rst as bs pv → cA t bs ≤ cA t as ∧ cA t as ≤ cA t bs + (match pv with | some p => (if t < p then 1 else 0) | none => 1) ∧ cB t as ≤ cB t bs ∧ cB t bs ≤ cB t as + 1 ∧ (∀ p, pv = some p → t ≤ p ∨ cB t bs ≤ cB t as)
  | [], [], none, _ => ⟨Int.le_refl 0, by show (0 : Int) ≤ 0 + 1; decide, Int.le_refl 0, by show (0 : Int) ≤ 0 + 1; decide, fun p h => by cases h⟩
  | [], [], some p, _ => ⟨Int.le_refl 0, by
      show (0 : Int) ≤ 0 + (if t < p then 1 else 0)
      split <;> decide, Int.le_refl 0, by show (0 : Int) ≤ 0 + 1; decide, fun q h => .inr (Int.le_refl 0)⟩
  | [], _ :: _, _, h => h.elim
  | _ :: _, [], _, h => h.elim
  | a :: as, b :: bs, pv, h => by
    obtain ⟨i1, i2, i3, i4, i5⟩ := rst_counts t h.2.2.2
    have h1 := h.1
    have i2 : cA t as ≤ cA t bs + (if t < b then 1 else 0) := i2
    have i5 := i5 b rfl
    have ab : (if t < b then (1 : Int) else 0) ≤ if t < a then 1 else 0 := by
      by_cases z : t < b
      · rw [if_pos z, if_pos (by grind)]
        decide
      · rw [if_neg z]
        split <;> decide
    have ba : (if a < t then (1 : Int) else 0) ≤ if b < t then 1 else 0 := by
      by_cases z : a < t
      · rw [if_pos z, if_pos (by grind)]
        decide
      · rw [if_neg z]
        split <;> decide
    refine ⟨?_, ?_, ?_, ?_, fun p hp => ?_⟩
    · show (if t < b then (1 : Int) else 0) + cA t bs ≤ (if t < a then 1 else 0) + cA t as
      omega
    · show (if t < a then (1 : Int) else 0) + cA t as ≤ (if t < b then 1 else 0) + cA t bs + _
      cases pv with
      | none =>
        show _ ≤ _ + (1 : Int)
        have : (if t < a then (1 : Int) else 0) ≤ 1 := by split <;> decide
        omega
      | some p =>
        have hp := h.2.1 p rfl
        show _ ≤ _ + (if t < p then (1 : Int) else 0)
        have : (if t < a then (1 : Int) else 0) ≤ if t < p then 1 else 0 := by
          by_cases z : t < a
          · rw [if_pos z, if_pos (by grind)]
            decide
          · rw [if_neg z]
            split <;> decide
        omega
    · show (if a < t then (1 : Int) else 0) + cB t as ≤ (if b < t then 1 else 0) + cB t bs
      omega
    · show (if b < t then (1 : Int) else 0) + cB t bs ≤ (if a < t then 1 else 0) + cB t as + 1
      rcases i5 with z | z
      · have : (if b < t then (1 : Int) else 0) = 0 := if_neg (by grind)
        have : (0 : Int) ≤ if a < t then 1 else 0 := by split <;> decide
        omega
      · have : (if b < t then (1 : Int) else 0) ≤ 1 := by split <;> decide
        have : (0 : Int) ≤ if a < t then 1 else 0 := by split <;> decide
        omega
    · have pa := h.2.1 p hp
      by_cases z : t ≤ p
      · exact .inl z
      · right
        have e1 : (if a < t then (1 : Int) else 0) = 1 := if_pos (by grind)
        have e2 : (if b < t then (1 : Int) else 0) ≤ 1 := by split <;> decide
        show (if b < t then (1 : Int) else 0) + cB t bs ≤ (if a < t then 1 else 0) + cB t as
        rcases i5 with y | y
        · exact absurd y (by grind)
        · omega
/-- how many are at the number -/
theorem cAB_le (t : Rat) : ∀ l : List Rat, cA t l + cB t l ≤ l.length ∧ (t ∈ l → cA t l + cB t l < l.length) ∧ (t ∉ l → cA t l + cB t l = l.length)
  | [] => ⟨Int.le_refl 0, (fun h => by cases h), fun _ => rfl⟩
  | x :: r => by
    obtain ⟨h1, h2, h3⟩ := cAB_le t r
    have e : cA t (x :: r) + cB t (x :: r) = (if t < x then 1 else 0) + (if x < t then 1 else 0) + (cA t r + cB t r) := by
      show (if t < x then (1 : Int) else 0) + cA t r + ((if x < t then 1 else 0) + cB t r) = _
      omega
    have l : (((x :: r).length : Nat) : Int) = r.length + 1 := by
      rw [List.length_cons]
      omega
    rw [e, l]
    have one : (if t < x then (1 : Int) else 0) + (if x < t then 1 else 0) ≤ 1 := by
      by_cases z : t < x
      · rw [if_pos z, if_neg (by grind)]
        decide
      · rw [if_neg z]
        split <;> decide
    refine ⟨by omega, fun h => ?_, fun h => ?_⟩
    · rcases List.mem_cons.mp h with z | z
      · have : (if t < x then (1 : Int) else 0) + (if x < t then 1 else 0) = 0 := by
          rw [if_neg (by grind), if_neg (by grind)]
          rfl
        omega
      · have := h2 z
        omega
    · have n1 : t ≠ x := fun z => h (List.mem_cons.mpr (.inl z))
      have := h3 fun z => h (List.mem_cons_of_mem _ z)
      have : (if t < x then (1 : Int) else 0) + (if x < t then 1 else 0) = 1 := by
        by_cases z : t < x
        · rw [if_pos z, if_neg (by grind)]
          rfl
        · rw [if_neg z, if_pos (by grind)]
          rfl
      omega
def sgI (n : Int) : Rat := sgP n.toNat
theorem cA_nn (t : Rat) : ∀ l : List Rat, 0 ≤ cA t l
  | [] => Int.le_refl 0
  | x :: r => by
    have := cA_nn t r
    show (0 : Int) ≤ (if t < x then 1 else 0) + cA t r
    split <;> omega
/-- the sign of the product of the gaps -/
theorem prG_sign (t : Rat) : ∀ {l : List Rat}, t ∉ l → 0 < sgI (cA t l) * prG l t
  | [], _ => by
    show (0 : Rat) < 1 * 1
    grind
  | x :: r, h => by
    have ih := prG_sign t (l := r) fun z => h (List.mem_cons_of_mem _ z)
    have n1 : t ≠ x := fun z => h (List.mem_cons.mpr (.inl z))
    have nn := cA_nn t r
    by_cases z : t < x
    · have e : cA t (x :: r) = cA t r + 1 := by
        show (if t < x then (1 : Int) else 0) + cA t r = _
        rw [if_pos z]
        omega
      have e2 : sgI (cA t r + 1) = - sgI (cA t r) := by
        unfold sgI
        rw [show (cA t r + 1).toNat = (cA t r).toNat + 1 by omega]
        rfl
      rw [e, e2]
      have := Rat.mul_pos (a := x - t) (by grind) ih
      show 0 < - sgI (cA t r) * ((t - x) * prG r t)
      grind
    · have e : cA t (x :: r) = cA t r := by
        show (if t < x then (1 : Int) else 0) + cA t r = _
        rw [if_neg z]
        omega
      rw [e]
      have := Rat.mul_pos (a := t - x) (by grind) ih
      show 0 < sgI (cA t r) * ((t - x) * prG r t)
      grind
theorem sgI_sq (n : Int) : sgI n * sgI n = 1 := sg_sq _
theorem sgI_succ {n : Int} (h : 0 ≤ n) : sgI (n + 1) = - sgI n := by
  unfold sgI
  rw [show (n + 1).toNat = n.toNat + 1 by omega]
  rfl
/-- a product beside another one: the sign of what takes the one to the other -/
theorem ratio_sign {t S : Rat} {K U : List Rat} (h : prG K t = prG U t * S) (nu : t ∉ U) : (t ∈ K → S = 0) ∧ (t ∉ K → cA t K = cA t U → 0 < S) ∧ (t ∉ K → cA t K = cA t U + 1 → S < 0) := by
  have pu := prG_ne nu
  have su := prG_sign t nu
  have s2 := sgI_sq (cA t U)
  refine ⟨fun m => ?_, fun m e => ?_, fun m e => ?_⟩
  · rw [prG_zero m] at h
    rcases Rat.mul_eq_zero.mp h.symm with z | z
    · exact absurd z pu
    · exact z
  · have sk := prG_sign t m
    rw [e, h] at sk
    generalize sgI (cA t U) = s at su sk s2
    generalize prG U t = u at su sk pu
    rcases Rat.le_total (a := S) (b := 0) with z | z
    · have := Rat.mul_nonneg (a := s * u) (b := -S) (by grind) (by grind)
      grind
    · rcases Rat.le_iff_lt_or_eq.mp z with k | k
      · exact k
      · rw [← k] at sk
        grind
  · have sk := prG_sign t m
    rw [e, h, sgI_succ (cA_nn t U)] at sk
    generalize sgI (cA t U) = s at su sk s2
    generalize prG U t = u at su sk pu
    rcases Rat.le_total (a := 0) (b := S) with z | z
    · have := Rat.mul_nonneg (a := s * u) (b := S) (by grind) z
      grind
    · rcases Rat.le_iff_lt_or_eq.mp z with k | k
      · exact k
      · rw [k] at sk
        grind
end V3
/-! The counts of a change by 1, as the program reckons them. -/
namespace V3
theorem kept_poly_g {K U : List Rat} {g : Rat → Rat} (nd : U.Nodup) (l : K.length = U.length) (hg : ∀ u ∈ U, prG K u = - (g u * prG (woP u U) u)) (t : Rat) : prG K t = prG U t - smU (fun u => g u * prG (woP u U) t) U := by
  have e := monic_eq (pts := U) (p := tkP g U U (ofZ U)) (q := ofZ K) (tk_ev _ nd t U (ofZ U) (fun _ h => h) (ofZ_monic U)).1 (by rw [← l]; exact ofZ_monic K) nd fun x hx => by
    rw [(tk_ev _ nd x U (ofZ U) (fun _ h => h) (ofZ_monic U)).2, ev_ofZ, ev_ofZ, prG_zero hx, smU_one nd hx fun v hv ne => ?_, hg x hx]
    · grind
    · have : x ∈ woP v U := List.mem_filter.mpr ⟨hx, by simpa using fun z => ne z.symm⟩
      rw [prG_zero this]
      grind
  have h := (tk_ev g nd t U (ofZ U) (fun _ h => h) (ofZ_monic U)).2
  rw [e, ev_ofZ, ev_ofZ] at h
  exact h
/-- with the gaps taken out -/
theorem quot {K U : List Rat} {g : Rat → Rat} {t : Rat} (nd : U.Nodup) (nu : t ∉ U) (h : prG K t = prG U t - smU (fun u => g u * prG (woP u U) t) U) : prG K t = prG U t * (1 - smU (fun u => g u / (t - u)) U) := by
  have sm := smU_mul (prG U t) (fun u => g u / (t - u)) (fun u => g u * prG (woP u U) t) U fun u hu => by
    have hw := (wo_prod nd hu t).1
    have ne : t - u ≠ 0 := fun z => nu (by
      have : t = u := by grind
      rw [this]
      exact hu)
    have hc := Rat.div_mul_cancel (a := g u) ne
    show g u * prG (woP u U) t = prG U t * (g u / (t - u))
    rw [hw]
    generalize g u / (t - u) = d at hc ⊢
    rw [← hc]
    grind
  rw [h, sm]
  generalize smU (fun u => g u / (t - u)) U = S
  grind
/-- what is summed beside the number -/
def qB (t : Rat) : List Rat → List Rat → Rat
  | b :: bs, c :: cs => (if b ≠ t then c / (b - t) else 0) + qB t bs cs
  | _, _ => 0
theorem qB_told (kept un : List Rat) (t : Rat) : ∀ (l : List Rat) (pv : Option Rat), qB t l (toldR kept un l pv) = - smU (fun u => sqP kept un u / (t - u)) (woP t (unP l pv))
  | [], _ => by
    show (0 : Rat) = - 0
    grind
  | b :: bs, pv => by
    show (if b ≠ t then (if pv = some b then 0 else sqP kept un b) / (b - t) else 0) + qB t bs (toldR kept un bs (some b)) = - smU (fun u => sqP kept un u / (t - u)) (woP t (if pv = some b then unP bs (some b) else b :: unP bs (some b)))
    rw [qB_told kept un t bs (some b)]
    generalize hw : woP t (unP bs (some b)) = W
    by_cases e : pv = some b
    · rw [if_pos e, if_pos e, hw]
      have : (if b ≠ t then (0 : Rat) / (b - t) else 0) = 0 := by
        split
        · rw [Rat.div_def]
          grind
        · rfl
      rw [this]
      generalize smU (fun u => sqP kept un u / (t - u)) W = S
      grind
    · rw [if_neg e, if_neg e]
      by_cases z : b = t
      · have e1 : woP t (b :: unP bs (some b)) = W := by
          rw [← hw]
          unfold woP
          rw [List.filter_cons_of_neg (by simp [z])]
        rw [e1, if_neg (by simpa using z)]
        generalize smU (fun u => sqP kept un u / (t - u)) W = S
        grind
      · have e1 : woP t (b :: unP bs (some b)) = b :: W := by
          rw [← hw]
          unfold woP
          rw [List.filter_cons_of_pos (by simpa using z)]
        rw [e1, if_pos (by simpa using z)]
        show sqP kept un b / (b - t) + - smU (fun u => sqP kept un u / (t - u)) W = - (sqP kept un b / (t - b) + smU (fun u => sqP kept un u / (t - u)) W)
        generalize smU (fun u => sqP kept un u / (t - u)) W = S
        have n1 : b - t ≠ 0 := by grind
        have n2 : t - b ≠ 0 := by grind
        have h1 := Rat.div_mul_cancel (a := sqP kept un b) n1
        have h2 := Rat.div_mul_cancel (a := sqP kept un b) n2
        generalize sqP kept un b / (b - t) = x at h1 ⊢
        generalize sqP kept un b / (t - b) = y at h2 ⊢
        have h3 : (x + y) * (b - t) = 0 := by grind
        rcases Rat.mul_eq_zero.mp h3 with k | k
        · grind
        · exact absurd k n1
/-- an other at the number with a square above 0 -/
def tieP (t : Rat) : List Rat → List Rat → Prop
  | b :: bs, c :: cs => (b = t ∧ 0 < c) ∨ tieP t bs cs
  | _, _ => False
theorem tie_told (kept un : List Rat) (t : Rat) : ∀ (l : List Rat) (pv : Option Rat), tieP t l (toldR kept un l pv) ↔ t ∈ unP l pv ∧ 0 < sqP kept un t
  | [], _ => ⟨fun h => h.elim, fun h => by cases h.1⟩
  | b :: bs, pv => by
    show (b = t ∧ 0 < (if pv = some b then 0 else sqP kept un b)) ∨ tieP t bs (toldR kept un bs (some b)) ↔ t ∈ (if pv = some b then unP bs (some b) else b :: unP bs (some b)) ∧ 0 < sqP kept un t
    rw [tie_told kept un t bs (some b)]
    by_cases e : pv = some b
    · rw [if_pos e, if_pos e]
      constructor
      · rintro (⟨_, h⟩ | h)
        · exact absurd h (by grind)
        · exact h
      · exact fun h => .inr h
    · rw [if_neg e, if_neg e]
      constructor
      · rintro (⟨h1, h2⟩ | ⟨h1, h2⟩)
        · rw [h1] at h2
          exact ⟨List.mem_cons.mpr (.inl h1.symm), h2⟩
        · exact ⟨List.mem_cons_of_mem _ h1, h2⟩
      · rintro ⟨h1, h2⟩
        rcases List.mem_cons.mp h1 with z | z
        · exact .inl ⟨z.symm, by rw [← z]; exact h2⟩
        · exact .inr ⟨z, h2⟩
theorem cA_wo (t : Rat) : ∀ l : List Rat, cA t (woP t l) = cA t l ∧ cB t (woP t l) = cB t l
  | [] => ⟨rfl, rfl⟩
  | x :: r => by
    obtain ⟨h1, h2⟩ := cA_wo t r
    by_cases e : x = t
    · have e1 : woP t (x :: r) = woP t r := by
        unfold woP
        rw [List.filter_cons_of_neg (by simp [e])]
      rw [e1, h1, h2, e]
      constructor
      · show _ = (if t < t then (1 : Int) else 0) + cA t r
        rw [if_neg (by grind)]
        omega
      · show _ = (if t < t then (1 : Int) else 0) + cB t r
        rw [if_neg (by grind)]
        omega
    · have e1 : woP t (x :: r) = x :: woP t r := by
        unfold woP
        rw [List.filter_cons_of_pos (by simpa using e)]
      rw [e1]
      constructor
      · show (if t < x then (1 : Int) else 0) + cA t (woP t r) = (if t < x then 1 else 0) + cA t r
        rw [h1]
      · show (if x < t then (1 : Int) else 0) + cB t (woP t r) = (if x < t then 1 else 0) + cB t r
        rw [h2]
theorem erase_facts {t : Rat} : ∀ {l : List Rat}, t ∈ l → cA t (l.erase t) = cA t l ∧ cB t (l.erase t) = cB t l ∧ l.length = (l.erase t).length + 1 ∧ ∀ s, prG l s = (s - t) * prG (l.erase t) s
  | [], hnil => by cases hnil
  | x :: r, h => by
    by_cases e : x = t
    · subst e
      rw [List.erase_cons_head]
      refine ⟨?_, ?_, rfl, fun s => rfl⟩
      · show _ = (if x < x then (1 : Int) else 0) + cA x r
        rw [if_neg (by grind)]
        omega
      · show _ = (if x < x then (1 : Int) else 0) + cB x r
        rw [if_neg (by grind)]
        omega
    · have hr : t ∈ r := by
        (rcases List.mem_cons.mp h with z | z)
        · exact absurd z.symm e
        · exact z
      obtain ⟨h1, h2, h3, h4⟩ := erase_facts hr
      rw [List.erase_cons_tail (by simpa using e)]
      refine ⟨?_, ?_, by rw [List.length_cons, List.length_cons, h3], fun s => ?_⟩
      · show (if t < x then (1 : Int) else 0) + cA t (r.erase t) = (if t < x then 1 else 0) + cA t r
        rw [h1]
      · show (if x < t then (1 : Int) else 0) + cB t (r.erase t) = (if x < t then 1 else 0) + cB t r
        rw [h2]
      · show (s - x) * prG r s = (s - t) * ((s - x) * prG (r.erase t) s)
        rw [h4]
        grind
theorem wo_same {t : Rat} {l : List Rat} (h : t ∉ l) : woP t l = l := by
  unfold woP
  refine List.filter_eq_self.mpr fun x hx => ?_
  have : x ≠ t := fun z => h (z ▸ hx)
  simpa using this
theorem wo_comm (u t : Rat) (l : List Rat) : woP t (woP u l) = woP u (woP t l) := by
  unfold woP
  rw [List.filter_filter, List.filter_filter]
  congr 1
  funext x
  exact Bool.and_comm _ _
theorem counts_right {tops lows : List Rat} (h : Rsd tops lows none) (t : Rat) :
    (tieP t lows (toldR (kpP tops lows none) (unP lows none) lows none) → cA t tops = cA t lows + 1 ∧ cB t tops = cB t lows) ∧
    (¬ tieP t lows (toldR (kpP tops lows none) (unP lows none) lows none) →
      (0 < 1 + qB t lows (toldR (kpP tops lows none) (unP lows none) lows none) → cA t tops = cA t lows ∧ cB t tops = cB t lows) ∧
      (1 + qB t lows (toldR (kpP tops lows none) (unP lows none) lows none) < 0 → cA t tops = cA t lows + 1 ∧ cB t tops = cB t lows - 1) ∧
      (1 + qB t lows (toldR (kpP tops lows none) (unP lows none) lows none) = 0 → cA t tops = cA t lows ∧ cB t tops = cB t lows - 1)) := by
  have nd : (unP lows none).Nodup := steep_nodup (un_steep h.fall)
  have len := kp_len h
  have rs := kp_rst h
  have ka := kp_cA t h
  have kb := kp_cB t h
  obtain ⟨c1, c2, c3, c4, _⟩ := rst_counts t rs
  have c2 : cA t (kpP tops lows none) ≤ cA t (unP lows none) + 1 := c2
  rw [qB_told]
  generalize hK : kpP tops lows none = K at *
  generalize hU : unP lows none = U at *
  have tie := tie_told K U t lows none
  rw [hU] at tie
  have k1 := cAB_le t K
  have u1 := cAB_le t U
  have l2 : ((K.length : Nat) : Int) = U.length := by rw [len]
  generalize hS : 1 + - smU (fun u => sqP K U u / (t - u)) (woP t U) = S
  by_cases mU : t ∈ U
  · have hw := wo_prod nd mU 0
    have nw := wo_not t U
    have w1 := (cAB_le t (woP t U)).2.2 nw
    rw [(cA_wo t U).1, (cA_wo t U).2] at w1
    have lw : ((U.length : Nat) : Int) = (woP t U).length + 1 := by
      rw [hw.2]
      omega
    have se := sq_eq nd mU len
    have pw := prG_ne nw
    have nn := sq_nn' rs mU
    by_cases mK : t ∈ K
    · have s0 : sqP K U t = 0 := by
        rw [prG_zero mK] at se
        have : sqP K U t * prG (woP t U) t = 0 := by grind
        rcases Rat.mul_eq_zero.mp this with z | z
        · exact z
        · exact absurd z pw
      have nt : ¬ tieP t lows (toldR K U lows none) := fun z => by
        have := (tie.mp z).2
        grind
      refine ⟨fun z => absurd z nt, fun _ => ?_⟩
      obtain ⟨e1, e2, e3, e4⟩ := erase_facts mK
      have nd2 : (woP t U).Nodup := nd.sublist List.filter_sublist
      have lk : (K.erase t).length = (woP t U).length := by
        have := hw.2
        omega
      have kp := kept_poly_g (K := K.erase t) (U := woP t U) (g := sqP K U) nd2 lk (fun u hu => by
        have hu2 := List.mem_filter.mp hu
        have ne : u ≠ t := by simpa using hu2.2
        have q := sq_eq nd hu2.1 len
        have mt : t ∈ woP u U := List.mem_filter.mpr ⟨mU, by simpa using fun z => ne z.symm⟩
        have nd3 : (woP u U).Nodup := nd.sublist List.filter_sublist
        have e5 := (wo_prod nd3 mt u).1
        rw [e4 u, e5, wo_comm u t] at q
        have n0 : u - t ≠ 0 := by grind
        generalize prG (K.erase t) u = x at q ⊢
        generalize prG (woP u (woP t U)) u = y at q ⊢
        have : (u - t) * (x + sqP K U u * y) = 0 := by grind
        rcases Rat.mul_eq_zero.mp this with z | z
        · exact absurd z n0
        · grind) t
      have kq := quot nd2 nw kp
      have kq : prG (K.erase t) t = prG (woP t U) t * S := by
        rw [kq, ← hS]
        generalize smU (fun u => sqP K U u / (t - u)) (woP t U) = s
        grind
      obtain ⟨r1, r2, r3⟩ := ratio_sign kq nw
      rw [e1, (cA_wo t U).1] at r2 r3
      have ke := cAB_le t (K.erase t)
      rw [e1, e2] at ke
      have lke : ((K.length : Nat) : Int) = (K.erase t).length + 1 := by omega
      by_cases m2 : t ∈ K.erase t
      · have s0 := r1 m2
        have := ke.2.1 m2
        refine ⟨fun z => ?_, fun z => ?_, fun _ => by constructor <;> omega⟩
        · rw [s0] at z
          exact absurd z (by grind)
        · rw [s0] at z
          exact absurd z (by grind)
      · have ks := ke.2.2 m2
        have r2 := r2 m2
        have r3 := r3 m2
        have two : cA t K = cA t U ∨ cA t K = cA t U + 1 := by omega
        rcases two with e | e
        · have sp := r2 e
          refine ⟨fun _ => by constructor <;> omega, fun z => ?_, fun z => ?_⟩
          · exact absurd z (by grind)
          · exact absurd z (by grind)
        · have sp := r3 e
          refine ⟨fun z => ?_, fun _ => by constructor <;> omega, fun z => ?_⟩
          · exact absurd z (by grind)
          · exact absurd z (by grind)
    · have sp : 0 < sqP K U t := by
        rcases Rat.le_iff_lt_or_eq.mp nn with z | z
        · exact z
        · rw [← z] at se
          have : prG K t = 0 := by grind
          exact absurd this (prG_ne mK)
      have ty := tie.mpr ⟨mU, sp⟩
      have := k1.2.2 mK
      exact ⟨fun _ => by constructor <;> omega, fun z => absurd ty z⟩
  · have nt : ¬ tieP t lows (toldR K U lows none) := fun z => mU (tie.mp z).1
    refine ⟨fun z => absurd z nt, fun _ => ?_⟩
    have kq := quot nd mU (kept_poly nd len t)
    rw [wo_same mU] at hS
    have kq : prG K t = prG U t * S := by
      rw [kq, ← hS]
      generalize smU (fun u => sqP K U u / (t - u)) U = s
      grind
    obtain ⟨r1, r2, r3⟩ := ratio_sign kq mU
    have us := u1.2.2 mU
    by_cases mK : t ∈ K
    · have s0 := r1 mK
      have := k1.2.1 mK
      refine ⟨fun z => ?_, fun z => ?_, fun _ => by constructor <;> omega⟩
      · rw [s0] at z
        exact absurd z (by grind)
      · rw [s0] at z
        exact absurd z (by grind)
    · have ks := k1.2.2 mK
      have r2 := r2 mK
      have r3 := r3 mK
      have two : cA t K = cA t U ∨ cA t K = cA t U + 1 := by omega
      rcases two with e | e
      · have sp := r2 e
        refine ⟨fun _ => by constructor <;> omega, fun z => ?_, fun z => ?_⟩
        · exact absurd z (by grind)
        · exact absurd z (by grind)
      · have sp := r3 e
        refine ⟨fun z => ?_, fun _ => by constructor <;> omega, fun z => ?_⟩
        · exact absurd z (by grind)
        · exact absurd z (by grind)
end V3
namespace V3
open PySem.Spec PySem L2 PyProof.Rows RZ GxR
def topS (i : Nat) : Stmt := PySem.Challenge.pw_rootsabove_k24_whole_arrows_there_and_ba.main.body.getD i (.Pass ⟨0, 0, 0, 0⟩)
structure Gs (K : PySem.W.Frag) (mg : Str → Option Value) : Prop where
  gcd : mg "gcd" = some (.builtin "math.gcd")
  NOUGHT : ∃ p, mg "NOUGHT" = some (.ref p) ∧ ∀ H, SqT K H p [.int 0, .int 1]
  ONE : ∃ p, mg "ONE" = some (.ref p) ∧ ∀ H, SqT K H p [.int 1, .int 1]
  ROWS : ∃ tk, mg "MOST_ROWS" = some (.int 5 tk)
  MOST : ∃ tk, mg "MOST_ROOTS" = some (.int 6 tk)
  ABOVE : ∃ tk, mg "ABOVE" = some (.int 0 tk)
  AT : ∃ tk, mg "AT" = some (.int 1 tk)
  BELOW : ∃ tk, mg "BELOW" = some (.int 2 tk)
  type_ : mg "type" = none
  int_ : mg "int" = none
  tuple_ : mg "tuple" = none
  list_ : mg "list" = none
  str_ : mg "str" = none
  bool_ : mg "bool" = none
  len : mg "len" = none
  range : mg "range" = none
  abs : mg "abs" = none
  isinstance : mg "isinstance" = none
  all : mg "all" = none
  any : mg "any" = none
  sum : mg "sum" = none
  enumerate : mg "enumerate" = none
  zip : mg "zip" = none
  divmod : mg "divmod" = none
  max : mg "max" = none
  min : mg "min" = none
abbrev rowQ (qs : List Rat) : PyData := .tuple (qs.map frd)
theorem gqDt {K : PySem.W.Frag} {H : Hp} {xs : List V} {qs : List Rat} {i : Nat} (h : DpTAll K H xs (qs.map frd)) (l : i < qs.length) : ∃ v, xs[i]? = some v ∧ DpT K H v (frd (gq qs i)) := fqGet h (gq_get l)
/-! ### // by any whole number but 0 -/
def CDivZ (_ j : Int) : Prop := j ≠ 0 ∧ j.natAbs.log2 < 9000
theorem op_fdivZ {X : Cx} : OpR X (binaryOp .FloorDiv) (rI CDivZ fun i j => .int (i.fdiv j)) := opI fun _ _ _ _ _ _ _ hc q => floordiv_int hc.1 q (.inl (PyProof.noPylong_of_log2 hc.2))
theorem fdiv_exact {n g : Int} (h : g ∣ n) : n.fdiv g = n / g := Int.fdiv_eq_ediv_of_dvd h
def spFracZ : Sp := fun vs H Q _ => ∃ n u : Int, vs = [.int n, .int u] ∧ u ≠ 0 ∧ u.natAbs < 2 ^ 9000 ∧ ∀ H' p, Same H H' → H' p = some (frO (Rat.divInt n u)) → Q (.ref p) H'
theorem gcdZ {n u : Int} (h : u ≠ 0) : 0 < (Int.gcd n u : Int) := by
  have : 0 < Int.gcd n u := Int.gcd_pos_of_ne_zero_right n h
  omega
theorem madeN {n u : Int} {H : Hp} {p : Addr} (h : u < 0) (e : H p = some (.tup [.int (n.fdiv (-(Int.gcd n u : Int))), .int (u.fdiv (-(Int.gcd n u : Int)))])) : H p = some (frO (Rat.divInt n u)) := by
  have g0 := gcdZ (n := n) (u := u) (by omega)
  have d1 : (Int.gcd n u : Int) ∣ n := Int.gcd_dvd_left ..
  have d2 : (Int.gcd n u : Int) ∣ u := Int.gcd_dvd_right ..
  have e1 : Rat.divInt n u = Rat.divInt (-n) (-u) := (Rat.divInt_eq_divInt_iff (by omega) (by omega)).mpr (by grind)
  have gg : Int.gcd (-n) (-u) = Int.gcd n u := by rw [Int.gcd_neg, Int.neg_gcd]
  have hn : (Rat.divInt n u).num = n.fdiv (-(Int.gcd n u : Int)) := by
    rw [e1, dnum (by omega), gg, fdiv_exact (Int.neg_dvd.mpr d1), Int.ediv_neg, Int.neg_ediv_of_dvd d1]
  have hd : ((Rat.divInt n u).den : Int) = u.fdiv (-(Int.gcd n u : Int)) := by
    rw [e1, dden (by omega), gg, fdiv_exact (Int.neg_dvd.mpr d2), Int.ediv_neg, Int.neg_ediv_of_dvd d2]
  rw [e]
  unfold frO
  rw [hn, hd]
section
variable {mg : Str → Option Value} {base : Heap} {K : PySem.W.Frag} {P : Program} {w : World}
abbrev s_fraction : Stmt := topS 10
abbrev N_fraction : List Str := ["number", "under", "shared"]
theorem sc_fraction : FnScope N_fraction ["number", "under"] (defScope s_fraction) := ⟨rfl, rfl, rfl, by decide +kernel, rfl, by decide +kernel, by decide +kernel⟩
theorem ok_fraction (T : Gs K mg) (F : At K mg "fraction" s_fraction) : Df P w K mg base "fraction" 1 ["number", "under"] spFracZ := by
  have sc := sc_fraction
  refine Df.mk' F sc (fun vs H Q E h => ?_) (fun _ _ _ _ _ _ us hl => match us, hl with | [_, _], _ => rfl) (fun f cdv A outer s H vs Q E hr h => ?_)
  · obtain ⟨n, u, rfl, _⟩ := h
    rfl
  · obtain ⟨n, u, rfl, hu, su, q⟩ := h
    refine ⟨_, (pss_cons (ps_set (i := 2) sc.nd rfl (.inl rfl) (pe_callBfun cr_gcd (by rfl) T.gcd (pa_cons (pv 0) (pa_cons (pv 1) pa_nil)))) (pss_cons (ps_if (pt_cmpR op_lt (pv 1) pe_int (nomark _)) (pss_one (ps_set (i := 2) sc.nd rfl (.inl rfl) (pe_un un_neg (pv 2)))) pss_nil) (pss_one (ps_ret (pe_tup (pa_cons (pe_op op_fdivZ (pv 0) (pv 2)) (pa_cons (pe_op op_fdivZ (pv 1) (pv 2)) pa_nil))))))), ?_⟩
    have g0 := gcdZ (n := n) hu
    have gl : (Int.gcd n u : Int).natAbs < 2 ^ 9000 := by
      have : Int.gcd n u ≤ u.natAbs := Nat.le_of_dvd (by omega) (Int.gcd_dvd_natAbs_right n u)
      rw [Int.natAbs_natCast]
      omega
    have lg := PySem.Flt.log2_lt_of (k := 9000) (by decide) gl
    have lgn : (-(Int.gcd n u : Int)).natAbs.log2 < 9000 := by rw [Int.natAbs_neg]; exact lg
    have d1 : (Int.gcd n u : Int) ∣ n := Int.gcd_dvd_left ..
    have d2 : (Int.gcd n u : Int) ∣ u := Int.gcd_dvd_right ..
    refine ⟨_, rfl, _, rfl, n, u, rfl, ?_⟩
    refine ⟨_, rfl, _, _, rfl, rfl, _, rfl, ite2 (fun e => ?_) (fun e => ?_)⟩
    · have un : u < 0 := of_decide_eq_true e
      have w : CDivZ n (-(Int.gcd n u : Int)) := ⟨by omega, lgn⟩
      refine ⟨_, rfl, _, rfl, ?_⟩
      refine ⟨_, rfl, _, rfl, _, _, rfl, rfl, w, _, rfl, _, rfl, _, _, rfl, rfl, w, by show 2 ≤ sizeLine; decide, fun p hp => ?_⟩
      exact q _ p (same_upd hp) (madeN un upd_same)
    · have up : 0 < u := by
        have : ¬ u < 0 := fun z => e (decide_eq_true z)
        omega
      have w : CDivZ n (Int.gcd n u : Int) := ⟨by omega, lg⟩
      refine ⟨_, rfl, _, rfl, _, _, rfl, rfl, w, _, rfl, _, rfl, _, _, rfl, rfl, w, by show 2 ≤ sizeLine; decide, fun p hp => ?_⟩
      refine q _ p (same_upd hp) (made up ?_)
      rw [upd_same, ← fdiv_exact d1, ← fdiv_exact d2]
      rfl
/-- fractions of unlike sizes -/
def spR2w (K : PySem.W.Frag) (f : Rat → Rat → Rat) : Sp := fun vs H Q _ => ∃ (v w : V) (x y : Rat) (a b : Nat), vs = [v, w] ∧ DpT K H v (frd x) ∧ DpT K H w (frd y) ∧ Bq a x ∧ Bq b y ∧ 0 < a ∧ 0 < b ∧ a + b ≤ 8900 ∧
  ∀ H' p, Same H H' → H' p = some (frO (f x y)) → Q (.ref p) H'
theorem w_of {f : Rat → Rat → Rat} : ∀ vs H Q E, spR2 K f (fun _ => True) vs H Q E → spR2w K f vs H Q E := fun vs H Q E ⟨v, w, x, y, e, h1, h2, b1, b2, _, q⟩ => ⟨v, w, x, y, 4000, 4000, e, h1, h2, b1, b2, by decide, by decide, by decide, q⟩
def spR2q (K : PySem.W.Frag) (f : Rat → Rat → Rat) (pre : Rat → Prop) : Sp := fun vs H Q _ => ∃ (v w : V) (x y : Rat) (a b : Nat), vs = [v, w] ∧ DpT K H v (frd x) ∧ DpT K H w (frd y) ∧ Bq a x ∧ Bq b y ∧ 0 < a ∧ 0 < b ∧ a + b ≤ 8900 ∧ pre y ∧
  ∀ H' p, Same H H' → H' p = some (frO (f x y)) → Q (.ref p) H'
theorem q_of {f : Rat → Rat → Rat} {pre : Rat → Prop} : ∀ vs H Q E, spR2 K f pre vs H Q E → spR2q K f pre vs H Q E := fun vs H Q E ⟨v, w, x, y, e, h1, h2, b1, b2, p, q⟩ => ⟨v, w, x, y, 4000, 4000, e, h1, h2, b1, b2, by decide, by decide, by decide, p, q⟩
abbrev s_plus : Stmt := topS 11
abbrev N_plus : List Str := ["one", "other"]
theorem sc_plus : FnScope N_plus ["one", "other"] (defScope s_plus) := ⟨rfl, rfl, rfl, by decide +kernel, rfl, by decide +kernel, by decide +kernel⟩
theorem ok_plus (D_fraction : Df P w K mg base "fraction" 1 ["number", "under"] spFracZ) (F : At K mg "plus" s_plus) : Df P w K mg base "plus" 2 ["one", "other"] (spR2w K (· + ·)) := by
  have sc := sc_plus
  refine Df.mk' F sc (fun vs H Q E h => ?_) (fun _ _ _ _ _ _ us hl => match us, hl with | [_, _], _ => rfl) (fun f cdv A outer s H vs Q E hr h => ?_)
  · obtain ⟨v, w, x, y, a, b, rfl, _⟩ := h
    rfl
  · obtain ⟨v, w, x, y, a, b, rfl, hx, hy, sx, sy, pa, pb, ab, q⟩ := h
    obtain ⟨p, rfl, hp⟩ := fqT hx
    obtain ⟨p', rfl, hp'⟩ := fqT hy
    refine ⟨_, (pss_one (ps_ret (pe_fn D_fraction (by decide) hr (pa_cons (pe_op op_add (pe_op op_mulW (pe_ix ix_tup (pv 0) pe_int (fun _ _ => rfl)) (pe_ix ix_tup (pv 1) pe_int (fun _ _ => rfl))) (pe_op op_mulW (pe_ix ix_tup (pv 1) pe_int (fun _ _ => rfl)) (pe_ix ix_tup (pv 0) pe_int (fun _ _ => rfl)))) (pa_cons (pe_op op_mulW (pe_ix ix_tup (pv 0) pe_int (fun _ _ => rfl)) (pe_ix ix_tup (pv 1) pe_int (fun _ _ => rfl))) pa_nil))))), ?_⟩
    refine ⟨_, rfl, _, _, _, _, rfl, rfl, hp, at20, _, rfl, _, _, _, _, rfl, rfl, hp', at21, _, _, rfl, rfl, wide_mul sx.n (natI sy.d) pa pb (by omega), ?_⟩
    refine ⟨_, rfl, _, _, _, _, rfl, rfl, hp', at20, _, rfl, _, _, _, _, rfl, rfl, hp, at21, _, _, rfl, rfl, wide_mul sy.n (natI sx.d) pb pa (by omega), ?_⟩
    refine ⟨_, _, rfl, rfl, ?_⟩
    refine ⟨_, rfl, _, _, _, _, rfl, rfl, hp, at21, _, rfl, _, _, _, _, rfl, rfl, hp', at21, _, _, rfl, rfl, wide_mul (natI sx.d) (natI sy.d) pa pb (by omega), ?_⟩
    dsimp only at q
    rw [radd] at q
    exact ⟨_, _, rfl, Int.ne_of_gt (Int.mul_pos (rden_pos x) (rden_pos y)), Nat.lt_of_lt_of_le (mulI (natI sx.d) (natI sy.d)) (pw (by omega)), q⟩
abbrev s_minus : Stmt := topS 12
abbrev N_minus : List Str := ["one", "other"]
theorem sc_minus : FnScope N_minus ["one", "other"] (defScope s_minus) := ⟨rfl, rfl, rfl, by decide +kernel, rfl, by decide +kernel, by decide +kernel⟩
theorem ok_minus (D_fraction : Df P w K mg base "fraction" 1 ["number", "under"] spFracZ) (F : At K mg "minus" s_minus) : Df P w K mg base "minus" 2 ["one", "other"] (spR2w K (· - ·)) := by
  have sc := sc_minus
  refine Df.mk' F sc (fun vs H Q E h => ?_) (fun _ _ _ _ _ _ us hl => match us, hl with | [_, _], _ => rfl) (fun f cdv A outer s H vs Q E hr h => ?_)
  · obtain ⟨v, w, x, y, a, b, rfl, _⟩ := h
    rfl
  · obtain ⟨v, w, x, y, a, b, rfl, hx, hy, sx, sy, pa, pb, ab, q⟩ := h
    obtain ⟨p, rfl, hp⟩ := fqT hx
    obtain ⟨p', rfl, hp'⟩ := fqT hy
    refine ⟨_, (pss_one (ps_ret (pe_fn D_fraction (by decide) hr (pa_cons (pe_op op_sub (pe_op op_mulW (pe_ix ix_tup (pv 0) pe_int (fun _ _ => rfl)) (pe_ix ix_tup (pv 1) pe_int (fun _ _ => rfl))) (pe_op op_mulW (pe_ix ix_tup (pv 1) pe_int (fun _ _ => rfl)) (pe_ix ix_tup (pv 0) pe_int (fun _ _ => rfl)))) (pa_cons (pe_op op_mulW (pe_ix ix_tup (pv 0) pe_int (fun _ _ => rfl)) (pe_ix ix_tup (pv 1) pe_int (fun _ _ => rfl))) pa_nil))))), ?_⟩
    refine ⟨_, rfl, _, _, _, _, rfl, rfl, hp, at20, _, rfl, _, _, _, _, rfl, rfl, hp', at21, _, _, rfl, rfl, wide_mul sx.n (natI sy.d) pa pb (by omega), ?_⟩
    refine ⟨_, rfl, _, _, _, _, rfl, rfl, hp', at20, _, rfl, _, _, _, _, rfl, rfl, hp, at21, _, _, rfl, rfl, wide_mul sy.n (natI sx.d) pb pa (by omega), ?_⟩
    refine ⟨_, _, rfl, rfl, ?_⟩
    refine ⟨_, rfl, _, _, _, _, rfl, rfl, hp, at21, _, rfl, _, _, _, _, rfl, rfl, hp', at21, _, _, rfl, rfl, wide_mul (natI sx.d) (natI sy.d) pa pb (by omega), ?_⟩
    dsimp only at q
    rw [rsub] at q
    exact ⟨_, _, rfl, Int.ne_of_gt (Int.mul_pos (rden_pos x) (rden_pos y)), Nat.lt_of_lt_of_le (mulI (natI sx.d) (natI sy.d)) (pw (by omega)), q⟩
abbrev s_times : Stmt := topS 13
abbrev N_times : List Str := ["one", "other"]
theorem sc_times : FnScope N_times ["one", "other"] (defScope s_times) := ⟨rfl, rfl, rfl, by decide +kernel, rfl, by decide +kernel, by decide +kernel⟩
theorem ok_times (D_fraction : Df P w K mg base "fraction" 1 ["number", "under"] spFracZ) (F : At K mg "times" s_times) : Df P w K mg base "times" 2 ["one", "other"] (spR2w K (· * ·)) := by
  have sc := sc_times
  refine Df.mk' F sc (fun vs H Q E h => ?_) (fun _ _ _ _ _ _ us hl => match us, hl with | [_, _], _ => rfl) (fun f cdv A outer s H vs Q E hr h => ?_)
  · obtain ⟨v, w, x, y, a, b, rfl, _⟩ := h
    rfl
  · obtain ⟨v, w, x, y, a, b, rfl, hx, hy, sx, sy, pa, pb, ab, q⟩ := h
    obtain ⟨p, rfl, hp⟩ := fqT hx
    obtain ⟨p', rfl, hp'⟩ := fqT hy
    refine ⟨_, (pss_one (ps_ret (pe_fn D_fraction (by decide) hr (pa_cons (pe_op op_mulW (pe_ix ix_tup (pv 0) pe_int (fun _ _ => rfl)) (pe_ix ix_tup (pv 1) pe_int (fun _ _ => rfl))) (pa_cons (pe_op op_mulW (pe_ix ix_tup (pv 0) pe_int (fun _ _ => rfl)) (pe_ix ix_tup (pv 1) pe_int (fun _ _ => rfl))) pa_nil))))), ?_⟩
    refine ⟨_, rfl, _, _, _, _, rfl, rfl, hp, at20, _, rfl, _, _, _, _, rfl, rfl, hp', at20, _, _, rfl, rfl, wide_mul sx.n sy.n pa pb (by omega), ?_⟩
    refine ⟨_, rfl, _, _, _, _, rfl, rfl, hp, at21, _, rfl, _, _, _, _, rfl, rfl, hp', at21, _, _, rfl, rfl, wide_mul (natI sx.d) (natI sy.d) pa pb (by omega), ?_⟩
    dsimp only at q
    rw [rmul] at q
    exact ⟨_, _, rfl, Int.ne_of_gt (Int.mul_pos (rden_pos x) (rden_pos y)), Nat.lt_of_lt_of_le (mulI (natI sx.d) (natI sy.d)) (pw (by omega)), q⟩
abbrev s_over : Stmt := topS 14
abbrev N_over : List Str := ["one", "other"]
theorem sc_over : FnScope N_over ["one", "other"] (defScope s_over) := ⟨rfl, rfl, rfl, by decide +kernel, rfl, by decide +kernel, by decide +kernel⟩
theorem ok_over (D_fraction : Df P w K mg base "fraction" 1 ["number", "under"] spFracZ) (F : At K mg "over" s_over) : Df P w K mg base "over" 2 ["one", "other"] (spR2q K (· / ·) fun y => y ≠ 0) := by
  have sc := sc_over
  refine Df.mk' F sc (fun vs H Q E h => ?_) (fun _ _ _ _ _ _ us hl => match us, hl with | [_, _], _ => rfl) (fun f cdv A outer s H vs Q E hr h => ?_)
  · obtain ⟨v, w, x, y, a, b, rfl, _⟩ := h
    rfl
  · obtain ⟨v, w, x, y, a, b, rfl, hx, hy, sx, sy, pa, pb, ab, y0, q⟩ := h
    obtain ⟨p, rfl, hp⟩ := fqT hx
    obtain ⟨p', rfl, hp'⟩ := fqT hy
    refine ⟨_, (pss_one (ps_ret (pe_fn D_fraction (by decide) hr (pa_cons (pe_op op_mulW (pe_ix ix_tup (pv 0) pe_int (fun _ _ => rfl)) (pe_ix ix_tup (pv 1) pe_int (fun _ _ => rfl))) (pa_cons (pe_op op_mulW (pe_ix ix_tup (pv 0) pe_int (fun _ _ => rfl)) (pe_ix ix_tup (pv 1) pe_int (fun _ _ => rfl))) pa_nil))))), ?_⟩
    refine ⟨_, rfl, _, _, _, _, rfl, rfl, hp, at20, _, rfl, _, _, _, _, rfl, rfl, hp', at21, _, _, rfl, rfl, wide_mul sx.n (natI sy.d) pa pb (by omega), ?_⟩
    refine ⟨_, rfl, _, _, _, _, rfl, rfl, hp, at21, _, rfl, _, _, _, _, rfl, rfl, hp', at20, _, _, rfl, rfl, wide_mul (natI sx.d) sy.n pa pb (by omega), ?_⟩
    dsimp only at q
    rw [rdiv] at q
    exact ⟨_, _, rfl, Int.mul_ne_zero (Int.ne_of_gt (rden_pos x)) (fun z => y0 (Rat.num_eq_zero.mp z)), Nat.lt_of_lt_of_le (mulI (natI sx.d) sy.n) (pw (by omega)), q⟩
abbrev s_opposite_of : Stmt := topS 15
abbrev N_opposite_of : List Str := ["number"]
theorem sc_opposite_of : FnScope N_opposite_of ["number"] (defScope s_opposite_of) := ⟨rfl, rfl, rfl, by decide +kernel, rfl, by decide +kernel, by decide +kernel⟩
def spOpp1 (K : PySem.W.Frag) : Sp := fun vs H Q _ => ∃ (v : V) (x : Rat), vs = [v] ∧ DpT K H v (frd x) ∧ ∀ H' p, Same H H' → H' p = some (frO (-x)) → Q (.ref p) H'
theorem ok_opposite_of (F : At K mg "opposite_of" s_opposite_of) : Df P w K mg base "opposite_of" 1 ["number"] (spOpp1 K) := by
  have sc := sc_opposite_of
  refine Df.mk' F sc (fun vs H Q E h => ?_) (fun _ _ _ _ _ _ us hl => match us, hl with | [_], _ => rfl) (fun f cdv A outer s H vs Q E hr h => ?_)
  · obtain ⟨v, x, rfl, _⟩ := h
    rfl
  · obtain ⟨v, x, rfl, hx, q⟩ := h
    obtain ⟨p, rfl, hp⟩ := fqT hx
    refine ⟨_, (pss_one (ps_ret (pe_tup (pa_cons (pe_un un_neg (pe_ix ix_tup (pv 0) pe_int (fun _ _ => rfl))) (pa_cons (pe_ix ix_tup (pv 0) pe_int (fun _ _ => rfl)) pa_nil))))), ?_⟩
    refine ⟨_, rfl, _, _, _, _, rfl, rfl, hp, at20, _, rfl, _, rfl, _, _, _, _, rfl, rfl, hp, at21, by show 2 ≤ sizeLine; decide, fun l hl => ?_⟩
    refine q _ l (same_upd hl) ?_
    rw [upd_same]
    unfold frO
    rw [Rat.neg_num, Rat.neg_den]
abbrev s_is_above : Stmt := topS 16
abbrev N_is_above : List Str := ["one", "other"]
theorem sc_is_above : FnScope N_is_above ["one", "other"] (defScope s_is_above) := ⟨rfl, rfl, rfl, by decide +kernel, rfl, by decide +kernel, by decide +kernel⟩
theorem ok_is_above (F : At K mg "is_above" s_is_above) : Df P w K mg base "is_above" 1 ["one", "other"] (spR2b K fun x y => decide (y < x)) := by
  have sc := sc_is_above
  refine Df.mk' F sc (fun vs H Q E h => ?_) (fun _ _ _ _ _ _ us hl => match us, hl with | [_, _], _ => rfl) (fun f cdv A outer s H vs Q E hr h => ?_)
  · obtain ⟨v, w, x, y, rfl, _⟩ := h
    rfl
  · obtain ⟨v, w, x, y, rfl, hx, hy, sx, sy, q⟩ := h
    obtain ⟨p, rfl, hp⟩ := fqT hx
    obtain ⟨p', rfl, hp'⟩ := fqT hy
    refine ⟨_, (pss_one (ps_ret (pe_cmpR op_gt (pe_op op_mulW (pe_ix ix_tup (pv 0) pe_int (fun _ _ => rfl)) (pe_ix ix_tup (pv 1) pe_int (fun _ _ => rfl))) (pe_op op_mulW (pe_ix ix_tup (pv 1) pe_int (fun _ _ => rfl)) (pe_ix ix_tup (pv 0) pe_int (fun _ _ => rfl))) (nomark _)))), ?_⟩
    refine ⟨_, rfl, _, _, _, _, rfl, rfl, hp, at20, _, rfl, _, _, _, _, rfl, rfl, hp', at21, _, _, rfl, rfl, mulW4 sx.n (natI sy.d), ?_⟩
    refine ⟨_, rfl, _, _, _, _, rfl, rfl, hp', at20, _, rfl, _, _, _, _, rfl, rfl, hp, at21, _, _, rfl, rfl, mulW4 sy.n (natI sx.d), ?_⟩
    dsimp only at q
    rw [← rlt] at q
    exact ⟨_, _, rfl, rfl, q⟩
end
end V3
set_option maxHeartbeats 8100000
namespace V3
open PySem.Spec PySem L2 PyProof.Rows RZ GxR
section
variable {mg : Str → Option Value} {base : Heap} {K : PySem.W.Frag} {P : Program} {w : World}
abbrev s_is_whole : Stmt := topS 20
abbrev N_is_whole : List Str := ["value"]
theorem sc_is_whole : FnScope N_is_whole ["value"] (defScope s_is_whole) := ⟨rfl, rfl, rfl, by decide +kernel, rfl, by decide +kernel, by decide +kernel⟩
def spWhole (K : PySem.W.Frag) : Sp := fun vs H Q _ => ∃ v T, vs = [v] ∧ TyB K H v T ∧ Q (.bl (decide (T = "int"))) H
theorem ok_is_whole (T : Gs K mg) (F : At K mg "is_whole" s_is_whole) : Df P w K mg base "is_whole" 1 ["value"] (spWhole K) := by
  have sc := sc_is_whole
  refine Df.mk' F sc (fun vs H Q E h => ?_) (fun _ _ _ _ _ _ us hl => match us, hl with | [_], _ => rfl) (fun f cdv A outer s H vs Q E hr h => ?_)
  · obtain ⟨v, T, rfl, _⟩ := h
    rfl
  · obtain ⟨v, Ty, rfl, ty, q⟩ := h
    refine ⟨_, (pss_one (ps_ret (pe_cmpR op_isTyB (pe_callTy call_type1 (by rfl) T.type_ (by decide +kernel) (pa_cons (pv 0) pa_nil)) (pe_bltn (v := .ty "int") (by rfl) T.int_ (by decide +kernel) rfl) (nomark _)))), ?_⟩
    exact ⟨_, rfl, _, _, rfl, ty, _, _, rfl, rfl, q⟩
abbrev s_is_tuple_of : Stmt := topS 21
abbrev N_is_tuple_of : List Str := ["value", "size"]
theorem sc_is_tuple_of : FnScope N_is_tuple_of ["value", "size"] (defScope s_is_tuple_of) := ⟨rfl, rfl, rfl, by decide +kernel, rfl, by decide +kernel, by decide +kernel⟩
def spTupOf (K : PySem.W.Frag) : Sp := fun vs H Q _ => ∃ (a : Addr) (xs : List V) (n : Int), vs = [.ref a, .int n] ∧ SqT K H a xs ∧ Q (.bl (decide ((xs.length : Int) = n))) H
theorem ok_is_tuple_of (T : Gs K mg) (F : At K mg "is_tuple_of" s_is_tuple_of) : Df P w K mg base "is_tuple_of" 1 ["value", "size"] (spTupOf K) := by
  have sc := sc_is_tuple_of
  refine Df.mk' F sc (fun vs H Q E h => ?_) (fun _ _ _ _ _ _ us hl => match us, hl with | [_, _], _ => rfl) (fun f cdv A outer s H vs Q E hr h => ?_)
  · obtain ⟨a, xs, n, rfl, _⟩ := h
    rfl
  · obtain ⟨a, xs, n, rfl, ha, q⟩ := h
    refine ⟨_, (pss_one (ps_ret (pe_and (pe_cmpR op_isTyB (pe_callTy call_type1 (by rfl) T.type_ (by decide +kernel) (pa_cons (pv 0) pa_nil)) (pe_bltn (v := .ty "tuple") (by rfl) T.tuple_ (by decide +kernel) rfl) (nomark _)) (pe_one (pe_cmpR op_eq (pe_callB call_len_seq (by rfl) T.len PySem.boot_len (pa_cons (pv 0) pa_nil)) (pv 1) (nomark _)))))), ?_⟩
    refine ⟨_, rfl, _, _, rfl, .tup ha, _, _, rfl, rfl, _, rfl, ifT (by decide) ?_⟩
    refine ⟨_, rfl, _, _, rfl, .inr ha, _, rfl, rfl, ?_⟩
    have ee : decide (V.int (xs.length : Int) = V.int n) = decide ((xs.length : Int) = n) := by simp
    rw [← ee] at q
    exact q
abbrev s_is_fraction : Stmt := topS 22
abbrev N_is_fraction : List Str := ["value", "number", "under"]
theorem sc_is_fraction : FnScope N_is_fraction ["value"] (defScope s_is_fraction) := ⟨rfl, rfl, rfl, by decide +kernel, rfl, by decide +kernel, by decide +kernel⟩
def spIsFr (K : PySem.W.Frag) : Sp := fun vs H Q _ => ∃ v x, vs = [v] ∧ DpT K H v (frd x) ∧ Q (.bl true) H
theorem ok_is_fraction (T : Gs K mg) (D_is_whole : Df P w K mg base "is_whole" 1 ["value"] (spWhole K)) (D_is_tuple_of : Df P w K mg base "is_tuple_of" 1 ["value", "size"] (spTupOf K)) (F : At K mg "is_fraction" s_is_fraction) :
    Df P w K mg base "is_fraction" 2 ["value"] (spIsFr K) := by
  have sc := sc_is_fraction
  refine Df.mk' F sc (fun vs H Q E h => ?_) (fun _ _ _ _ _ _ us hl => match us, hl with | [_], _ => rfl) (fun f cdv A outer s H vs Q E hr h => ?_)
  · obtain ⟨a, q, rfl, _⟩ := h
    rfl
  · obtain ⟨v, x, rfl, hx, q⟩ := h
    obtain ⟨p, rfl, hp⟩ := fqT hx
    refine ⟨_, (pss_cons (ps_if (pt_not (pt_val (pe_fn D_is_tuple_of (by decide) hr (pa_cons (pv 0) (pa_cons pe_int pa_nil))))) (pss_one (ps_ret pe_bl)) pss_nil) (pss_cons (ps_asg (pv 0) (pg_tup rfl (pgs_cons (pg_name (i := 1) sc.nd rfl (.inl rfl)) (pgs_cons (pg_name (i := 2) sc.nd rfl (.inl rfl)) pgs_nil)))) (pss_one (ps_ret (pe_and (pe_fn D_is_whole (by decide) hr (pa_cons (pv 1) pa_nil)) (pe_and (pe_fn D_is_whole (by decide) hr (pa_cons (pv 2) pa_nil)) (pe_and (pe_cmpR op_gt (pv 2) pe_int (nomark _)) (pe_one (pe_cmpR op_eq (pe_callBfun cr_gcd (by rfl) T.gcd (pa_cons (pv 1) (pa_cons (pv 2) pa_nil))) pe_int (nomark _)))))))))), ?_⟩
    refine ⟨_, rfl, _, _, _, rfl, hp, _, rfl, ifF rfl ?_⟩
    refine ⟨_, rfl, _, _, rfl, hp, rfl, _, _, rfl, _, _, rfl, rfl, ?_⟩
    refine ⟨_, rfl, _, _, rfl, .int _, _, rfl, ifT (by decide) ?_⟩
    refine ⟨_, rfl, _, _, rfl, .int _, _, rfl, ifT (by decide) ?_⟩
    refine ⟨_, rfl, _, _, rfl, rfl, _, rfl, ifT (decide_eq_true (rden_pos x)) ?_⟩
    (refine ⟨_, rfl, _, rfl, _, _, rfl, rfl, ?_⟩)
    have e : (Nat.gcd x.num.natAbs (x.den : Int).natAbs : Nat) = 1 := by
      rw [Int.natAbs_natCast]
      exact x.reduced
    rw [e]
    exact q
abbrev s_check_roots_of : Stmt := topS 29
abbrev N_check_roots_of : List Str := ["roots", "least", "most", "index", "root"]
theorem sc_check_roots_of : FnScope N_check_roots_of ["roots", "least", "most"] (defScope s_check_roots_of) := ⟨rfl, rfl, rfl, by decide +kernel, rfl, by decide +kernel, by decide +kernel⟩
def spCheckRootsOf (K : PySem.W.Frag) : Sp := fun vs H Q _ => ∃ (v : V) (a b : Nat) (qs : List Rat), vs = [v, .int a, .int b] ∧ DpT K H v (rowQ qs) ∧ Rw qs.length qs ∧ a ≤ qs.length ∧ 1 ≤ qs.length ∧ qs.length ≤ b ∧ ∀ H', Same H H' → Q .non H'
theorem ok_check_roots_of (T : Gs K mg) (D_is_fraction : Df P w K mg base "is_fraction" 2 ["value"] (spIsFr K)) (D_is_above : Df P w K mg base "is_above" 1 ["one", "other"] (spR2b K fun x y => decide (y < x))) (F : At K mg "check_roots_of" s_check_roots_of) :
    Df P w K mg base "check_roots_of" 3 ["roots", "least", "most"] (spCheckRootsOf K) := by
  have sc := sc_check_roots_of
  refine Df.mk' F sc (fun vs H Q E h => ?_) (fun _ _ _ _ _ _ us hl => match us, hl with | [_, _, _], _ => rfl) (fun f cdv A outer s H vs Q E hr h => ?_)
  · obtain ⟨v, a, b, qs, rfl, _⟩ := h
    rfl
  · obtain ⟨v, a, b, qs, rfl, hx, rw_, la, l1, lb, q⟩ := h
    obtain ⟨p, xs, rfl, hp, ha⟩ := dtTupQ hx
    have hl : xs.length = qs.length := by rw [dtAll_len ha, List.length_map]
    refine ⟨_, (pss_cons (ps_if (PW.pt (pw_or (pt_cmpR op_notTyB (pe_callTy call_type1 (by rfl) T.type_ (by decide +kernel) (pa_cons (pv 0) pa_nil)) (pe_bltn (v := .ty "tuple") (by rfl) T.tuple_ (by decide +kernel) rfl) (nomark _)) (pw_or1 (pt_not (pt_chain op_le op_le (pe_callB (call_max2 rfl) (by rfl) T.max (by decide +kernel) (pa_cons pe_int (pa_cons (pv 1) pa_nil))) (pe_callB call_len_seq (by rfl) T.len PySem.boot_len (pa_cons (pv 0) pa_nil)) (pv 2)))))) (pss_one ps_never) pss_nil) (pss_one (ps_for PassesOwn.never rfl (pi_enumT (by rfl) T.enumerate (pa_cons (pv 0) pa_nil)) (pg_tup rfl (pgs_cons (pg_name (i := 3) sc.nd rfl (.inl rfl)) (pgs_cons (pg_name (i := 4) sc.nd rfl (.inl rfl)) pgs_nil))) (pss_one (ps_if (PW.pt (pw_or (pt_not (pt_val (pe_fn D_is_fraction (by decide) hr (pa_cons (pv 4) pa_nil)))) (pw_or1 (PW.pt (pw_and (pt_cmpR op_gt (pv 3) pe_int (nomark _)) (pw_and1 (pt_val (pe_fn D_is_above (by decide) hr (pa_cons (pv 4) (pa_cons (pe_ix ix_tup (pv 0) (pe_op op_sub (pv 3) pe_int) (fun _ _ => rfl)) pa_nil)))))))))) (pss_one ps_never) pss_nil))))), ?_⟩
    refine ⟨_, rfl, _, _, rfl, .tup hp, _, _, rfl, rfl, _, rfl, ifF (by decide) ?_⟩
    refine ⟨_, rfl, _, _, rfl, ?_⟩
    have em : (if (a : Int) > 1 then (a : Int) else 1) ≤ (xs.length : Int) := by split <;> omega
    refine ⟨_, rfl, _, _, rfl, .inr hp, _, _, rfl, rfl, _, rfl, ifT (decide_eq_true em) ?_⟩
    refine ⟨_, rfl, _, _, rfl, rfl, _, rfl, ifF (by rw [hl]; simp; omega) ?_⟩
    refine ⟨_, rfl, p, xs, rfl, hp, for_enumT (K := K) (a := p) (xs := xs) (fun i σ H' => (∃ y z, σ = [some (.ref p), some (.int a), some (.int b), y, z]) ∧ Same H H') ⟨⟨none, none, rfl⟩, Same.refl _⟩ (fun i σ H' _ h => sameT h.2 hp) ?_ ?_⟩
    · rintro i x T' σ H' hi ⟨⟨y, z, rfl⟩, sm⟩ hT
      obtain ⟨qq, hq, hdp⟩ := fqGetV ha hi
      have hil := (List.getElem?_eq_some_iff.mp hq).1
      have sm2 : Same H (upd H' T' (.tup [.int (i : Nat), x])) := sm.trans (same_upd hT)
      refine ⟨T', _, rfl, SqT.of upd_same, rfl, _, _, rfl, _, _, rfl, rfl, ?_⟩
      refine ⟨_, rfl, _, qq, rfl, fqSame hdp sm2, _, rfl, ifF rfl ?_⟩
      refine ⟨_, rfl, _, _, rfl, rfl, _, rfl, if2 (fun e => ?_) (fun e => ?_)⟩
      · have e0 : 0 < i := by
          have := of_decide_eq_true e
          omega
        obtain ⟨j, rfl⟩ : ∃ j, i = j + 1 := ⟨i - 1, by omega⟩
        obtain ⟨v', hv', dv'⟩ := gqDt (i := j) ha (by omega)
        refine ⟨_, rfl, _, rfl, _, rfl, _, _, rfl, rfl, _, _, _, _, rfl, rfl, sameT sm2 hp, at_of (j := j) (by omega) hv', ?_⟩
        refine ⟨_, _, qq, gq qs j, rfl, fqSame hdp sm2, fqSame dv' sm2, (rw_.bq _ (List.mem_of_getElem? hq)).mono (by decide), (rw_.bq _ (gq_mem (by omega))).mono (by decide), _, rfl, ifF ?_ ?_⟩
        · have := rw_.srt.le (i := j) (j := j + 1) (by omega) hil
          rw [gq_of hq] at this
          exact decide_eq_false (Rat.not_lt.mpr this)
        · exact ⟨⟨_, _, rfl⟩, sm2⟩
      · exact iteF ⟨⟨_, _, rfl⟩, sm2⟩
    · rintro σ H' ⟨_, sm⟩
      exact q H' sm
abbrev s_check_roots : Stmt := topS 28
abbrev N_check_roots : List Str := ["roots"]
theorem sc_check_roots : FnScope N_check_roots ["roots"] (defScope s_check_roots) := ⟨rfl, rfl, rfl, by decide +kernel, rfl, by decide +kernel, by decide +kernel⟩
def spCheckRoots (K : PySem.W.Frag) : Sp := fun vs H Q _ => ∃ (v : V) (qs : List Rat), vs = [v] ∧ DpT K H v (rowQ qs) ∧ Rw qs.length qs ∧ 1 ≤ qs.length ∧ qs.length ≤ 6 ∧ ∀ H', Same H H' → Q .non H'
theorem ok_check_roots (T : Gs K mg) (D_check_roots_of : Df P w K mg base "check_roots_of" 3 ["roots", "least", "most"] (spCheckRootsOf K)) (F : At K mg "check_roots" s_check_roots) : Df P w K mg base "check_roots" 4 ["roots"] (spCheckRoots K) := by
  have sc := sc_check_roots
  obtain ⟨tk, hM⟩ := T.MOST
  refine Df.mk' F sc (fun vs H Q E h => ?_) (fun _ _ _ _ _ _ us hl => match us, hl with | [_], _ => rfl) (fun f cdv A outer s H vs Q E hr h => ?_)
  · obtain ⟨v, qs, rfl, _⟩ := h
    rfl
  · obtain ⟨v, qs, rfl, hx, rw_, l1, l6, q⟩ := h
    refine ⟨_, (pss_one (ps_expr (pe_fn D_check_roots_of (by decide) hr (pa_cons (pv 0) (pa_cons pe_int (pa_cons (pe_glob (v := .int 6) (by rfl) hM ⟨_, rfl⟩) pa_nil)))))), ?_⟩
    exact ⟨_, rfl, _, 1, 6, qs, rfl, hx, rw_, l1, l1, l6, q⟩
abbrev s_check_one_fewer : Stmt := topS 39
abbrev N_check_one_fewer : List Str := ["roots", "others"]
theorem sc_check_one_fewer : FnScope N_check_one_fewer ["roots", "others"] (defScope s_check_one_fewer) := ⟨rfl, rfl, rfl, by decide +kernel, rfl, by decide +kernel, by decide +kernel⟩
def spOneFew (K : PySem.W.Frag) : Sp := fun vs H Q _ => ∃ (v w : V) (tops lows : List Rat), vs = [v, w] ∧ DpT K H v (rowQ tops) ∧ DpT K H w (rowQ lows) ∧ Rw tops.length tops ∧ Rw lows.length lows ∧ tops.length = lows.length + 1 ∧ 1 ≤ lows.length ∧ tops.length ≤ 6 ∧ ∀ H', Same H H' → Q .non H'
theorem ok_check_one_fewer (T : Gs K mg) (D_check_roots : Df P w K mg base "check_roots" 4 ["roots"] (spCheckRoots K)) (D_check_roots_of : Df P w K mg base "check_roots_of" 3 ["roots", "least", "most"] (spCheckRootsOf K)) (F : At K mg "check_one_fewer" s_check_one_fewer) : Df P w K mg base "check_one_fewer" 5 ["roots", "others"] (spOneFew K) := by
  have sc := sc_check_one_fewer
  refine Df.mk' F sc (fun vs H Q E h => ?_) (fun _ _ _ _ _ _ us hl => match us, hl with | [_, _], _ => rfl) (fun f cdv A outer s H vs Q E hr h => ?_)
  · obtain ⟨v, w, t, l, rfl, _⟩ := h
    rfl
  · obtain ⟨v, w', tops, lows, rfl, dt, dl, rt, rl, e, l1, l6, q⟩ := h
    refine ⟨_, (pss_cons (ps_expr (pe_fn D_check_roots (by decide) hr (pa_cons (pv 0) pa_nil))) (pss_one (ps_expr (pe_fn D_check_roots_of (by decide) hr (pa_cons (pv 1) (pa_cons (pe_op op_sub (pe_callB call_len_seq (by rfl) T.len PySem.boot_len (pa_cons (pv 0) pa_nil)) pe_int) (pa_cons (pe_op op_sub (pe_callB call_len_seq (by rfl) T.len PySem.boot_len (pa_cons (pv 0) pa_nil)) pe_int) pa_nil))))))), ?_⟩
    refine ⟨_, rfl, v, tops, rfl, dt, rt, by omega, by omega, fun H1 s1 => ?_⟩
    obtain ⟨pt, zs, rfl, hp, hz⟩ := dtTupQ (DpT.keep (Same.kt s1) dt)
    have lz : zs.length = tops.length := by rw [dtAll_len hz, List.length_map]
    refine ⟨_, rfl, _, rfl, _, _, rfl, .inr hp, _, _, rfl, rfl, _, rfl, _, _, rfl, .inr hp, _, _, rfl, rfl, ?_⟩
    have e3 : ((zs.length : Int) - 1) = (lows.length : Int) := by omega
    refine ⟨_, lows.length, lows.length, lows, by show [w', V.int _, V.int _] = _; rw [e3], DpT.keep (Same.kt s1) dl, rl, by omega, by omega, by omega, fun H2 s2 => ?_⟩
    exact q H2 (s1.trans s2)
abbrev s_side_of : Stmt := topS 34
abbrev N_side_of : List Str := ["number"]
theorem sc_side_of : FnScope N_side_of ["number"] (defScope s_side_of) := ⟨rfl, rfl, rfl, by decide +kernel, rfl, by decide +kernel, by decide +kernel⟩
def sideZ (n : Int) : Int := if 0 < n then 0 else if n < 0 then 2 else 1
def spSide : Sp := fun vs H Q _ => ∃ n : Int, vs = [.int n] ∧ Q (.int (sideZ n)) H
theorem ok_side_of (T : Gs K mg) (F : At K mg "side_of" s_side_of) : Df P w K mg base "side_of" 1 ["number"] spSide := by
  have sc := sc_side_of
  obtain ⟨t0, g0⟩ := T.ABOVE
  obtain ⟨t1, g1⟩ := T.AT
  obtain ⟨t2, g2⟩ := T.BELOW
  refine Df.mk' F sc (fun vs H Q E h => ?_) (fun _ _ _ _ _ _ us hl => match us, hl with | [_], _ => rfl) (fun f cdv A outer s H vs Q E hr h => ?_)
  · obtain ⟨n, rfl, _⟩ := h
    rfl
  · obtain ⟨n, rfl, q⟩ := h
    refine ⟨_, (pss_cons (ps_if (pt_cmpR op_gt (pv 0) pe_int (nomark _)) (pss_one (ps_ret (pe_glob (v := .int 0) (by rfl) g0 ⟨_, rfl⟩))) pss_nil) (pss_cons (ps_if (pt_cmpR op_lt (pv 0) pe_int (nomark _)) (pss_one (ps_ret (pe_glob (v := .int 2) (by rfl) g2 ⟨_, rfl⟩))) pss_nil) (pss_one (ps_ret (pe_glob (v := .int 1) (by rfl) g1 ⟨_, rfl⟩))))), ?_⟩
    refine ⟨_, rfl, _, _, rfl, rfl, _, rfl, if2 (fun e => ?_) (fun e => ?_)⟩
    · have : sideZ n = 0 := if_pos (of_decide_eq_true e)
      rw [this] at q
      exact q
    · have e := of_decide_eq_false e
      refine ⟨_, rfl, _, _, rfl, rfl, _, rfl, if2 (fun e2 => ?_) (fun e2 => ?_)⟩
      · have : sideZ n = 2 := by
          unfold sideZ
          rw [if_neg (by omega), if_pos (of_decide_eq_true e2)]
        rw [this] at q
        exact q
      · have e2 := of_decide_eq_false e2
        have : sideZ n = 1 := by
          unfold sideZ
          rw [if_neg (by omega), if_neg e2]
        rw [this] at q
        exact q
abbrev s_product_beside : Stmt := topS 42
abbrev N_product_beside : List Str := ["numbers", "number", "found", "one"]
theorem sc_product_beside : FnScope N_product_beside ["numbers", "number"] (defScope s_product_beside) := ⟨rfl, rfl, rfl, by decide +kernel, rfl, by decide +kernel, by decide +kernel⟩
def prF (zs : List Rat) (x : Rat) : Rat := zs.foldl (fun f o => f * (o - x)) 1
theorem prF_eq (zs : List Rat) (x : Rat) : prF zs x = prB zs x := by
  have go : ∀ (l : List Rat) (f : Rat), l.foldl (fun f o => f * (o - x)) f = f * prB l x := fun l => by
    induction l with
    | nil =>
      intro f
      show f = f * 1
      grind
    | cons o r ih =>
      intro f
      show r.foldl (fun f o => f * (o - x)) (f * (o - x)) = f * ((o - x) * prB r x)
      rw [ih]
      grind
  unfold prF
  rw [go]
  grind
def spProd (K : PySem.W.Frag) : Sp := fun vs H Q _ => ∃ (p : Addr) (v : V) (us : List V) (zs : List Rat) (x : Rat), vs = [.ref p, v] ∧ H p = some (.lst us) ∧ DpTAll K H us (zs.map frd) ∧ zs.length ≤ 6 ∧ (∀ z ∈ zs, Bq 150 z) ∧ DpT K H v (frd x) ∧ Bq 150 x ∧
  ∀ H' v', Same H H' → DpT K H' v' (frd (prB zs x)) → Bq 1900 (prB zs x) → Q v' H'
theorem ok_product_beside (T : Gs K mg) (D_times : Df P w K mg base "times" 2 ["one", "other"] (spR2 K (· * ·) fun _ => True)) (D_minus : Df P w K mg base "minus" 2 ["one", "other"] (spR2 K (· - ·) fun _ => True)) (F : At K mg "product_beside" s_product_beside) : Df P w K mg base "product_beside" 3 ["numbers", "number"] (spProd K) := by
  have sc := sc_product_beside
  obtain ⟨pO, gO, hO⟩ := T.ONE
  refine Df.mk' F sc (fun vs H Q E h => ?_) (fun _ _ _ _ _ _ us hl => match us, hl with | [_, _], _ => rfl) (fun f cdv A outer s H vs Q E hr h => ?_)
  · obtain ⟨p, v, us, zs, x, rfl, _⟩ := h
    rfl
  · obtain ⟨p, v, us, zs, x, rfl, hp, hd, l6, bz, dx, bx, q⟩ := h
    refine ⟨_, (pss_cons (ps_set (i := 2) sc.nd rfl (.inl rfl) (pe_glob (v := .ref pO) (by rfl) gO rfl)) (pss_cons (ps_for PassesOwn.never rfl (pi_list (pv 0)) (pg_name (i := 3) sc.nd rfl (.inl rfl)) (pss_one (ps_set (i := 2) sc.nd rfl (.inl rfl) (pe_fn D_times (by decide) hr (pa_cons (pv 2) (pa_cons (pe_fn D_minus (by decide) hr (pa_cons (pv 3) (pa_cons (pv 1) pa_nil))) pa_nil)))))) (pss_one (ps_ret (pv 2))))), ?_⟩
    have lu : us.length = zs.length := fqLen hd
    have one : ∀ H', DpT K H' (.ref pO) (frd (prF (zs.take 0) x)) := fun H' => .tup (hO H') (.cons (.int _) (.cons (.int _) .nil))
    refine ⟨_, rfl, p, rfl, ⟨_, SqL.of hp⟩, for_list (K := K) (a := p) (xs := us) (fun i σ H' => ∃ (vf : V) (y : Option V), σ = [some (.ref p), some v, some vf, y] ∧ Same H H' ∧ DpT K H' vf (frd (prF (zs.take i) x)) ∧ Bq (1 + 301 * i) (prF (zs.take i) x))
      ⟨_, _, rfl, Same.refl _, one _, Bq.mono (x := 1) (a := 1) ⟨by decide +kernel, by decide +kernel⟩ (by omega)⟩ (fun i σ H' _ ⟨_, _, _, sm, _⟩ => SqL.of (sm _ _ hp)) ?_ ?_⟩
    · rintro i y σ H1 hi ⟨vf, yy, rfl, sm, df, bf⟩
      obtain ⟨z, hz, dz⟩ := fqGetV hd hi
      have mz := List.mem_of_getElem? hz
      have il : i < zs.length := (List.getElem?_eq_some_iff.mp hz).1
      refine ⟨_, rfl, _, rfl, _, rfl, _, _, z, x, rfl, fqSame dz sm, fqSame dx sm, (bz z mz).mono (by decide), bx.mono (by decide), .intro, fun H2 p2 s2 h2 => ?_⟩
      have bm : Bq 301 (z - x) := (bz z mz).sub bx (by decide)
      refine ⟨_, _, _, _, rfl, fqSame df s2, fqO h2, bf.mono (by omega), bm.mono (by decide), .intro, fun H3 p3 s3 h3 => ?_⟩
      have e : prF (zs.take i) x * (z - x) = prF (zs.take (i + 1)) x := by
        unfold prF
        rw [take_more hz, List.foldl_append]
        rfl
      have hb : Bq (1 + 301 * (i + 1)) (prF (zs.take i) x * (z - x)) := bf.mul bm (by omega)
      have d3 := fqO (K := K) h3
      dsimp only at d3
      rw [e] at d3 hb
      exact ⟨_, _, rfl, sm.trans (s2.trans s3), d3, hb⟩
    · rintro σ H1 ⟨vf, yy, rfl, sm, df, bf⟩
      have e : zs.take us.length = zs := by rw [lu, List.take_length]
      rw [e, prF_eq] at df bf
      exact ⟨_, rfl, q H1 _ sm df (bf.mono (by omega))⟩
end
end V3
/-! xs.remove(x), x equal to one of the things of the list. -/
namespace V3
open PySem.Spec PySem L2 PyProof.Rows RZ GxR
section
variable {X : Cx}
def rRemD (K : PySem.W.Frag) : V → List V → Hp → VK → Prop := fun x xs H Q => ∃ (l : Addr) (ys : List V) (y : V) (d : PyData) (ds : List PyData) (j : Nat) (z : PyData), x = V.ref l ∧ xs = [y] ∧ H l = some (.lst ys) ∧ DpAll K H ys ds ∧ Dp K H y d ∧
  SeqAt.shaped (.list ds) = true ∧ SeqAt.shaped d = true ∧ ds[j]? = some z ∧ PyData.eqv z d = true ∧ (∀ (m : Nat) (z' : PyData), m < j → ds[m]? = some z' → PyData.eqv z' d = false) ∧ Q .non (upd H l (.lst (ys.eraseIdx j)))
theorem mt_removeD (hu : X.A.units + 65 < cLine) : MtM X "list.remove" (rRemD X.K) := by
  (intro pins s σ H x xs v us Q I rx rxs h)
  obtain ⟨l, ys, y, d, ds, j, z, rfl, rfl, hH, ha, hy, sl, sd, hz, hzj, hno, q⟩ := h
  cases rx
  obtain ⟨uy, rfl, ry⟩ := rxs.one
  (obtain ⟨bs, r1⟩ := Dp.reads I d y uy hy ry)
  (have hxs : PyData.canLayAll0 ds = true := SeqAt.canLay_of_shaped sl)
  (have hroom : X.A.units + 1 + min (PyData.depthAll ds) d.depth < cLine := room_in_shaped sd hu)
  obtain ⟨zl, its, n, rv, hl, eo⟩ := I.lstM hH
  (obtain ⟨as, h4⟩ := Dp.readsAll I ds _ its ha rv)
  (have hn : its.length = ds.length := SeqAt.ReadsAll.length ds its as h4)
  (have hmap : its.map (SeqAt.readOf s.heap) = ds := SeqAt.readsAll_map ds its as hxs h4)
  have hvl := rv.length
  (obtain ⟨hjd, _⟩ := List.getElem?_eq_some_iff.mp hz)
  have hj : j < its.toArray.size := by
    rw [List.size_toArray]
    omega
  have at_ : ∀ (m : Nat) (lm : m < its.toArray.size) (z2 : PyData), ds[m]? = some z2 → SeqAt.readOf s.heap its.toArray[m] = z2 := by
    intro m hm z2 hq'
    (have hml : m < its.length := by simpa using hm)
    rw [← hmap, List.getElem?_map, List.getElem?_eq_getElem hml] at hq'
    have e1 := Option.some.inj hq'
    simpa using e1
  refine call_meets PySem.F.slot_list_remove ⟨_, eo, rfl⟩ PySem.F.entry_list_remove (PySem.F.args_list_remove_2 _ _)
    (SeqAt.list_removeAt l its.toArray n none #[] uy (fun u => PyData.eqv (SeqAt.readOf s.heap u) d) j hj ?_ ?_ (by rw [List.size_toArray]; omega)) ⟨eo, SeqAt.items_eqAt (vs := its.toArray) (show ReadsAll s.heap its.toArray.toList ds as from h4) r1 hxs (SeqAt.canLay_of_shaped sd) hroom, ?_⟩
  · (show PyData.eqv (SeqAt.readOf s.heap its.toArray[j]) d = true)
    rw [at_ j hj z hz]
    exact hzj
  · intro m hm hmj
    have hmk : m < ds.length := by omega
    have hq' : ds[m]? = some ds[m] := List.getElem?_eq_getElem hmk
    (show PyData.eqv (SeqAt.readOf s.heap its.toArray[m]) d = false)
    rw [at_ m hm _ hq']
    exact hno m _ hmj hq'
  · have rr := rv.eraseIdx j
    refine ⟨.non, _, I.lset (its' := its.eraseIdx j) (t' := s.toks) hH eo ?_ rr ?_, rfl, q⟩
    · (show its.toArray.eraseIdxIfInBounds j = (its.eraseIdx j).toArray)
      (rw [List.eraseIdxIfInBounds_toArray])
    · exact Nat.le_trans (List.length_eraseIdx_le ..) zl
end
end V3
set_option maxHeartbeats 4100000
/-! What is taken away is there. -/
namespace V3
theorem lf_mem : ∀ (as bs A U : List Rat) (pv : Option Rat), Rsd as bs pv → A.Pairwise (fun x y => y ≤ x) → (∀ p, pv = some p → ∀ x ∈ A, p ≤ x) → (∀ p, pv = some p → p ∈ U ∧ ∀ x ∈ U, p ≤ x) → (pv = none → U = [] ∧ A = []) →
    ∀ (i : Nat) (o : Rat), bs[i]? = some o → o ∈ ((bs.take i).foldl lfStep (A ++ as, U)).2 → o ∈ ((bs.take i).foldl lfStep (A ++ as, U)).1
  | [], [], _, _, _, _, _, _, _, _, i, o, e, _ => by simp at e
  | [], _ :: _, _, _, _, h, _, _, _, _, _, _, _, _ => h.elim
  | _ :: _, [], _, _, _, h, _, _, _, _, _, _, _, _ => h.elim
  | a :: as, b :: bs, A, U, pv, h, pw, hA, hU, h0, 0, o, e, m => by
    have eo : b = o := Option.some.inj e
    subst eo
    have m : b ∈ U := m
    have pb : pv = some b := by
      cases pv with
      | none =>
        rw [(h0 rfl).1] at m
        cases m
      | some p =>
        have h1 := (hU p rfl).2 b m
        have h2 := Rat.le_trans h.1 (h.2.1 p rfl)
        rw [Rat.le_antisymm h1 h2]
    have ab : a = b := Rat.le_antisymm (h.2.1 b pb) h.1
    show b ∈ A ++ a :: as
    rw [ab]
    exact List.mem_append_right _ List.mem_cons_self
  | a :: as, b :: bs, A, U, pv, h, pw, hA, hU, h0, i + 1, o, e, m => by
    have e : bs[i]? = some o := e
    have m : o ∈ ((bs.take i).foldl lfStep (lfStep (A ++ a :: as, U) b)).2 := m
    show o ∈ ((bs.take i).foldl lfStep (lfStep (A ++ a :: as, U) b)).1
    by_cases ep : pv = some b
    · have ab : a = b := Rat.le_antisymm (h.2.1 b ep) h.1
      have hb := hU b ep
      have st : lfStep (A ++ a :: as, U) b = (A ++ as, U) := by
        unfold lfStep
        rw [if_pos hb.1]
        show ((A ++ a :: as).erase b, U) = _
        rw [ab, erase_end pw fun x hx => hA b ep x hx]
      rw [st] at m ⊢
      exact lf_mem as bs A U (some b) h.2.2 pw (fun p hp x hx => by cases hp; exact hA b ep x hx) (fun p hp => by cases hp; exact hb) (fun z => by cases z) i o e m
    · have nb : b ∉ U := fun m => by
        cases pv with
        | none =>
          rw [(h0 rfl).1] at m
          cases m
        | some p =>
          have h1 := (hU p rfl).2 b m
          have h2 := Rat.le_trans h.1 (h.2.1 p rfl)
          exact ep (by rw [Rat.le_antisymm h1 h2])
      have st : lfStep (A ++ a :: as, U) b = ((A ++ [a]) ++ as, U ++ [b]) := by
        unfold lfStep
        rw [if_neg nb]
        simp
      have ba : ∀ x ∈ A, a ≤ x := fun x hx => by
        cases pv with
        | none =>
          rw [(h0 rfl).2] at hx
          cases hx
        | some p => exact Rat.le_trans (h.2.1 p rfl) (hA p rfl x hx)
      rw [st] at m ⊢
      refine lf_mem as bs (A ++ [a]) (U ++ [b]) (some b) h.2.2 (List.pairwise_append.mpr ⟨pw, List.pairwise_singleton _ _, fun x hx y hy => by rw [List.mem_singleton.mp hy]; exact ba x hx⟩) (fun p hp x hx => ?_) (fun p hp => ?_) (fun z => by cases z) i o e m
      · cases hp
        rcases List.mem_append.mp hx with z | z
        · exact Rat.le_trans h.1 (ba x z)
        · (rw [List.mem_singleton.mp z])
          exact h.1
      · cases hp
        refine ⟨List.mem_append_right _ List.mem_cons_self, fun x hx => ?_⟩
        rcases List.mem_append.mp hx with z | z
        · cases pv with
          | none =>
            rw [(h0 rfl).1] at z
            cases z
          | some p => exact Rat.le_trans (Rat.le_trans h.1 (h.2.1 p rfl)) ((hU p rfl).2 x z)
        · (rw [List.mem_singleton.mp z])
          exact Rat.le_refl
/-- while left_of walks: what it takes away is there -/
theorem lf_there {tops lows : List Rat} (h : Rsd tops lows none) {i : Nat} {o : Rat} (e : lows[i]? = some o) (m : o ∈ ((lows.take i).foldl lfStep (tops, [])).2) : o ∈ ((lows.take i).foldl lfStep (tops, [])).1 := by
  have := lf_mem tops lows [] [] none h List.Pairwise.nil (fun p hp => by cases hp) (fun p hp => by cases hp) (fun _ => ⟨rfl, rfl⟩) i o e
  simp only [List.nil_append] at this
  exact this m
end V3
/-! Raised rows, counts and ties place by place, as the program looks at them. -/
namespace V3
def rsB (tops lows : List Rat) : Bool := (List.range lows.length).all (fun i => decide (gq lows i ≤ gq tops i)) && (List.range (lows.length - 1)).all (fun i => decide (gq tops (i + 1) ≤ gq lows i))
theorem rsd_iff : ∀ (tops lows : List Rat) (pv : Option Rat), tops.length = lows.length → (Rsd tops lows pv ↔ (∀ i, i < lows.length → gq lows i ≤ gq tops i) ∧ (∀ p, pv = some p → 0 < lows.length → gq tops 0 ≤ p) ∧ ∀ i, i + 1 < lows.length → gq tops (i + 1) ≤ gq lows i)
  | [], [], _, _ => ⟨fun _ => ⟨fun i h => absurd h (by simp), fun p _ h => absurd h (by simp), fun i h => absurd h (by simp)⟩, fun _ => trivial⟩
  | [], _ :: _, _, hnil => by simp at hnil
  | _ :: _, [], _, hnil => by simp at hnil
  | a :: as, b :: bs, pv, h => by
    have k := rsd_iff as bs (some b) (by simpa using h)
    show (b ≤ a ∧ (∀ p, pv = some p → a ≤ p) ∧ Rsd as bs (some b)) ↔ _
    rw [k]
    constructor
    · rintro ⟨h1, h2, h3, h4, h5⟩
      refine ⟨fun i hi => ?_, fun p hp _ => h2 p hp, fun i hi => ?_⟩
      · cases i with
        | zero => exact h1
        | succ n => exact h3 n (by simpa using hi)
      · cases i with
        | zero => exact h4 b rfl (by simpa using hi)
        | succ n => exact h5 n (by simpa using hi)
    · rintro ⟨h1, h2, h3⟩
      refine ⟨h1 0 (by simp), fun p hp => h2 p hp (by simp), fun i hi => h1 (i + 1) (by simpa using hi), fun p hp hl => ?_, fun i hi => h3 (i + 1) (by simpa using hi)⟩
      cases hp
      exact h3 0 (by simpa using hl)
theorem rsB_iff {tops lows : List Rat} (h : tops.length = lows.length) : rsB tops lows = true ↔ Rsd tops lows none := by
  rw [rsd_iff tops lows none h]
  unfold rsB
  (rw [Bool.and_eq_true, List.all_eq_true, List.all_eq_true])
  constructor
  · rintro ⟨h1, h2⟩
    exact ⟨fun i hi => of_decide_eq_true (h1 i (List.mem_range.mpr hi)), fun p hp => (by cases hp), fun i hi => of_decide_eq_true (h2 i (List.mem_range.mpr (by omega)))⟩
  · rintro ⟨h1, _, h3⟩
    exact ⟨fun i hi => decide_eq_true (h1 i (List.mem_range.mp hi)), fun i hi => decide_eq_true (h3 i (by have := List.mem_range.mp hi; omega))⟩
theorem cnt_range (g : Rat → Bool) (f : List Rat → Int) (h0 : f [] = 0) (hs : ∀ x r, f (x :: r) = (if g x then 1 else 0) + f r) : ∀ qs : List Rat, (((List.range qs.length).filter (fun i => g (gq qs i))).map (fun _ => (1 : Int))).sum = f qs
  | [] => by rw [h0]; rfl
  | x :: r => by
    have k := cnt_range g f h0 hs r
    have e : ((List.range r.length).map Nat.succ).filter (fun i => g (gq (x :: r) i)) = ((List.range r.length).filter (fun i => g (gq r i))).map Nat.succ := by
      rw [List.filter_map]
      rfl
    rw [List.length_cons, List.range_succ_eq_map, List.filter_cons, e, hs]
    have e2 : gq (x :: r) 0 = x := rfl
    rw [e2]
    by_cases c : g x = true
    · rw [if_pos c, if_pos c, List.map_cons, List.sum_cons, List.map_map]
      rw [← k]
      rfl
    · rw [if_neg c, if_neg c, List.map_map, ← k, Int.zero_add]
      rfl
theorem cA_range (t : Rat) (qs : List Rat) : (((List.range qs.length).filter (fun i => decide (t < gq qs i))).map (fun _ => (1 : Int))).sum = cA t qs :=
  cnt_range (fun x => decide (t < x)) (cA t) rfl (fun x r => by
    show (if t < x then (1 : Int) else 0) + cA t r = _
    by_cases c : t < x <;> simp [c]) qs
theorem cB_range (t : Rat) (qs : List Rat) : (((List.range qs.length).filter (fun i => decide (gq qs i < t))).map (fun _ => (1 : Int))).sum = cB t qs :=
  cnt_range (fun x => decide (x < t)) (cB t) rfl (fun x r => by
    show (if x < t then (1 : Int) else 0) + cB t r = _
    by_cases c : x < t <;> simp [c]) qs
def tieB (t : Rat) (l s : List Rat) : Bool := (List.range l.length).any fun i => decide (gq l i = t) && decide (0 < gq s i)
theorem tieB_iff (t : Rat) : ∀ (l s : List Rat), l.length = s.length → (tieB t l s = true ↔ tieP t l s)
  | [], [], _ => ⟨fun h => (by cases h), fun h => h.elim⟩
  | [], _ :: _, hnil => by simp at hnil
  | _ :: _, [], hnil => by simp at hnil
  | b :: bs, c :: cs, h => by
    have k := tieB_iff t bs cs (by simpa using h)
    show _ ↔ (b = t ∧ 0 < c) ∨ tieP t bs cs
    rw [← k]
    unfold tieB
    rw [List.length_cons, List.range_succ_eq_map, List.any_cons, List.any_map, Bool.or_eq_true, Bool.and_eq_true, decide_eq_true_iff, decide_eq_true_iff]
    exact Iff.rfl
theorem qB_take (t : Rat) : ∀ (l s : List Rat) (i : Nat), i < l.length → i < s.length → qB t (l.take (i + 1)) (s.take (i + 1)) = qB t (l.take i) (s.take i) + (if gq l i ≠ t then gq s i / (gq l i - t) else 0)
  | [], _, _, hnil, _ => by simp at hnil
  | _ :: _, [], _, _, hnil => by simp at hnil
  | b :: bs, c :: cs, 0, _, _ => by
    show (if b ≠ t then c / (b - t) else 0) + qB t (bs.take 0) (cs.take 0) = qB t [] [] + (if b ≠ t then c / (b - t) else 0)
    show (if b ≠ t then c / (b - t) else 0) + 0 = 0 + _
    grind
  | b :: bs, c :: cs, i + 1, h1, h2 => by
    have k := qB_take t bs cs i (by simpa using h1) (by simpa using h2)
    show (if b ≠ t then c / (b - t) else 0) + qB t (bs.take (i + 1)) (cs.take (i + 1)) = ((if b ≠ t then c / (b - t) else 0) + qB t (bs.take i) (cs.take i)) + (if gq bs i ≠ t then gq cs i / (gq bs i - t) else 0)
    rw [k]
    grind
end V3
/-! Sizes: of fractions by number and divisor, of rows of fractions over one divisor. -/
namespace V3
structure B2 (a b : Nat) (x : Rat) : Prop where
  n : x.num.natAbs < 2 ^ a
  d : x.den < 2 ^ b
theorem b2_div {n u : Int} {a b : Nat} (h : 0 < u) (hn : n.natAbs < 2 ^ a) (hu : u.natAbs < 2 ^ b) : B2 a b (Rat.divInt n u) := by
  refine ⟨?_, ?_⟩
  · rw [dnum h]
    refine Nat.lt_of_le_of_lt ?_ hn
    rw [Int.natAbs_ediv_of_dvd (Int.gcd_dvd_left ..)]
    exact Nat.div_le_self _ _
  · have e := dden (n := n) h
    have l : u / (Int.gcd n u : Int) ≤ u := Int.ediv_le_self _ (by omega)
    omega
theorem B2.bq {a b c : Nat} {x : Rat} (h : B2 a b x) (h1 : a ≤ c) (h2 : b ≤ c) : Bq c x := ⟨Nat.lt_of_lt_of_le h.n (pw h1), Nat.lt_of_lt_of_le h.d (pw h2)⟩
theorem ltI {i : Int} {a b : Nat} (h : i.natAbs < 2 ^ a) (l : a ≤ b) : i.natAbs < 2 ^ b := Nat.lt_of_lt_of_le h (pw l)
theorem B2.add {a b c d m k : Nat} {x y : Rat} (hx : B2 a b x) (hy : B2 c d y) (h1 : a + d ≤ m) (h2 : c + b ≤ m) (h3 : b + d ≤ k) : B2 (m + 1) k (x + y) := by
  rw [radd]
  exact b2_div (Int.mul_pos (rden_pos x) (rden_pos y)) (add_lt_pw (ltI (mulI hx.n (natI hy.d)) h1) (ltI (mulI hy.n (natI hx.d)) h2)) (ltI (mulI (natI hx.d) (natI hy.d)) h3)
theorem B2.sub {a b c d m k : Nat} {x y : Rat} (hx : B2 a b x) (hy : B2 c d y) (h1 : a + d ≤ m) (h2 : c + b ≤ m) (h3 : b + d ≤ k) : B2 (m + 1) k (x - y) := by
  rw [rsub]
  exact b2_div (Int.mul_pos (rden_pos x) (rden_pos y)) (sub_lt_pw (ltI (mulI hx.n (natI hy.d)) h1) (ltI (mulI hy.n (natI hx.d)) h2)) (ltI (mulI (natI hx.d) (natI hy.d)) h3)
theorem B2.mul {a b c d : Nat} {x y : Rat} (hx : B2 a b x) (hy : B2 c d y) : B2 (a + c) (b + d) (x * y) := by
  rw [rmul]
  exact b2_div (Int.mul_pos (rden_pos x) (rden_pos y)) (mulI hx.n hy.n) (mulI (natI hx.d) (natI hy.d))
theorem neg_bq {a : Nat} {x : Rat} (h : Bq a x) : Bq a (-x) := ⟨by rw [Rat.neg_num, Int.natAbs_neg]; exact h.n, by rw [Rat.neg_den]; exact h.d⟩
theorem div_bq {a b : Nat} {x y : Rat} (hx : Bq a x) (hy : Bq b y) (p : y ≠ 0) : Bq (a + b) (x / y) := by
  by_cases q : 0 < y
  · exact hx.div hy q (Nat.le_refl _)
  · have e : x / y = (-x) / (-y) := by
      have e1 : -y ≠ 0 := by grind
      have h1 := Rat.div_mul_cancel (a := x) p
      have h2 := Rat.div_mul_cancel (a := -x) e1
      generalize x / y = u at h1 ⊢
      generalize (-x) / (-y) = v at h2 ⊢
      have : (u - v) * y = 0 := by grind
      rcases Rat.mul_eq_zero.mp this with z | z
      · grind
      · exact absurd z p
    rw [e]
    exact (neg_bq hx).div (neg_bq hy) (by grind) (Nat.le_refl _)
/-- a drawn number -/
def Nm (x : Rat) : Prop := B2 20 7 x
theorem Nm.bq {x : Rat} (h : Nm x) : Bq 20 x := B2.bq h (by decide) (by decide)
theorem B2.bm {a b c : Nat} {x : Rat} (h : B2 a b x) (l : max a b ≤ c) : Bq c x := h.bq (by omega) (by omega)
theorem nm_between {x y p : Rat} (hx : Nm x) (hy : Nm y) (hp : B2 2 3 p) : Bq 38 (y + p * (x - y)) :=
  B2.bq (B2.add hy (B2.mul hp (B2.sub (m := 27) (k := 14) hx hy (by decide) (by decide) (by decide))) (m := 37) (k := 24) (by decide) (by decide) (by decide)) (by decide) (by decide)
theorem prB_bq {a b : Nat} {x : Rat} (hx : Bq b x) : ∀ {l : List Rat}, (∀ z ∈ l, Bq a z) → Bq (l.length * (a + b + 1) + 1) (prB l x)
  | [], _ => by
    show Bq (0 * _ + 1) (1 : Rat)
    rw [Nat.zero_mul]
    exact ⟨by decide, by decide⟩
  | z :: r, h => by
    have k := prB_bq hx (l := r) fun z hz => h z (List.mem_cons_of_mem _ hz)
    have e : (r.length + 1) * (a + b + 1) = r.length * (a + b + 1) + (a + b + 1) := Nat.succ_mul _ _
    show Bq ((r.length + 1) * (a + b + 1) + 1) ((z - x) * prB r x)
    exact ((h z List.mem_cons_self).sub hx (c := a + b + 1) (Nat.le_refl _)).mul k (by omega)
/-- rows of fractions over one divisor -/
def Pol (B : Nat) (p : List Rat) : Prop := ∃ D : Nat, 0 < D ∧ D < 2 ^ B ∧ ∀ c ∈ p, ∃ z : Int, c = Rat.divInt z (D : Int) ∧ z.natAbs < 2 ^ B
theorem Pol.bq {B : Nat} {p : List Rat} (h : Pol B p) : ∀ c ∈ p, Bq B c := fun c hc => by
  obtain ⟨D, d0, dl, g⟩ := h
  obtain ⟨z, e, l⟩ := g c hc
  rw [e]
  exact bq_div (by omega) l (by rw [Int.natAbs_natCast]; exact dl)
theorem Pol.mono {B C : Nat} {p : List Rat} (h : Pol B p) (l : B ≤ C) : Pol C p := by
  obtain ⟨D, d0, dl, g⟩ := h
  exact ⟨D, d0, Nat.lt_of_lt_of_le dl (pw l), fun c hc => by
    obtain ⟨z, e, k⟩ := g c hc
    exact ⟨z, e, ltI k l⟩⟩
theorem pol_one : Pol 1 [1] := ⟨1, by decide, by decide, fun c hc => by
  rw [List.mem_singleton.mp hc]
  exact ⟨1, by decide +kernel, by decide⟩⟩
theorem subP_mem : ∀ {p q : List Rat} {c : Rat}, c ∈ subP p q → c ∈ p ∨ ∃ u ∈ p, ∃ v ∈ q, c = u - v
  | [], _, _, h => .inl h
  | _ :: _, [], _, h => .inl h
  | x :: xs, y :: ys, c, h => by
    have h : c ∈ (x - y) :: subP xs ys := h
    (rcases List.mem_cons.mp h with z | z)
    · exact .inr ⟨x, List.mem_cons_self, y, List.mem_cons_self, z⟩
    · rcases subP_mem z with k | ⟨u, hu, v, hv, k⟩
      · exact .inl (List.mem_cons_of_mem _ k)
      · exact .inr ⟨u, List.mem_cons_of_mem _ hu, v, List.mem_cons_of_mem _ hv, k⟩
theorem pol_less {B C a : Nat} {p q : List Rat} {x : Rat} (hp : Pol B p) (hq : Pol C q) (hx : Bq a x) : Pol (B + C + a + 1) (lessP p x q) := by
  obtain ⟨D, d0, dl, gp⟩ := hp
  obtain ⟨E, e0, el, gq'⟩ := hq
  have x0 := rden_pos x
  have ed : ((D * E * x.den : Nat) : Int) = (D : Int) * E * x.den := by rw [Int.natCast_mul, Int.natCast_mul]
  have xe : x = Rat.divInt x.num x.den := (Rat.num_divInt_den x).symm
  refine ⟨D * E * x.den, Nat.mul_pos (Nat.mul_pos d0 e0) x.den_pos, Nat.lt_of_lt_of_le (mul_lt_pw (mul_lt_pw dl el) hx.d) (pw (by omega)), fun c hc => ?_⟩
  rcases subP_mem hc with k | ⟨u, hu, v, hv, k⟩
  · obtain ⟨z, e, l⟩ := gp c k
    refine ⟨z * (E * x.den), ?_, ltI (mulI l (mulI (natI el) (natI hx.d))) (by omega)⟩
    rw [e, ed, Int.mul_assoc, Rat.divInt_mul_right (by
      intro h0
      rcases Int.mul_eq_zero.mp h0 with h0 | h0 <;> omega)]
  · obtain ⟨w, hw, rfl⟩ := List.mem_map.mp hv
    obtain ⟨z, e, l⟩ := gp u hu
    obtain ⟨z2, e2, l2⟩ := gq' w hw
    refine ⟨z * (E * x.den) - (x.num * z2) * D, ?_, sub_lt_pw (ltI (mulI l (mulI (natI el) (natI hx.d))) (by omega)) (ltI (mulI (mulI hx.n l2) (natI dl)) (by omega))⟩
    rw [k, e, e2, ed]
    generalize hE : (E : Int) = EI
    generalize hD : (D : Int) = DI
    have EI0 : EI ≠ 0 := by omega
    have DI0 : DI ≠ 0 := by omega
    have xd0 : (x.den : Int) ≠ 0 := by omega
    have m1 : x * Rat.divInt z2 EI = Rat.divInt (x.num * z2) (x.den * EI) := by
      conv => lhs; rw [xe]
      exact Rat.divInt_mul_divInt _ _
    rw [m1, Rat.divInt_sub_divInt _ _ DI0 (Int.mul_ne_zero xd0 EI0)]
    congr 1
    · grind
    · grind
theorem pol_gr {B a : Nat} {p : List Rat} {x : Rat} (hp : Pol B p) (hx : Bq a x) : Pol (B + a + 1) (grP p x) := by
  obtain ⟨D, d0, dl, gp⟩ := hp
  have x0 := rden_pos x
  have ed : ((D * x.den : Nat) : Int) = (D : Int) * x.den := by rw [Int.natCast_mul]
  have xe : x = Rat.divInt x.num x.den := (Rat.num_divInt_den x).symm
  have gz : ∀ c ∈ (0 :: p), ∃ z : Int, c = Rat.divInt z (D : Int) ∧ z.natAbs < 2 ^ B := fun c hc => by
    rcases List.mem_cons.mp hc with k | k
    · exact ⟨0, by rw [k, Rat.zero_divInt], Nat.two_pow_pos _⟩
    · exact gp c k
  refine ⟨D * x.den, Nat.mul_pos d0 x.den_pos, Nat.lt_of_lt_of_le (mul_lt_pw dl hx.d) (pw (by omega)), fun c hc => ?_⟩
  rcases subP_mem hc with k | ⟨u, hu, v, hv, k⟩
  · obtain ⟨z, e, l⟩ := gz c k
    refine ⟨z * x.den, ?_, ltI (mulI l (natI hx.d)) (by omega)⟩
    rw [e, ed, Rat.divInt_mul_right (by omega)]
  · obtain ⟨w, hw, rfl⟩ := List.mem_map.mp hv
    obtain ⟨z, e, l⟩ := gz u hu
    obtain ⟨z2, e2, l2⟩ := gp w hw
    refine ⟨z * x.den - x.num * z2, ?_, sub_lt_pw (ltI (mulI l (natI hx.d)) (Nat.le_refl _)) (ltI (mulI hx.n l2) (by omega))⟩
    rw [k, e, e2, ed]
    generalize hD : (D : Int) = DI
    have DI0 : DI ≠ 0 := by omega
    have xd0 : (x.den : Int) ≠ 0 := by omega
    have m1 : x * Rat.divInt z2 DI = Rat.divInt (x.num * z2) (x.den * DI) := by
      conv => lhs; rw [xe]
      exact Rat.divInt_mul_divInt _ _
    rw [m1, Rat.divInt_sub_divInt _ _ DI0 (Int.mul_ne_zero xd0 DI0)]
    have : Rat.divInt (z * (x.den * DI) - x.num * z2 * DI) (DI * (x.den * DI)) = Rat.divInt ((z * x.den - x.num * z2) * DI) ((DI * x.den) * DI) := by
      congr 1 <;> grind
    rw [this, Rat.divInt_mul_right DI0]
theorem pol_ofZ {a : Nat} : ∀ (zs : List Rat) {p : List Rat} {B : Nat}, Pol B p → (∀ z ∈ zs, Bq a z) → Pol (B + zs.length * (a + 1)) (zs.foldl grP p)
  | [], p, B, h, _ => by
    show Pol (B + 0 * (a + 1)) p
    rw [Nat.zero_mul]
    exact h
  | z :: r, p, B, h, hz => by
    have k := pol_ofZ (a := a) r (pol_gr h (hz z List.mem_cons_self)) fun y hy => hz y (List.mem_cons_of_mem _ hy)
    have e : (r.length + 1) * (a + 1) = r.length * (a + 1) + (a + 1) := Nat.succ_mul _ _
    show Pol (B + (r.length + 1) * (a + 1)) (r.foldl grP (grP p z))
    exact k.mono (by omega)
theorem pol_Z {a : Nat} {zs : List Rat} (h : ∀ z ∈ zs, Bq a z) : Pol (1 + zs.length * (a + 1)) (ofZ zs) := pol_ofZ zs pol_one h
theorem kp_mem : ∀ {as bs : List Rat} {pv : Option Rat}, ∀ x ∈ kpP as bs pv, x ∈ as
  | [], _, _, x, h => by
    unfold kpP at h
    cases h
  | _ :: _, [], _, x, h => by
    unfold kpP at h
    cases h
  | a :: as, b :: bs, pv, x, h => by
    have h : x ∈ (if pv = some b then kpP as bs (some b) else a :: kpP as bs (some b)) := h
    split at h
    · exact List.mem_cons_of_mem _ (kp_mem x h)
    · rcases List.mem_cons.mp h with z | z
      · rw [z]
        exact List.mem_cons_self
      · exact List.mem_cons_of_mem _ (kp_mem x z)
theorem un_len : ∀ (l : List Rat) (pv : Option Rat), (unP l pv).length ≤ l.length
  | [], _ => Nat.le_refl 0
  | b :: bs, pv => by
    have := un_len bs (some b)
    show (if pv = some b then unP bs (some b) else b :: unP bs (some b)).length ≤ bs.length + 1
    split
    · omega
    · rw [List.length_cons]
      omega
theorem told_mem {K U : List Rat} : ∀ {l : List Rat} {pv : Option Rat} {x : Rat}, x ∈ toldR K U l pv → x = 0 ∨ ∃ u ∈ unP l pv, x = sqP K U u
  | [], _, _, hnil => by cases hnil
  | b :: bs, pv, x, h => by
    have h : x ∈ (if pv = some b then 0 else sqP K U b) :: toldR K U bs (some b) := h
    show x = 0 ∨ ∃ u ∈ (if pv = some b then unP bs (some b) else b :: unP bs (some b)), x = sqP K U u
    (rcases List.mem_cons.mp h with z | z)
    · by_cases c : pv = some b
      · rw [if_pos c] at z
        exact .inl z
      · rw [if_neg c] at z
        rw [if_neg c]
        exact .inr ⟨b, List.mem_cons_self, z⟩
    · rcases told_mem z with k | ⟨u, hu, k⟩
      · exact .inl k
      · refine .inr ⟨u, ?_, k⟩
        split
        · exact hu
        · exact List.mem_cons_of_mem _ hu
abbrev tdC (tops lows : List Rat) : List Rat := toldR (kpP tops lows none) (unP lows none) lows none
/-- the squares, none below 0, and their size -/
theorem told_all {tops lows : List Rat} {a b n : Nat} (h : Rsd tops lows none) (bt : ∀ x ∈ tops, Bq a x) (bl : ∀ x ∈ lows, Bq b x) (hn : lows.length ≤ n) :
    ∀ x ∈ tdC tops lows, 0 ≤ x ∧ Bq (n * (a + b + 1) + 1 + ((n - 1) * (b + b + 1) + 1)) x := fun x hx => by
  have nd : (unP lows none).Nodup := steep_nodup (un_steep h.fall)
  have kl := kp_len h
  have ul := un_len lows none
  rcases told_mem hx with rfl | ⟨u, hu, rfl⟩
  · exact ⟨Rat.le_refl, ⟨Nat.two_pow_pos _, Nat.one_lt_two_pow (by omega)⟩⟩
  · refine ⟨sq_nn' (kp_rst h) hu, ?_⟩
    have hw := (wo_prod nd hu 0).2
    have bu := bl u (un_sub u hu)
    have h1 := prB_bq (x := u) bu (l := kpP tops lows none) fun z hz => bt z (kp_mem z hz)
    have h2 := prB_bq (x := u) bu (l := woP u (unP lows none)) fun z hz => bl z (un_sub z (List.mem_filter.mp hz).1)
    have n0 : prB (woP u (unP lows none)) u ≠ 0 := by
      rw [prB_sg]
      intro z
      rcases Rat.mul_eq_zero.mp z with z | z
      · have := sg_sq (woP u (unP lows none)).length
        rw [z] at this
        grind
      · exact prG_ne (wo_not u _) z
    have m1 : (kpP tops lows none).length * (a + b + 1) ≤ n * (a + b + 1) := Nat.mul_le_mul_right _ (by omega)
    have m2 : (woP u (unP lows none)).length * (b + b + 1) ≤ (n - 1) * (b + b + 1) := Nat.mul_le_mul_right _ (by omega)
    exact div_bq (h1.mono (show _ ≤ n * (a + b + 1) + 1 by omega)) (h2.mono (show _ ≤ (n - 1) * (b + b + 1) + 1 by omega)) n0
end V3
/-! A row less another one, place by place. -/
namespace V3
theorem subP_get : ∀ (p q : List Rat) (i : Nat), i < q.length → i < p.length → gq (subP p q) i = gq p i - gq q i
  | [], _, _, _, hnil => by simp at hnil
  | _ :: _, [], _, hnil, _ => by simp at hnil
  | x :: xs, y :: ys, 0, _, _ => rfl
  | x :: xs, y :: ys, i + 1, h, g => subP_get xs ys i (by simpa using h) (by simpa using g)
theorem subP_drop : ∀ (p q : List Rat), q.length ≤ p.length → (subP p q).drop q.length = p.drop q.length
  | [], [], _ => rfl
  | [], _ :: _, hnil => by simp at hnil
  | _ :: _, [], _ => rfl
  | x :: xs, y :: ys, h => subP_drop xs ys (by simpa using h)
/-- as it stands when so many places are done -/
def mixS (p q : List Rat) (i : Nat) : List Rat := (subP p q).take i ++ p.drop i
theorem mix_zero (p q : List Rat) : mixS p q 0 = p := rfl
theorem mix_len {p q : List Rat} {i : Nat} (h : i ≤ p.length) : (mixS p q i).length = p.length := by
  unfold mixS
  rw [List.length_append, List.length_take, List.length_drop, subP_len]
  omega
theorem mix_get {p q : List Rat} {i : Nat} (h : i < p.length) : gq (mixS p q i) i = gq p i := by
  have l : ((subP p q).take i).length = i := by
    rw [List.length_take, subP_len]
    omega
  unfold mixS gq
  rw [List.getD_eq_getElem?_getD, List.getD_eq_getElem?_getD, List.getElem?_append_right (by omega), l, Nat.sub_self, List.getElem?_drop, Nat.add_zero]
theorem mix_set {p q : List Rat} {i : Nat} (h : i < p.length) (g : i < q.length) : (mixS p q i).set i (gq p i - gq q i) = mixS p q (i + 1) := by
  have l : ((subP p q).take i).length = i := by
    rw [List.length_take, subP_len]
    omega
  have e : (subP p q)[i]? = some (gq p i - gq q i) := by
    rw [← subP_get p q i g h]
    exact gq_get (by rw [subP_len]; exact h)
  have d : p.drop i = gq p i :: p.drop (i + 1) := by
    (rw [List.drop_eq_getElem_cons h])
    congr 1
    exact (gq_of (List.getElem?_eq_getElem h)).symm
  unfold mixS
  rw [List.set_append_right _ _ (by omega), l, Nat.sub_self, d, List.set_cons_zero, List.take_succ, e]
  simp
theorem mix_end {p q : List Rat} (h : q.length ≤ p.length) : mixS p q q.length = subP p q := by
  unfold mixS
  rw [← subP_drop p q h, List.take_append_drop]
theorem opp_raised {tops lows : List Rat} (le : tops.length = lows.length) (h : rsB tops lows = true) : rsB (oppQ lows) (oppQ tops) = true := by
  have r := (rsd_iff tops lows none le).mp ((rsB_iff le).mp h)
  have l2 : (oppQ lows).length = (oppQ tops).length := by rw [oppQ_len, oppQ_len, le]
  refine (rsB_iff l2).mpr ((rsd_iff _ _ none l2).mpr ⟨fun i hi => ?_, fun p hp => (by cases hp), fun i hi => ?_⟩)
  · rw [oppQ_len] at hi
    rw [oppQ_get (by omega), oppQ_get (by omega), le]
    have := r.1 (lows.length - 1 - i) (by omega)
    grind
  · rw [oppQ_len] at hi
    rw [oppQ_get (by omega), oppQ_get (by omega), le]
    have e : lows.length - 1 - i = (lows.length - 1 - (i + 1)) + 1 := by omega
    rw [e]
    have := r.2.2 (lows.length - 1 - (i + 1)) (by omega)
    grind
theorem told_getP (kept un : List Rat) : ∀ (l : List Rat) (pv : Option Rat) (i : Nat) (b : Rat), l[i]? = some b → (toldR kept un l pv)[i]? = some (if (if i = 0 then pv else l[i - 1]?) = some b then 0 else sqP kept un b)
  | [], _, i, b, hnil => by simp at hnil
  | x :: r, pv, 0, b, h => by
    have e : x = b := Option.some.inj h
    subst e
    rfl
  | x :: r, pv, i + 1, b, h => by
    have k := told_getP kept un r (some x) i b h
    show (toldR kept un r (some x))[i]? = _
    rw [k]
    congr 1
    cases i with
    | zero => rfl
    | succ n => rfl
theorem told_first {tops lows : List Rat} {i : Nat} (h : i + 1 < lows.length) (e : gq lows (i + 1) = gq lows i) : gq (tdC tops lows) (i + 1) = 0 := by
  have t := told_getP (kpP tops lows none) (unP lows none) lows none (i + 1) _ (gq_get h)
  have e2 : lows[i + 1 - 1]? = some (gq lows (i + 1)) := by
    rw [Nat.add_sub_cancel, e]
    exact gq_get (by omega)
  have c : (if i + 1 = 0 then (none : Option Rat) else lows[i + 1 - 1]?) = some (gq lows (i + 1)) := by
    rw [if_neg (by omega)]
    exact e2
  rw [if_pos c] at t
  exact gq_of t
end V3
/-! One root more at the end: what is kept, the squares turned over, the polynomial, the counts. -/
namespace V3
theorem lf_goS (S : List Rat) : ∀ (as bs A U : List Rat) (pv : Option Rat), Rsd as bs pv → A.Pairwise (fun x y => y ≤ x) → (∀ p, pv = some p → ∀ x ∈ A, p ≤ x) → (∀ p, pv = some p → p ∈ U ∧ ∀ x ∈ U, p ≤ x) → (pv = none → U = [] ∧ A = []) →
    bs.foldl lfStep (A ++ (as ++ S), U) = (A ++ (kpP as bs pv ++ S), U ++ unP bs pv)
  | [], [], A, U, pv, _, _, _, _, _ => by
    show (A ++ ([] ++ S), U) = (A ++ ([] ++ S), U ++ [])
    simp
  | [], _ :: _, _, _, _, h, _, _, _, _ => h.elim
  | _ :: _, [], _, _, _, h, _, _, _, _ => h.elim
  | a :: as, b :: bs, A, U, pv, h, pw, hA, hU, h0 => by
    show bs.foldl lfStep (lfStep (A ++ a :: (as ++ S), U) b) = (A ++ ((if pv = some b then kpP as bs (some b) else a :: kpP as bs (some b)) ++ S), U ++ (if pv = some b then unP bs (some b) else b :: unP bs (some b)))
    by_cases e : pv = some b
    · have ab : a = b := Rat.le_antisymm (h.2.1 b e) h.1
      have hb := hU b e
      rw [if_pos e, if_pos e]
      have st : lfStep (A ++ a :: (as ++ S), U) b = (A ++ (as ++ S), U) := by
        unfold lfStep
        rw [if_pos hb.1]
        show ((A ++ a :: (as ++ S)).erase b, U) = _
        rw [ab, erase_end pw fun x hx => hA b e x hx]
      rw [st]
      exact lf_goS S as bs A U (some b) h.2.2 pw (fun p hp x hx => by cases hp; exact hA b e x hx) (fun p hp => by cases hp; exact hb) fun z => by cases z
    · rw [if_neg e, if_neg e]
      have nb : b ∉ U := fun m => by
        cases pv with
        | none =>
          rw [(h0 rfl).1] at m
          cases m
        | some p =>
          have h1 := (hU p rfl).2 b m
          have h2 := Rat.le_trans h.1 (h.2.1 p rfl)
          exact e (by rw [Rat.le_antisymm h1 h2])
      have st : lfStep (A ++ a :: (as ++ S), U) b = ((A ++ [a]) ++ (as ++ S), U ++ [b]) := by
        unfold lfStep
        rw [if_neg nb]
        simp
      have ba : ∀ x ∈ A, a ≤ x := fun x hx => by
        cases pv with
        | none =>
          rw [(h0 rfl).2] at hx
          cases hx
        | some p => exact Rat.le_trans (h.2.1 p rfl) (hA p rfl x hx)
      rw [st, lf_goS S as bs (A ++ [a]) (U ++ [b]) (some b) h.2.2 (List.pairwise_append.mpr ⟨pw, List.pairwise_singleton _ _, fun x hx y hy => by rw [List.mem_singleton.mp hy]; exact ba x hx⟩) (fun p hp x hx => by
        cases hp
        rcases List.mem_append.mp hx with z | z
        · exact Rat.le_trans h.1 (ba x z)
        · (rw [List.mem_singleton.mp z])
          exact h.1) (fun p hp => by
        cases hp
        refine ⟨List.mem_append_right _ List.mem_cons_self, fun x hx => ?_⟩
        rcases List.mem_append.mp hx with z | z
        · cases pv with
          | none =>
            rw [(h0 rfl).1] at z
            cases z
          | some p => exact Rat.le_trans (Rat.le_trans h.1 (h.2.1 p rfl)) ((hU p rfl).2 x z)
        · (rw [List.mem_singleton.mp z])
          exact Rat.le_refl) fun z => by cases z]
      simp
theorem lf_eqS (S : List Rat) {tops lows : List Rat} (h : Rsd tops lows none) : lows.foldl lfStep (tops ++ S, []) = (kpP tops lows none ++ S, unP lows none) := by
  have := lf_goS S tops lows [] [] none h List.Pairwise.nil (fun p hp => by cases hp) (fun p hp => by cases hp) fun _ => ⟨rfl, rfl⟩
  simpa using this
theorem lf_memS (S : List Rat) : ∀ (as bs A U : List Rat) (pv : Option Rat), Rsd as bs pv → A.Pairwise (fun x y => y ≤ x) → (∀ p, pv = some p → ∀ x ∈ A, p ≤ x) → (∀ p, pv = some p → p ∈ U ∧ ∀ x ∈ U, p ≤ x) → (pv = none → U = [] ∧ A = []) →
    ∀ (i : Nat) (o : Rat), bs[i]? = some o → o ∈ ((bs.take i).foldl lfStep (A ++ (as ++ S), U)).2 → o ∈ ((bs.take i).foldl lfStep (A ++ (as ++ S), U)).1
  | [], [], _, _, _, _, _, _, _, _, i, o, e, _ => by simp at e
  | [], _ :: _, _, _, _, h, _, _, _, _, _, _, _, _ => h.elim
  | _ :: _, [], _, _, _, h, _, _, _, _, _, _, _, _ => h.elim
  | a :: as, b :: bs, A, U, pv, h, pw, hA, hU, h0, 0, o, e, m => by
    have eo : b = o := Option.some.inj e
    subst eo
    have m : b ∈ U := m
    have pb : pv = some b := by
      cases pv with
      | none =>
        rw [(h0 rfl).1] at m
        cases m
      | some p =>
        have h1 := (hU p rfl).2 b m
        have h2 := Rat.le_trans h.1 (h.2.1 p rfl)
        rw [Rat.le_antisymm h1 h2]
    have ab : a = b := Rat.le_antisymm (h.2.1 b pb) h.1
    show b ∈ A ++ a :: (as ++ S)
    rw [ab]
    exact List.mem_append_right _ List.mem_cons_self
  | a :: as, b :: bs, A, U, pv, h, pw, hA, hU, h0, i + 1, o, e, m => by
    have e : bs[i]? = some o := e
    have m : o ∈ ((bs.take i).foldl lfStep (lfStep (A ++ a :: (as ++ S), U) b)).2 := m
    show o ∈ ((bs.take i).foldl lfStep (lfStep (A ++ a :: (as ++ S), U) b)).1
    by_cases ep : pv = some b
    · have ab : a = b := Rat.le_antisymm (h.2.1 b ep) h.1
      have hb := hU b ep
      have st : lfStep (A ++ a :: (as ++ S), U) b = (A ++ (as ++ S), U) := by
        unfold lfStep
        rw [if_pos hb.1]
        show ((A ++ a :: (as ++ S)).erase b, U) = _
        rw [ab, erase_end pw fun x hx => hA b ep x hx]
      rw [st] at m ⊢
      exact lf_memS S as bs A U (some b) h.2.2 pw (fun p hp x hx => by cases hp; exact hA b ep x hx) (fun p hp => by cases hp; exact hb) (fun z => by cases z) i o e m
    · have nb : b ∉ U := fun m => by
        cases pv with
        | none =>
          rw [(h0 rfl).1] at m
          cases m
        | some p =>
          have h1 := (hU p rfl).2 b m
          have h2 := Rat.le_trans h.1 (h.2.1 p rfl)
          exact ep (by rw [Rat.le_antisymm h1 h2])
      have st : lfStep (A ++ a :: (as ++ S), U) b = ((A ++ [a]) ++ (as ++ S), U ++ [b]) := by
        unfold lfStep
        rw [if_neg nb]
        simp
      have ba : ∀ x ∈ A, a ≤ x := fun x hx => by
        cases pv with
        | none =>
          rw [(h0 rfl).2] at hx
          cases hx
        | some p => exact Rat.le_trans (h.2.1 p rfl) (hA p rfl x hx)
      rw [st] at m ⊢
      refine lf_memS S as bs (A ++ [a]) (U ++ [b]) (some b) h.2.2 (List.pairwise_append.mpr ⟨pw, List.pairwise_singleton _ _, fun x hx y hy => by rw [List.mem_singleton.mp hy]; exact ba x hx⟩) (fun p hp x hx => ?_) (fun p hp => ?_) (fun z => by cases z) i o e m
      · cases hp
        rcases List.mem_append.mp hx with z | z
        · exact Rat.le_trans h.1 (ba x z)
        · (rw [List.mem_singleton.mp z])
          exact h.1
      · cases hp
        refine ⟨List.mem_append_right _ List.mem_cons_self, fun x hx => ?_⟩
        rcases List.mem_append.mp hx with z | z
        · cases pv with
          | none =>
            rw [(h0 rfl).1] at z
            cases z
          | some p => exact Rat.le_trans (Rat.le_trans h.1 (h.2.1 p rfl)) ((hU p rfl).2 x z)
        · (rw [List.mem_singleton.mp z])
          exact Rat.le_refl
theorem lf_thereS (S : List Rat) {tops lows : List Rat} (h : Rsd tops lows none) {i : Nat} {o : Rat} (e : lows[i]? = some o) (m : o ∈ ((lows.take i).foldl lfStep (tops ++ S, [])).2) : o ∈ ((lows.take i).foldl lfStep (tops ++ S, [])).1 := by
  have := lf_memS S tops lows [] [] none h List.Pairwise.nil (fun p hp => by cases hp) (fun p hp => by cases hp) (fun _ => ⟨rfl, rfl⟩) i o e
  simp only [List.nil_append] at this
  exact this m
theorem bent_ev2 {t : Rat} : ∀ (post told pre p : List Rat), post.length = told.length → (pre ++ post).length ≤ p.length → (∀ x ∈ post, x ≠ t) → (bentGo pre post told p).length = p.length ∧ ev (bentGo pre post told p) t = ev p t - prG (pre ++ post) t * qsM t post told
  | [], [], pre, p, _, _, _ => ⟨rfl, by
    show ev p t = ev p t - prG (pre ++ []) t * 0
    grind⟩
  | [], _ :: _, _, _, h, _, _ => by simp at h
  | _ :: _, [], _, _, h, _, _ => by simp at h
  | b :: bs, c :: cs, pre, p, h, hp, nt => by
    have hb : t - b ≠ 0 := fun z => nt b List.mem_cons_self (by grind)
    have lq : (ofZ (pre ++ bs)).length ≤ p.length := by
      rw [List.length_append, List.length_cons] at hp
      rw [ofZ_len, List.length_append]
      omega
    have e2 : (pre ++ [b]) ++ bs = pre ++ b :: bs := by simp
    have lif : (if c ≠ 0 then lessP p c (ofZ (pre ++ bs)) else p).length = p.length := by
      split
      · exact less_len _ _ _
      · rfl
    obtain ⟨h1, h2⟩ := bent_ev2 bs cs (pre ++ [b]) (if c ≠ 0 then lessP p c (ofZ (pre ++ bs)) else p) (by simpa using h) (by rw [lif, e2]; exact hp) fun x hx => nt x (List.mem_cons_of_mem _ hx)
    refine ⟨h1.trans lif, ?_⟩
    show ev (bentGo (pre ++ [b]) bs cs (if c ≠ 0 then lessP p c (ofZ (pre ++ bs)) else p)) t = ev p t - prG (pre ++ b :: bs) t * (c / (t - b) + qsM t bs cs)
    rw [h2, e2]
    have ei : ev (if c ≠ 0 then lessP p c (ofZ (pre ++ bs)) else p) t = ev p t - c * prG (pre ++ bs) t := by
      split
      · rw [ev_less _ _ _ _ lq, ev_ofZ]
      · rename_i z
        have z : c = 0 := by simpa using z
        rw [z]
        grind
    rw [ei, prG_app, prG_app]
    have hc := Rat.div_mul_cancel (a := c) hb
    generalize c / (t - b) = d at hc ⊢
    show _ = ev p t - prG pre t * ((t - b) * prG bs t) * (d + qsM t bs cs)
    rw [← hc]
    show ev p t - d * (t - b) * (prG pre t * prG bs t) - prG pre t * ((t - b) * prG bs t) * qsM t bs cs = _
    grind
/-- each square by how far its other lies over z -/
def mulZ (z : Rat) : List Rat → List Rat → List Rat
  | b :: bs, c :: cs => c * (b - z) :: mulZ z bs cs
  | _, _ => []
theorem mulZ_len (z : Rat) : ∀ (l s : List Rat), l.length = s.length → (mulZ z l s).length = l.length
  | [], [], _ => rfl
  | [], _ :: _, hnil => by simp at hnil
  | _ :: _, [], hnil => by simp at hnil
  | b :: bs, c :: cs, h => by
    show (mulZ z bs cs).length + 1 = bs.length + 1
    rw [mulZ_len z bs cs (by simpa using h)]
theorem prB_app (x : Rat) : ∀ a b : List Rat, prB (a ++ b) x = prB a x * prB b x
  | [], b => by
    show prB b x = 1 * prB b x
    grind
  | o :: r, b => by
    show (o - x) * prB (r ++ b) x = (o - x) * prB r x * prB b x
    rw [prB_app x r b]
    grind
theorem sqP_end (K U : List Rat) (z u : Rat) : sqP (K ++ [z]) U u = sqP K U u * (z - u) := by
  unfold sqP
  rw [prB_app]
  have e : prB [z] u = z - u := by
    show (z - u) * 1 = z - u
    grind
  rw [e, Rat.div_def, Rat.div_def]
  grind
theorem ar_mul (K U : List Rat) (z : Rat) : ∀ (l : List Rat) (pv : Option Rat), (toldR (K ++ [z]) U l pv).map (fun x => -x) = mulZ z l (toldR K U l pv)
  | [], _ => rfl
  | b :: bs, pv => by
    show (-(if pv = some b then 0 else sqP (K ++ [z]) U b)) :: (toldR (K ++ [z]) U bs (some b)).map (fun x => -x) = (if pv = some b then 0 else sqP K U b) * (b - z) :: mulZ z bs (toldR K U bs (some b))
    rw [ar_mul K U z bs (some b)]
    congr 1
    by_cases c : pv = some b
    · rw [if_pos c, if_pos c]
      grind
    · rw [if_neg c, if_neg c, sqP_end]
      grind
theorem qsM_mul (z t : Rat) : ∀ (l s : List Rat), l.length = s.length → (∀ x ∈ l, x ≠ t) → qsM t l (mulZ z l s) = (t - z) * qsM t l s - sR s
  | [], [], _, _ => by
    show (0 : Rat) = (t - z) * 0 - 0
    grind
  | [], _ :: _, hnil, _ => by simp at hnil
  | _ :: _, [], hnil, _ => by simp at hnil
  | b :: bs, c :: cs, h, nt => by
    have k := qsM_mul z t bs cs (by simpa using h) fun x hx => nt x (List.mem_cons_of_mem _ hx)
    have nb : t - b ≠ 0 := fun y => nt b List.mem_cons_self (by grind)
    show c * (b - z) / (t - b) + qsM t bs (mulZ z bs cs) = (t - z) * (c / (t - b) + qsM t bs cs) - (c + sR cs)
    rw [k]
    have e : c * (b - z) / (t - b) = (t - z) * (c / (t - b)) - c := by
      have h1 := Rat.div_mul_cancel (a := c * (b - z)) nb
      have h2 := Rat.div_mul_cancel (a := c) nb
      generalize c * (b - z) / (t - b) = x at h1 ⊢
      generalize c / (t - b) = y at h2 ⊢
      have : (x - ((t - z) * y - c)) * (t - b) = 0 := by grind
      rcases Rat.mul_eq_zero.mp this with q | q
      · grind
      · exact absurd q nb
    rw [e]
    grind
theorem sR_app (z : Rat) : ∀ l : List Rat, sR (l ++ [z]) = sR l + z
  | [] => by
    show z + 0 = 0 + z
    grind
  | x :: r => by
    show x + sR (r ++ [z]) = (x + sR r) + z
    rw [sR_app z r]
    grind
abbrev arC (tops lows : List Rat) (z : Rat) : List Rat := mulZ z lows (tdC tops lows)
/-- the arrow's polynomial is that of the roots -/
theorem arrow_poly {tops lows : List Rat} {z e : Rat} (h : Rsd tops lows none) (he : e = sR (tops ++ [z]) - sR lows) : bentGo [] lows (arC tops lows z) (ofZ (lows ++ [e])) = ofZ (tops ++ [z]) := by
  obtain ⟨pts, p1, p2, p3⟩ := fresh_pts lows (lows.length + 2)
  have tl : (tdC tops lows).length = lows.length := told_len _ _ _ _
  have al : lows.length = (arC tops lows z).length := (mulZ_len z lows _ tl.symm).symm
  have cs := change_sum h
  obtain ⟨y, hy⟩ := above_all lows
  have hl : ([] ++ lows).length ≤ (ofZ (lows ++ [e])).length := by
    rw [ofZ_len]
    simp
    omega
  have len : (bentGo [] lows (arC tops lows z) (ofZ (lows ++ [e]))).length = lows.length + 2 := by
    rw [(bent_ev2 (t := y) lows _ [] (ofZ (lows ++ [e])) al hl fun x hx q => by
      have := hy x hx
      grind).1, ofZ_len, List.length_append]
    rfl
  refine rows_eq (pts := pts) (by rw [len, p1]) (by rw [ofZ_len, List.length_append, h.len, p1]; rfl) p2 fun x hx => ?_
  have nx := p3 x hx
  have nx2 : ∀ y ∈ lows, y ≠ x := fun y hy q => nx (q ▸ hy)
  rw [(bent_ev2 (t := x) lows _ [] (ofZ (lows ++ [e])) al hl nx2).2, ev_ofZ, ev_ofZ, List.nil_append, prG_app x lows [e], prG_app x tops [z], tops_ev h nx, qsM_mul z x lows _ tl.symm nx2]
  have e1 : prG [e] x = x - e := by
    show (x - e) * 1 = _
    grind
  have e2 : prG [z] x = x - z := by
    show (x - z) * 1 = _
    grind
  rw [e1, e2, he, sR_app]
  have cs : sR (tdC tops lows) + sR lows = sR tops := cs
  have ee : (toldR (kpP tops lows none) (unP lows none) lows none) = tdC tops lows := rfl
  rw [ee]
  generalize qsM x lows (tdC tops lows) = q
  generalize prG lows x = p
  rw [← cs]
  grind
/-! ### the counts -/
def eqS (t : Rat) : List Rat → List Rat → Rat
  | b :: bs, c :: cs => (if b = t then c else 0) + eqS t bs cs
  | _, _ => 0
theorem qB_mul (z t : Rat) : ∀ (l s : List Rat), l.length = s.length → qB t l (mulZ z l s) = (t - z) * qB t l s + (sR s - eqS t l s)
  | [], [], _ => by
    show (0 : Rat) = (t - z) * 0 + (0 - 0)
    grind
  | [], _ :: _, hnil => by simp at hnil
  | _ :: _, [], hnil => by simp at hnil
  | b :: bs, c :: cs, h => by
    have k := qB_mul z t bs cs (by simpa using h)
    show (if b ≠ t then c * (b - z) / (b - t) else 0) + qB t bs (mulZ z bs cs) = (t - z) * ((if b ≠ t then c / (b - t) else 0) + qB t bs cs) + ((c + sR cs) - ((if b = t then c else 0) + eqS t bs cs))
    rw [k]
    by_cases e : b = t
    · rw [if_neg (fun q => q e), if_neg (fun q => q e), if_pos e]
      grind
    · rw [if_pos e, if_pos e, if_neg e]
      have nb : b - t ≠ 0 := by grind
      have e2 : c * (b - z) / (b - t) = (t - z) * (c / (b - t)) + c := by
        have h1 := Rat.div_mul_cancel (a := c * (b - z)) nb
        have h2 := Rat.div_mul_cancel (a := c) nb
        generalize c * (b - z) / (b - t) = x at h1 ⊢
        generalize c / (b - t) = y at h2 ⊢
        have : (x - ((t - z) * y + c)) * (b - t) = 0 := by grind
        rcases Rat.mul_eq_zero.mp this with q | q
        · grind
        · exact absurd q nb
      rw [e2]
      grind
theorem eqS_facts (t : Rat) : ∀ (l s : List Rat), (∀ c ∈ s, 0 ≤ c) → 0 ≤ eqS t l s ∧ (tieP t l s → 0 < eqS t l s) ∧ (¬ tieP t l s → eqS t l s = 0)
  | [], [], _ => ⟨Rat.le_refl, fun h => h.elim, fun _ => rfl⟩
  | [], _ :: _, _ => ⟨Rat.le_refl, fun h => h.elim, fun _ => rfl⟩
  | _ :: _, [], _ => ⟨Rat.le_refl, fun h => h.elim, fun _ => rfl⟩
  | b :: bs, c :: cs, h => by
    obtain ⟨h1, h2, h3⟩ := eqS_facts t bs cs fun x hx => h x (List.mem_cons_of_mem _ hx)
    have hc := h c List.mem_cons_self
    show 0 ≤ (if b = t then c else 0) + eqS t bs cs ∧ ((b = t ∧ 0 < c) ∨ tieP t bs cs → 0 < (if b = t then c else 0) + eqS t bs cs) ∧ (¬ ((b = t ∧ 0 < c) ∨ tieP t bs cs) → (if b = t then c else 0) + eqS t bs cs = 0)
    have i0 : 0 ≤ (if b = t then c else 0) := by split <;> grind
    refine ⟨by grind, fun q => ?_, fun q => ?_⟩
    · rcases q with ⟨q1, q2⟩ | q
      · rw [if_pos q1]
        grind
      · have := h2 q
        grind
    · have q1 := h3 fun y => q (.inr y)
      rw [q1]
      by_cases e : b = t
      · rw [if_pos e]
        have : ¬ 0 < c := fun y => q (.inl ⟨e, y⟩)
        grind
      · rw [if_neg e]
        grind
theorem tie_mul (z t : Rat) : ∀ (l s : List Rat), tieP t l (mulZ z l s) ↔ ((z < t ∧ tieP t l s) ∨ (t < z ∧ tieP t l (s.map fun x => -x)))
  | [], [] => ⟨fun h => h.elim, fun h => h.elim (fun q => q.2.elim) (fun q => q.2.elim)⟩
  | [], _ :: _ => ⟨fun h => h.elim, fun h => h.elim (fun q => q.2.elim) (fun q => q.2.elim)⟩
  | _ :: _, [] => ⟨fun h => h.elim, fun h => h.elim (fun q => q.2.elim) (fun q => q.2.elim)⟩
  | b :: bs, c :: cs => by
    have k := tie_mul z t bs cs
    show ((b = t ∧ 0 < c * (b - z)) ∨ tieP t bs (mulZ z bs cs)) ↔ ((z < t ∧ ((b = t ∧ 0 < c) ∨ tieP t bs cs)) ∨ (t < z ∧ ((b = t ∧ 0 < -c) ∨ tieP t bs (cs.map fun x => -x))))
    rw [k]
    have key : b = t → (0 < c * (b - z) ↔ (z < t ∧ 0 < c) ∨ (t < z ∧ 0 < -c)) := fun e => by
      subst e
      constructor
      · intro q
        by_cases z1 : z < b
        · refine .inl ⟨z1, ?_⟩
          by_cases c0 : 0 < c
          · exact c0
          · exfalso
            have m := Rat.mul_nonneg (show 0 ≤ -c by grind) (show 0 ≤ b - z by grind)
            grind
        · by_cases z2 : b < z
          · refine .inr ⟨z2, ?_⟩
            by_cases c0 : 0 < -c
            · exact c0
            · exfalso
              have m := Rat.mul_nonneg (show 0 ≤ c by grind) (show 0 ≤ z - b by grind)
              grind
          · have : b = z := by grind
            rw [this] at q
            grind
      · rintro (⟨z1, c0⟩ | ⟨z1, c0⟩)
        · exact Rat.mul_pos c0 (by grind)
        · have := Rat.mul_pos c0 (show 0 < z - b by grind)
          grind
    by_cases e : b = t
    · rw [key e]
      constructor
      · rintro (⟨_, (⟨a1, a2⟩ | ⟨a1, a2⟩)⟩ | (⟨a1, a2⟩ | ⟨a1, a2⟩))
        · exact .inl ⟨a1, .inl ⟨e, a2⟩⟩
        · exact .inr ⟨a1, .inl ⟨e, a2⟩⟩
        · exact .inl ⟨a1, .inr a2⟩
        · exact .inr ⟨a1, .inr a2⟩
      · rintro (⟨a1, (⟨_, a2⟩ | a2)⟩ | ⟨a1, (⟨_, a2⟩ | a2)⟩)
        · exact .inl ⟨e, .inl ⟨a1, a2⟩⟩
        · exact .inr (.inl ⟨a1, a2⟩)
        · exact .inl ⟨e, .inr ⟨a1, a2⟩⟩
        · exact .inr (.inr ⟨a1, a2⟩)
    · constructor
      · rintro (⟨q, _⟩ | (⟨a1, a2⟩ | ⟨a1, a2⟩))
        · exact absurd q e
        · exact .inl ⟨a1, .inr a2⟩
        · exact .inr ⟨a1, .inr a2⟩
      · rintro (⟨a1, (⟨q, _⟩ | a2)⟩ | ⟨a1, (⟨q, _⟩ | a2)⟩)
        · exact absurd q e
        · exact .inr (.inl ⟨a1, a2⟩)
        · exact absurd q e
        · exact .inr (.inr ⟨a1, a2⟩)
theorem tie_neg (t : Rat) : ∀ (l s : List Rat), (∀ c ∈ s, 0 ≤ c) → ¬ tieP t l (s.map fun x => -x)
  | [], [], _ => fun h => h.elim
  | [], _ :: _, _ => fun h => h.elim
  | _ :: _, [], _ => fun h => h.elim
  | b :: bs, c :: cs, h => by
    have k := tie_neg t bs cs fun x hx => h x (List.mem_cons_of_mem _ hx)
    have hc := h c List.mem_cons_self
    rintro (⟨_, q⟩ | q)
    · grind
    · exact k q
theorem cA_app (t z : Rat) : ∀ l : List Rat, cA t (l ++ [z]) = cA t l + (if t < z then 1 else 0)
  | [] => by
    show (if t < z then (1 : Int) else 0) + 0 = 0 + (if t < z then 1 else 0)
    omega
  | x :: r => by
    show (if t < x then (1 : Int) else 0) + cA t (r ++ [z]) = ((if t < x then 1 else 0) + cA t r) + (if t < z then 1 else 0)
    rw [cA_app t z r]
    omega
theorem cB_app (t z : Rat) : ∀ l : List Rat, cB t (l ++ [z]) = cB t l + (if z < t then 1 else 0)
  | [] => by
    show (if z < t then (1 : Int) else 0) + 0 = 0 + (if z < t then 1 else 0)
    omega
  | x :: r => by
    show (if x < t then (1 : Int) else 0) + cB t (r ++ [z]) = ((if x < t then 1 else 0) + cB t r) + (if z < t then 1 else 0)
    rw [cB_app t z r]
    omega
theorem cB_none {t : Rat} : ∀ {l : List Rat}, (∀ x ∈ l, t ≤ x) → cB t l = 0
  | [], _ => rfl
  | x :: r, h => by
    show (if x < t then (1 : Int) else 0) + cB t r = 0
    rw [cB_none fun y hy => h y (List.mem_cons_of_mem _ hy), if_neg (Rat.not_lt.mpr (h x List.mem_cons_self))]
    rfl
theorem no_tie {t : Rat} : ∀ {l s : List Rat}, (∀ x ∈ l, x ≠ t) → ¬ tieP t l s
  | [], [], _ => fun h => h.elim
  | [], _ :: _, _ => fun h => h.elim
  | _ :: _, [], _ => fun h => h.elim
  | b :: bs, c :: cs, h => by
    rintro (⟨q, _⟩ | q)
    · exact h b List.mem_cons_self q
    · exact no_tie (fun x hx => h x (List.mem_cons_of_mem _ hx)) q
theorem arrow_right {tops lows : List Rat} {z : Rat} (h : Rsd tops lows none) (hz : ∀ x ∈ lows, z ≤ x) (ht : ∀ x ∈ tops, z ≤ x) (t : Rat) :
    (tieP t lows (arC tops lows z) → cA t (tops ++ [z]) = cA t lows + 1 ∧ cB t (tops ++ [z]) = cB t lows + 1) ∧
    (¬ tieP t lows (arC tops lows z) →
      (0 < (z + sR (tdC tops lows) - t) - qB t lows (arC tops lows z) → cA t (tops ++ [z]) = cA t lows + 1 ∧ cB t (tops ++ [z]) = cB t lows) ∧
      ((z + sR (tdC tops lows) - t) - qB t lows (arC tops lows z) < 0 → cA t (tops ++ [z]) = cA t lows ∧ cB t (tops ++ [z]) = cB t lows + 1) ∧
      ((z + sR (tdC tops lows) - t) - qB t lows (arC tops lows z) = 0 → cA t (tops ++ [z]) = cA t lows ∧ cB t (tops ++ [z]) = cB t lows)) := by
  have tl : (tdC tops lows).length = lows.length := told_len _ _ _ _
  obtain ⟨c1, c2⟩ := counts_right h t
  have nn : ∀ x ∈ tdC tops lows, 0 ≤ x := fun x hx => by
    rcases told_mem hx with rfl | ⟨u, hu, rfl⟩
    · exact Rat.le_refl
    · exact sq_nn' (kp_rst h) hu
  have nt := tie_neg t lows _ nn
  have tm := tie_mul z t lows (tdC tops lows)
  obtain ⟨e0, e1, e2⟩ := eqS_facts t lows (tdC tops lows) nn
  have qm := qB_mul z t lows (tdC tops lows) tl.symm
  have ca := cA_app t z tops
  have cb := cB_app t z tops
  have c1 : tieP t lows (tdC tops lows) → cA t tops = cA t lows + 1 ∧ cB t tops = cB t lows := c1
  have c2 : ¬ tieP t lows (tdC tops lows) → (0 < 1 + qB t lows (tdC tops lows) → cA t tops = cA t lows ∧ cB t tops = cB t lows) ∧ (1 + qB t lows (tdC tops lows) < 0 → cA t tops = cA t lows + 1 ∧ cB t tops = cB t lows - 1) ∧ (1 + qB t lows (tdC tops lows) = 0 → cA t tops = cA t lows ∧ cB t tops = cB t lows - 1) := c2
  have sx : (z + sR (tdC tops lows) - t) - qB t lows (arC tops lows z) = eqS t lows (tdC tops lows) - (t - z) * (1 + qB t lows (tdC tops lows)) := by
    show (z + sR (tdC tops lows) - t) - qB t lows (mulZ z lows (tdC tops lows)) = _
    rw [qm]
    grind
  rw [sx, ca, cb]
  have tm : tieP t lows (arC tops lows z) ↔ (z < t ∧ tieP t lows (tdC tops lows)) ∨ (t < z ∧ tieP t lows ((tdC tops lows).map fun x => -x)) := tm
  rw [tm]
  generalize hq : 1 + qB t lows (tdC tops lows) = S at *
  generalize hE : eqS t lows (tdC tops lows) = E at *
  generalize hT : tieP t lows (tdC tops lows) = T at *
  by_cases z1 : z < t
  · rw [if_neg (show ¬ t < z by grind), if_pos z1]
    refine (⟨fun q => ?_, fun q => ?_⟩)
    · rcases q with q | q
      · have := c1 q.2
        omega
      · exact absurd q.2 nt
    · have nT : ¬ T := fun y => q (.inl ⟨z1, y⟩)
      have eE := e2 nT
      obtain ⟨f1, f2, f3⟩ := c2 nT
      rw [eE]
      have dp : 0 < t - z := by grind
      refine ⟨fun p => ?_, fun p => ?_, fun p => ?_⟩
      · have : S < 0 := by
          by_cases s0 : S < 0
          · exact s0
          · exfalso
            have m := Rat.mul_nonneg (Rat.le_of_lt dp) (show 0 ≤ S by grind)
            grind
        have := f2 this
        omega
      · have : 0 < S := by
          by_cases s0 : 0 < S
          · exact s0
          · exfalso
            have m := Rat.mul_nonneg (Rat.le_of_lt dp) (show 0 ≤ -S by grind)
            grind
        have := f1 this
        omega
      · have : S = 0 := by
          have m : (t - z) * S = 0 := by grind
          rcases Rat.mul_eq_zero.mp m with y | y
          · grind
          · exact y
        have := f3 this
        omega
  · have bl := cB_none (t := t) (l := lows) fun x hx => by
      have := hz x hx
      grind
    have bt := cB_none (t := t) (l := tops) fun x hx => by
      have := ht x hx
      grind
    rw [if_neg z1]
    refine (⟨fun q => ?_, fun q => ?_⟩)
    · rcases q with q | q
      · exact absurd q.1 z1
      · exact absurd q.2 nt
    · by_cases z2 : t < z
      · rw [if_pos z2]
        have nT : ¬ T := fun y => by
          rw [← hT] at y
          have big : ∀ x ∈ lows, x ≠ t := fun x hx q => by
            have := hz x hx
            grind
          exact no_tie big y
        have eE := e2 nT
        obtain ⟨f1, f2, f3⟩ := c2 nT
        have s0 : 0 < S := by
          by_cases p1 : S < 0
          · have := f2 p1
            omega
          · by_cases p2 : S = 0
            · have := f3 p2
              omega
            · grind
        have := f1 s0
        have m := Rat.mul_pos (show 0 < z - t by grind) s0
        rw [eE]
        refine ⟨fun _ => by omega, fun p => ?_, fun p => ?_⟩
        · exfalso
          grind
        · exfalso
          grind
      · have ez : t = z := by grind
        rw [if_neg z2]
        have s1 : E - (t - z) * S = E := by grind
        rw [s1]
        by_cases pT : T
        · have := c1 pT
          have e3 := e1 pT
          refine ⟨fun _ => by omega, fun p => ?_, fun p => ?_⟩
          · exfalso
            grind
          · exfalso
            grind
        · have e3 := e2 pT
          obtain ⟨f1, f2, f3⟩ := c2 pT
          have s0 : 0 < S := by
            by_cases p1 : S < 0
            · have := f2 p1
              omega
            · by_cases p2 : S = 0
              · have := f3 p2
                omega
              · grind
          have := f1 s0
          refine ⟨fun p => ?_, fun p => ?_, fun p => by omega⟩
          · exfalso
            grind
          · exfalso
            grind
end V3
/-! Laced roots as raised ones with one more at the end; the squares told, their size. -/
namespace V3
theorem lac_split {ts lows : List Rat} (hl : ts.length = lows.length + 1) (l1 : 1 ≤ lows.length) (srt : SrtQ lows) (h : lacB ts lows = true) :
    ∃ (tops : List Rat) (z : Rat), ts = tops ++ [z] ∧ Rsd tops lows none ∧ (∀ x ∈ lows, z ≤ x) ∧ (∀ x ∈ tops, z ≤ x) := by
  have lc := lac_iff.mp h
  have e1 : ts.length - lows.length = 1 := by omega
  unfold Lc at lc
  rw [e1] at lc
  have spl : ts = ts.take lows.length ++ [gq ts lows.length] := by
    have d : ts.drop lows.length = [gq ts lows.length] := by
      rw [List.drop_eq_getElem_cons (by omega), List.drop_of_length_le (by omega)]
      congr 1
      exact (gq_of (List.getElem?_eq_getElem (by omega))).symm
    have ta := List.take_append_drop lows.length ts
    rw [d] at ta
    exact ta.symm
  have gt : ∀ i, i < lows.length → gq (ts.take lows.length) i = gq ts i := fun i hi => by
    unfold gq
    rw [List.getD_eq_getElem?_getD, List.getD_eq_getElem?_getD, List.getElem?_take, if_pos hi]
  have lt : (ts.take lows.length).length = lows.length := by
    rw [List.length_take]
    omega
  have zl : ∀ x ∈ lows, gq ts lows.length ≤ x := fun x hx => by
    obtain ⟨i, hi⟩ := List.getElem?_of_mem hx
    have il := (List.getElem?_eq_some_iff.mp hi).1
    have a1 := (lc (lows.length - 1) (by omega)).2
    have e2 : lows.length - 1 + 1 = lows.length := by omega
    rw [e2] at a1
    have a2 := srt.le (i := i) (j := lows.length - 1) (by omega) (by omega)
    rw [gq_of hi] at a2
    exact Rat.le_trans a1 a2
  refine ⟨ts.take lows.length, gq ts lows.length, spl, (rsd_iff _ _ none lt).mpr ⟨fun i hi => ?_, fun p hp => (by cases hp), fun i hi => ?_⟩, zl, fun x hx => ?_⟩
  · rw [gt i hi]
    exact (lc i hi).1
  · rw [gt (i + 1) hi]
    exact (lc i (by omega)).2
  · obtain ⟨i, hi⟩ := List.getElem?_of_mem hx
    have il := (List.getElem?_eq_some_iff.mp hi).1
    have e3 := gq_of hi
    rw [gt i (by omega)] at e3
    have a1 := (lc i (by omega)).1
    rw [e3] at a1
    exact Rat.le_trans (zl _ (gq_mem (show i < lows.length by omega))) a1
theorem mulZ_mem {z : Rat} : ∀ {l s : List Rat} {x : Rat}, x ∈ mulZ z l s → ∃ b ∈ l, ∃ c ∈ s, x = c * (b - z)
  | [], _, _, hnil => by cases hnil
  | _ :: _, [], _, hnil => by cases hnil
  | b :: bs, c :: cs, x, h => by
    have h : x ∈ c * (b - z) :: mulZ z bs cs := h
    (rcases List.mem_cons.mp h with q | q)
    · exact ⟨b, List.mem_cons_self, c, List.mem_cons_self, q⟩
    · obtain ⟨b', hb, c', hc, e⟩ := mulZ_mem q
      exact ⟨b', List.mem_cons_of_mem _ hb, c', List.mem_cons_of_mem _ hc, e⟩
theorem mulZ_get (z : Rat) : ∀ (l s : List Rat) (i : Nat), i < l.length → i < s.length → gq (mulZ z l s) i = gq s i * (gq l i - z)
  | [], _, _, hnil, _ => by simp at hnil
  | _ :: _, [], _, _, hnil => by simp at hnil
  | _ :: _, _ :: _, 0, _, _ => rfl
  | _ :: bs, _ :: cs, i + 1, h, g => mulZ_get z bs cs i (by simpa using h) (by simpa using g)
theorem ar_len {tops lows : List Rat} (z : Rat) : (arC tops lows z).length = lows.length := mulZ_len z lows _ (told_len _ _ _ _).symm
theorem ar_all {tops lows : List Rat} {z : Rat} {a b n : Nat} (h : Rsd tops lows none) (hz : ∀ x ∈ lows, z ≤ x) (bt : ∀ x ∈ tops, Bq a x) (bz : Bq a z) (bl : ∀ x ∈ lows, Bq b x) (hn : lows.length ≤ n) :
    ∀ x ∈ arC tops lows z, 0 ≤ x ∧ Bq (n * (a + b + 1) + 1 + ((n - 1) * (b + b + 1) + 1) + (b + a + 1)) x := fun x hx => by
  obtain ⟨u, hu, c, hc, rfl⟩ := mulZ_mem hx
  obtain ⟨c0, cb⟩ := told_all h bt bl hn c hc
  have := hz u hu
  exact ⟨Rat.mul_nonneg c0 (by grind), cb.mul ((bl u hu).sub bz (Nat.le_refl _)) (Nat.le_refl _)⟩
theorem ar_first {tops lows : List Rat} {z : Rat} {i : Nat} (h : i + 1 < lows.length) (e : gq lows (i + 1) = gq lows i) : gq (arC tops lows z) (i + 1) = 0 := by
  have t := told_first (tops := tops) h e
  rw [mulZ_get z lows _ (i + 1) h (by rw [told_len]; exact h), t]
  grind
theorem ar_told {tops lows : List Rat} (z : Rat) : (toldR (kpP tops lows none ++ [z]) (unP lows none) lows none).map (fun x => -x) = arC tops lows z := ar_mul _ _ z lows none
end V3
set_option maxHeartbeats 8100000
namespace V3
open PySem.Spec PySem L2 PyProof.Rows RZ GxR
theorem any_eqv (o : Rat) (qs : List Rat) : ((qs.map frd).any fun z => PyData.eqv z (frd o)) = decide (o ∈ qs) := by
  (rw [Bool.eq_iff_iff, List.any_eq_true, decide_eq_true_eq])
  constructor
  · rintro ⟨d, hd, h⟩
    (obtain ⟨q, hq, rfl⟩ := List.mem_map.mp hd)
    rw [eqv_frd] at h
    rw [← of_decide_eq_true h]
    exact hq
  · intro h
    exact ⟨frd o, List.mem_map.mpr ⟨o, h, rfl⟩, by rw [eqv_frd]; exact decide_eq_true rfl⟩
/-- the first place -/
theorem first_place {o : Rat} : ∀ {qs : List Rat}, o ∈ qs → ∃ j, qs[j]? = some o ∧ (∀ m, m < j → ∀ q, qs[m]? = some q → q ≠ o) ∧ qs.erase o = qs.eraseIdx j
  | [], hnil => by cases hnil
  | x :: r, h => by
    by_cases e : x = o
    · subst e
      exact ⟨0, rfl, fun m hm => absurd hm (by omega), by rw [List.erase_cons_head]; rfl⟩
    · have hr : o ∈ r := by
        (rcases List.mem_cons.mp h with z | z)
        · exact absurd z.symm e
        · exact z
      obtain ⟨j, h1, h2, h3⟩ := first_place hr
      refine ⟨j + 1, h1, fun m hm q hq => ?_, by rw [List.erase_cons_tail (by simpa using e), h3]; rfl⟩
      cases m with
      | zero =>
        have : x = q := Option.some.inj hq
        rw [← this]
        exact e
      | succ m => exact h2 m (by omega) q hq
theorem dtAll_erase {K : PySem.W.Frag} {H : Hp} : ∀ {vs : List V} {ds : List PyData} (j : Nat), DpTAll K H vs ds → DpTAll K H (vs.eraseIdx j) (ds.eraseIdx j)
  | _, _, _, .nil => .nil
  | _, _, 0, .cons a b => b
  | _, _, j + 1, .cons a b => .cons a (dtAll_erase j b)
theorem map_eraseIdx {α β : Type} (f : α → β) : ∀ (l : List α) (j : Nat), (l.map f).eraseIdx j = (l.eraseIdx j).map f
  | [], _ => rfl
  | _ :: _, 0 => rfl
  | a :: r, j + 1 => by
    show f a :: (r.map f).eraseIdx j = f a :: (r.eraseIdx j).map f
    rw [map_eraseIdx f r j]
section
variable {mg : Str → Option Value} {base : Heap} {K : PySem.W.Frag} {P : Program} {w : World}
abbrev s_left_of : Stmt := topS 41
abbrev N_left_of : List Str := ["roots", "others", "kept", "unlike", "other"]
theorem sc_left_of : FnScope N_left_of ["roots", "others"] (defScope s_left_of) := ⟨rfl, rfl, rfl, by decide +kernel, rfl, by decide +kernel, by decide +kernel⟩
def spLeft (K : PySem.W.Frag) : Sp := fun vs H Q _ => ∃ (v w : V) (tops S lows : List Rat), vs = [v, w] ∧ DpT K H v (rowQ (tops ++ S)) ∧ DpT K H w (rowQ lows) ∧ Rsd tops lows none ∧ (tops ++ S).length ≤ 6 ∧
  ∀ H' p pk pu ks us, Same H H' → H' p = some (.tup [.ref pk, .ref pu]) → H' pk = some (.lst ks) → DpTAll K H' ks ((kpP tops lows none ++ S).map frd) → H' pu = some (.lst us) → DpTAll K H' us ((unP lows none).map frd) → Q (.ref p) H'
theorem ok_left_of (T : Gs K mg) (F : At K mg "left_of" s_left_of) : Df P w K mg base "left_of" 1 ["roots", "others"] (spLeft K) := by
  have sc := sc_left_of
  refine Df.mk' F sc (fun vs H Q E h => ?_) (fun _ _ _ _ _ _ us hl => match us, hl with | [_, _], _ => rfl) (fun f cdv A outer s H vs Q E hr h => ?_)
  · obtain ⟨v, w, t, S, l, rfl, _⟩ := h
    rfl
  · obtain ⟨v, w', tops, S, lows, rfl, dt, dl, rs, l6, q⟩ := h
    have hu65 : (A.deeper (envOfC "left_of" (defScope s_left_of) s.heap.objs.size f cdv)).units + 65 < cLine := by
      have := hr.un
      omega
    refine ⟨_, (pss_cons (ps_par (i := 2) (j := 3) rfl sc.nd rfl rfl (by decide) rfl rfl (pa_cons (pe_callTy call_list_of (by rfl) T.list_ (by decide +kernel) (pa_cons (pv 0) pa_nil)) (pa_cons (pe_lst pa_nil) pa_nil)) (by rfl)) (pss_cons (ps_for PassesOwn.never rfl (pi_tup (pv 1)) (pg_name (i := 4) sc.nd rfl (.inl rfl)) (pss_one (ps_if (pt_cmpR (op_inD hu65) (pv 4) (pv 3) (by rfl)) (pss_one (ps_expr (pe_bm PySem.F.plainAttrs_list PySem.F.slot_list_remove PySem.F.type_list_remove (mt_removeD hu65) (pv 2) (pa_cons (pv 4) pa_nil)))) (pss_one (ps_expr (pe_bm PySem.F.plainAttrs_list PySem.F.slot_list_append PySem.F.type_list_append mt_append (pv 3) (pa_cons (pv 4) pa_nil))))))) (pss_one (ps_ret (pe_tup (pa_cons (pv 2) (pa_cons (pv 3) pa_nil))))))), ?_⟩
    obtain ⟨pt, ts, rfl, hpt, hts⟩ := dtTupQ dt
    obtain ⟨pl, ls, rfl, hpl, hls⟩ := dtTupQ dl
    have lts : ts.length = (tops ++ S).length := by rw [dtAll_len hts, List.length_map]
    have lls : ls.length = lows.length := by rw [dtAll_len hls, List.length_map]
    have ltl := rs.len
    have lap : (tops ++ S).length = tops.length + S.length := List.length_append
    refine ⟨_, rfl, pt, ts, rfl, .inr hpt, fun pk hpk => ?_⟩
    obtain ⟨H1, e1, s1, a1⟩ := (⟨_, rfl, same_upd hpk, upd_same⟩ : ∃ G, upd H pk (.lst ts) = G ∧ Same H G ∧ G pk = some (.lst ts))
    rw [e1]
    refine ⟨by show 0 ≤ sizeLine; decide, fun pu hpu => ?_⟩
    obtain ⟨H2, e2, s2, a2⟩ := (⟨_, rfl, same_upd hpu, upd_same⟩ : ∃ G, upd H1 pu (.lst []) = G ∧ Same H1 G ∧ G pu = some (.lst []))
    rw [e2]
    have s12 := s1.trans s2
    have nku : pk ≠ pu := fun z => by
      rw [z, hpu] at a1
      cases a1
    have hpu0 : H pu = none := by
      cases e : H pu with
      | none => rfl
      | some o =>
        have := s1 _ _ e
        rw [hpu] at this
        cases this
    refine ⟨_, _, rfl, ?_⟩
    refine ⟨_, rfl, pl, rfl, ⟨_, (Same.kt s12).sqT hpl⟩, for_tup (K := K) (a := pl) (xs := ls) (fun i σ H' => ∃ (y : Option V) (ks us : List V), σ = [some (.ref pt), some (.ref pl), some (.ref pk), some (.ref pu), y] ∧ Same H H' ∧ H' pk = some (.lst ks) ∧ H' pu = some (.lst us) ∧
        DpTAll K H' ks (((lows.take i).foldl lfStep (tops ++ S, [])).1.map frd) ∧ DpTAll K H' us (((lows.take i).foldl lfStep (tops ++ S, [])).2.map frd) ∧ us.length ≤ i ∧ ks.length ≤ 6)
      ⟨_, ts, [], rfl, s12, s2 _ _ a1, a2, hts.keep (Same.kt s12), .nil, Nat.le_refl 0, by omega⟩ (fun i σ H' _ ⟨_, _, _, _, sm, _⟩ => (Same.kt sm).sqT hpl) ?_ ?_⟩
    · rintro i x σ H3 hi ⟨y, ks, us, rfl, sm, hk, hu, dk, du, lu, lk⟩
      obtain ⟨o, ho, dx⟩ := fqGetV hls hi
      have dx3 := DpT.keep (Same.kt sm) dx
      have step : (lows.take (i + 1)).foldl lfStep (tops ++ S, []) = lfStep ((lows.take i).foldl lfStep (tops ++ S, [])) o := by
        rw [take_more ho, List.foldl_append]
        rfl
      have there := lf_thereS S rs ho
      rw [step]
      generalize (lows.take i).foldl lfStep (tops ++ S, []) = S at dk du there ⊢
      refine ⟨_, rfl, _, rfl, frd o, S.2.map frd, dx3.dp, .lst (SqL.of hu) du.dp, shaped_frd o, shaped_frds S.2, _, rfl, ?_⟩
      rw [any_eqv]
      refine if2 (fun e => ?_) (fun e => ?_)
      · have m := of_decide_eq_true e
        obtain ⟨j, j1, j2, j3⟩ := first_place (there m)
        refine ⟨_, rfl, .inl ⟨rfl, _, SqL.of hk⟩, _, rfl, pk, ks, x, frd o, S.1.map frd, j, frd o, rfl, rfl, hk, dk.dp, dx3.dp, shaped_frds S.1, shaped_frd o, by rw [List.getElem?_map, j1]; rfl, by rw [eqv_frd]; exact decide_eq_true rfl, fun m' z' hm hz => ?_, ?_⟩
        · rw [List.getElem?_map] at hz
          obtain ⟨q', hq', rfl⟩ := Option.map_eq_some_iff.mp hz
          rw [eqv_frd]
          exact decide_eq_false (j2 m' hm q' hq')
        · have st : lfStep S o = (S.1.erase o, S.2) := by
            unfold lfStep
            rw [if_pos m]
          rw [st, j3]
          have kk := kt_lst (o := .lst (ks.eraseIdx j)) hk
          refine ⟨_, ks.eraseIdx j, us, rfl, same_updN sm hpk, upd_same, by rw [upd_ne (Ne.symm nku)]; exact hu, ?_, du.keep kk, by omega, Nat.le_trans (List.length_eraseIdx_le ..) lk⟩
          rw [← map_eraseIdx]
          exact (dtAll_erase j dk).keep kk
      · have m := of_decide_eq_false e
        have i6 : i < 6 := by
          have := (List.getElem?_eq_some_iff.mp ho).1
          omega
        refine ⟨_, rfl, .inl ⟨rfl, _, SqL.of hu⟩, _, rfl, pu, us, x, rfl, rfl, hu, small1000 (by omega), ?_⟩
        have st : lfStep S o = (S.1, S.2 ++ [o]) := by
          unfold lfStep
          rw [if_neg m]
        rw [st]
        have kk := kt_lst (o := .lst (us ++ [x])) hu
        refine ⟨_, ks, us ++ [x], rfl, same_updN sm hpu0, by rw [upd_ne nku]; exact hk, upd_same, dk.keep kk, ?_, by rw [List.length_append]; exact Nat.succ_le_succ lu, lk⟩
        rw [List.map_append]
        exact dtAll_app (du.keep kk) (.cons (DpT.keep kk dx3) .nil)
    · rintro σ H3 ⟨y, ks, us, rfl, sm, hk, hu, dk, du, lu, lk⟩
      have e : lows.take ls.length = lows := by rw [lls, List.take_length]
      rw [e, lf_eqS S rs] at dk du
      refine ⟨_, rfl, _, rfl, by show 2 ≤ sizeLine; decide, fun p hp => ?_⟩
      have s4 := same_upd (o := .tup [.ref pk, .ref pu]) hp
      exact q _ p pk pu ks us (sm.trans s4) upd_same (s4 _ _ hk) (dk.keep (Same.kt s4)) (s4 _ _ hu) (du.keep (Same.kt s4))
end
end V3
namespace V3
open PySem.Spec PySem L2 PyProof.Rows RZ GxR
theorem op_neDK {X : Cx} {K : PySem.W.Frag} (h : X.K = K) (hu : X.A.units + 64 < cLine) : OpR X (compareOp .NotEq) (rNeD K) := by
  subst h
  exact op_neD hu
theorem told_get (kept un : List Rat) : ∀ (l : List Rat) (pv : Option Rat) (i : Nat) (b : Rat), l[i]? = some b → (toldR kept un l pv)[i]? = some (if (if i = 0 then pv else l[i - 1]?) = some b then 0 else sqP kept un b)
  | [], _, i, b, hnil => by simp at hnil
  | x :: r, pv, 0, b, h => by
    have e : x = b := Option.some.inj h
    subst e
    rfl
  | x :: r, pv, i + 1, b, h => by
    have k := told_get kept un r (some x) i b h
    show (toldR kept un r (some x))[i]? = _
    rw [k]
    congr 1
    cases i with
    | zero => rfl
    | succ n => rfl
theorem kp_sub : ∀ {as bs : List Rat} {pv : Option Rat}, ∀ x ∈ kpP as bs pv, x ∈ as
  | [], _, _, x, h => by
    unfold kpP at h
    cases h
  | _ :: _, [], _, x, h => by
    unfold kpP at h
    cases h
  | a :: as, b :: bs, pv, x, h => by
    have h : x ∈ (if pv = some b then kpP as bs (some b) else a :: kpP as bs (some b)) := h
    split at h
    · exact List.mem_cons_of_mem _ (kp_sub x h)
    · rcases List.mem_cons.mp h with z | z
      · rw [z]
        exact List.mem_cons_self
      · exact List.mem_cons_of_mem _ (kp_sub x z)
theorem un_le : ∀ (l : List Rat) (pv : Option Rat), (unP l pv).length ≤ l.length
  | [], _ => Nat.le_refl 0
  | b :: bs, pv => by
    have := un_le bs (some b)
    show (if pv = some b then unP bs (some b) else b :: unP bs (some b)).length ≤ bs.length + 1
    split
    · omega
    · rw [List.length_cons]
      omega
section
variable {mg : Str → Option Value} {base : Heap} {K : PySem.W.Frag} {P : Program} {w : World}
abbrev s_squares_beside : Stmt := topS 40
abbrev N_squares_beside : List Str := ["roots", "others", "kept", "unlike", "found", "index", "other", "rest", "number"]
theorem sc_squares_beside : FnScope N_squares_beside ["roots", "others"] (defScope s_squares_beside) := ⟨rfl, rfl, rfl, by decide +kernel, rfl, by decide +kernel, by decide +kernel⟩
def spSquares (K : PySem.W.Frag) : Sp := fun vs H Q _ => ∃ (v w : V) (tops S lows : List Rat), vs = [v, w] ∧ DpT K H v (rowQ (tops ++ S)) ∧ DpT K H w (rowQ lows) ∧ Rsd tops lows none ∧ (tops ++ S).length ≤ 6 ∧ (∀ x ∈ tops ++ S, Bq 150 x) ∧ (∀ x ∈ lows, Bq 150 x) ∧
  ∀ H' p ys, Same H H' → H' p = some (.lst ys) → DpTAll K H' ys ((toldR (kpP tops lows none ++ S) (unP lows none) lows none).map frd) → Q (.ref p) H'
theorem ok_squares_beside (T : Gs K mg) (D_left_of : Df P w K mg base "left_of" 1 ["roots", "others"] (spLeft K)) (D_over : Df P w K mg base "over" 2 ["one", "other"] (spR2 K (· / ·) fun y => y ≠ 0)) (D_product_beside : Df P w K mg base "product_beside" 3 ["numbers", "number"] (spProd K)) (F : At K mg "squares_beside" s_squares_beside) :
    Df P w K mg base "squares_beside" 4 ["roots", "others"] (spSquares K) := by
  have sc := sc_squares_beside
  obtain ⟨pN, gN, hN⟩ := T.NOUGHT
  refine Df.mk' F sc (fun vs H Q E h => ?_) (fun _ _ _ _ _ _ us hl => match us, hl with | [_, _], _ => rfl) (fun f cdv A outer s H vs Q E hr h => ?_)
  · obtain ⟨v, w, t, S, l, rfl, _⟩ := h
    rfl
  · obtain ⟨v, w', tops, S, lows, rfl, dt, dl, rs, l6, bt, bl, q⟩ := h
    refine ⟨_, (pss_cons (ps_asg (pe_fn D_left_of (by decide) hr (pa_cons (pv 0) (pa_cons (pv 1) pa_nil))) (pg_tup rfl (pgs_cons (pg_name (i := 2) sc.nd rfl (.inl rfl)) (pgs_cons (pg_name (i := 3) sc.nd rfl (.inl rfl)) pgs_nil)))) (pss_cons (ps_set (i := 4) sc.nd rfl (.inl rfl) (pe_lst pa_nil)) (pss_cons (ps_for PassesOwn.never rfl (pi_enumT (by rfl) T.enumerate (pa_cons (pv 1) pa_nil)) (pg_tup rfl (pgs_cons (pg_name (i := 5) sc.nd rfl (.inl rfl)) (pgs_cons (pg_name (i := 6) sc.nd rfl (.inr rfl)) pgs_nil))) (pss_one (ps_if (PW.pt (pw_and (pt_cmpR op_gt (pv 5) pe_int (nomark _)) (pw_and1 (pt_cmpR (op_eqD hr.units) (pv 6) (pe_ix ix_tup (pv 1) (pe_op op_sub (pv 5) pe_int) (fun _ _ => rfl)) (nomark _))))) (pss_one (ps_expr (pe_bm PySem.F.plainAttrs_list PySem.F.slot_list_append PySem.F.type_list_append mt_append (pv 4) (pa_cons (pe_glob (v := .ref pN) (by rfl) gN rfl) pa_nil)))) (pss_cons (ps_setLc (i := 7) (own := [("number", 8)]) (g := gName 8) rfl sc.nd rfl rfl (sw_true rfl rfl rfl (by decide +kernel)) (pi_list (pv 3)) (blkOk_by (own := [("number", 8)]) (N := N_squares_beside) (sc := defScope s_squares_beside) (by decide +kernel)) (fun _ _ _ _ _ => (pg_name (i := 8) sc.nd rfl (.inl rfl))) (fun _ _ _ _ _ => (pts_one (pt_cmpR (op_neDK (K := K) rfl hr.units) (pv 8) (pv 6) (nomark _)))) (fun _ _ _ _ _ => (pv 8))) (pss_one (ps_expr (pe_bm PySem.F.plainAttrs_list PySem.F.slot_list_append PySem.F.type_list_append mt_append (pv 4) (pa_cons (pe_fn D_over (by decide) hr (pa_cons (pe_fn D_product_beside (by decide) hr (pa_cons (pv 2) (pa_cons (pv 6) pa_nil))) (pa_cons (pe_fn D_product_beside (by decide) hr (pa_cons (pv 7) (pa_cons (pv 6) pa_nil))) pa_nil))) pa_nil)))))))) (pss_one (ps_ret (pv 4)))))), ?_⟩
    refine ⟨_, rfl, _, rfl, v, w', tops, S, lows, rfl, dt, dl, rs, l6, fun H1 p1 pk pu ks us s1 h1 hk dk hu du => ?_⟩
    refine ⟨p1, _, rfl, SqT.of h1, rfl, _, _, rfl, _, _, rfl, rfl, ?_⟩
    refine ⟨by show 0 ≤ sizeLine; decide, fun pf hpf => ?_⟩
    obtain ⟨H2, e2, s2, a2⟩ := (⟨_, rfl, same_upd hpf, upd_same⟩ : ∃ G, upd H1 pf (.lst []) = G ∧ Same H1 G ∧ G pf = some (.lst []))
    rw [e2]
    have hpf0 : H1 pf = none := hpf
    obtain ⟨pl, ls, rfl, hpl, hls⟩ := dtTupQ (DpT.keep (Same.kt s1) dl)
    have lls : ls.length = lows.length := by rw [dtAll_len hls, List.length_map]
    have lap : (tops ++ S).length = tops.length + S.length := List.length_append
    have ltl := rs.len
    have lun := Nat.le_trans (un_le lows none) (show lows.length ≤ 6 by omega)
    have lus : us.length ≤ 6 := by rw [fqLen du]; exact lun
    have lkn : (kpP tops lows none ++ S).length ≤ 6 := by
      have := un_le lows none
      rw [List.length_append, kp_len rs]
      omega
    have bk : ∀ z ∈ kpP tops lows none ++ S, Bq 150 z := fun z hz => bt z (by
      rcases List.mem_append.mp hz with h | h
      · exact List.mem_append_left _ (kp_sub z h)
      · exact List.mem_append_right _ h)
    have bu : ∀ z ∈ unP lows none, Bq 150 z := fun z hz => bl z (un_sub z hz)
    have ltold := told_len (kpP tops lows none ++ S) (unP lows none) lows none
    refine ⟨_, rfl, pl, ls, rfl, (Same.kt s2).sqT hpl, for_enumT (K := K) (a := pl) (xs := ls) (fun i σ H' => ∃ (y5 y6 y7 y8 : Option V) (fs : List V), σ = [some v, some (.ref pl), some (.ref pk), some (.ref pu), some (.ref pf), y5, y6, y7, y8] ∧ Same H1 H' ∧ H' pf = some (.lst fs) ∧
        DpTAll K H' fs (((toldR (kpP tops lows none ++ S) (unP lows none) lows none).take i).map frd) ∧ fs.length ≤ i)
      ⟨_, _, _, _, [], rfl, s2, a2, .nil, Nat.le_refl 0⟩ (fun i σ H' _ ⟨_, _, _, _, _, _, sm, _⟩ => (Same.kt sm).sqT hpl) ?_ ?_⟩
    · rintro i x T' σ H3 hi ⟨y5, y6, y7, y8, fs, rfl, sm, hf, df, lf⟩ hT
      obtain ⟨o, ho, dx⟩ := fqGetV hls hi
      have il : i < lows.length := (List.getElem?_eq_some_iff.mp ho).1
      have bo := bl o (List.mem_of_getElem? ho)
      have ti := told_get (kpP tops lows none ++ S) (unP lows none) lows none i o ho
      have s5' : Same H3 (upd H3 T' (.tup [.int (i : Nat), x])) := same_upd hT
      have hk := sm _ _ hk
      have hu := sm _ _ hu
      have dk := dk.keep (Same.kt sm)
      have du := du.keep (Same.kt sm)
      refine ⟨T', _, rfl, SqT.of upd_same, rfl, _, _, rfl, _, _, rfl, rfl, ?_⟩
      generalize upd H3 T' (.tup [.int (i : Nat), x]) = H5 at s5' ⊢
      have s5 := s5'
      have dx5 := DpT.keep (Same.kt (sm.trans s5)) dx
      refine ⟨_, rfl, _, _, rfl, rfl, _, rfl, if2 (fun e => ?_) (fun e => ?_)⟩
      · have e0 : 0 < i := by
          have := of_decide_eq_true e
          omega
        obtain ⟨j, rfl⟩ : ∃ j, i = j + 1 := ⟨i - 1, by omega⟩
        obtain ⟨o2, ho2⟩ : ∃ o2, lows[j]? = some o2 := ⟨lows[j], List.getElem?_eq_getElem (by omega)⟩
        obtain ⟨v', hv', dv'⟩ := fqGet hls ho2
        refine ⟨_, rfl, _, rfl, _, rfl, _, _, rfl, rfl, _, _, _, _, rfl, rfl, (Same.kt (sm.trans s5)).sqT hpl, at_of (j := j) (by omega) hv', ?_⟩
        refine ⟨frd o, frd o2, dx5.dp, (DpT.keep (Same.kt (sm.trans s5)) dv').dp, shaped_frd _, shaped_frd _, _, rfl, ?_⟩
        rw [eqv_frd]
        have ec : (if j + 1 = 0 then (none : Option Rat) else lows[j + 1 - 1]?) = some o2 := by
          rw [if_neg (by omega)]
          exact ho2
        rw [ec] at ti
        refine if2 (fun e3 => ?_) (fun e3 => ?_)
        · have eo : o = o2 := of_decide_eq_true e3
          rw [if_pos (by rw [eo])] at ti
          refine ⟨_, rfl, .inl ⟨rfl, _, SqL.of (s5 _ _ hf)⟩, pf, fs, _, rfl, rfl, s5 _ _ hf, small1000 (by omega), ?_⟩
          have kk := kt_lst (o := .lst (fs ++ [.ref pN])) (s5 _ _ hf)
          refine ⟨_, _, _, _, fs ++ [.ref pN], rfl, same_updN (sm.trans s5) hpf0, upd_same, ?_, by rw [List.length_append]; exact Nat.succ_le_succ lf⟩
          rw [take_more ti, List.map_append]
          exact dtAll_app ((df.keep (Same.kt s5)).keep kk) (.cons (.tup (hN _) (.cons (.int _) (.cons (.int _) .nil))) .nil)
        · have no : ¬ o = o2 := of_decide_eq_false e3
          have tv : (if some o2 = some o then (0 : Rat) else sqP (kpP tops lows none ++ S) (unP lows none) o) = prB (kpP tops lows none ++ S) o / prB (woP o (unP lows none)) o := by
            rw [if_neg (fun z => no (Option.some.inj z).symm)]
            rfl
          refine ⟨_, rfl, pu, rfl, ⟨_, SqL.of (s5 _ _ hu)⟩, fun D hD => lc_list (K := K) (a := pu) (xs := us) (fun j H' => Same H5 H' ∧ ∃ rs, H' D = some (.lst rs) ∧ DpTAll K H' rs ((((unP lows none).take j).filter fun x => decide (x ≠ o)).map frd) ∧ rs.length ≤ j)
            ⟨same_upd hD, [], upd_same, .nil, Nat.le_refl 0⟩ (fun j H' _ h => SqL.of (h.1 _ _ (s5 _ _ hu))) ?_ ?_⟩
          · rintro j x2 H6 hj ⟨sm6, rs2, hr2, ar2, lr2⟩
            obtain ⟨z, hz, dz⟩ := fqGetV (du.keep (Same.kt s5)) hj
            have il2 := (List.getElem?_eq_some_iff.mp hj).1
            have dz6 := DpT.keep (Same.kt sm6) dz
            have dx6 := DpT.keep (Same.kt sm6) dx5
            refine ⟨rfl, ?_⟩
            refine ⟨_, rfl, _, rfl, frd z, frd o, dz6.dp, dx6.dp, shaped_frd _, shaped_frd _, _, rfl, ?_⟩
            rw [eqv_frd]
            refine if2 (fun c => ?_) (fun c => ?_)
            · have ne : z ≠ o := fun y => by simp [y] at c
              refine ⟨_, rfl, rs2, hr2, small1000 (by omega), same_updN sm6 hD, rs2 ++ [x2], upd_same, ?_, by rw [List.length_append]; exact Nat.succ_le_succ lr2⟩
              rw [take_more hz, List.filter_append, List.filter_cons_of_pos (by simpa using ne), List.filter_nil, List.map_append]
              exact dtAll_app (ar2.keep (kt_lst hr2)) (.cons (DpT.keep (kt_lst hr2) dz6) .nil)
            · have eq : z = o := by simpa using c
              refine ⟨sm6, rs2, hr2, ?_, by omega⟩
              rw [take_more hz, List.filter_append, List.filter_cons_of_neg (by simpa using eq), List.filter_nil, List.append_nil]
              exact ar2
          rintro H6 ⟨sm6, rs2, hr2, ar2, lr2⟩
          have eu : (unP lows none).take us.length = unP lows none := by rw [fqLen du, List.take_length]
          rw [eu] at ar2
          have ar2 : DpTAll K H6 rs2 ((woP o (unP lows none)).map frd) := ar2
          have lw : (woP o (unP lows none)).length ≤ 6 := Nat.le_trans (List.length_filter_le _ _) lun
          have s36 := s5.trans sm6
          refine ⟨_, rfl, .inl ⟨rfl, _, SqL.of (s36 _ _ hf)⟩, ?_⟩
          refine ⟨_, rfl, _, rfl, pk, _, ks, _, o, rfl, s36 _ _ hk, dk.keep (Same.kt s36), lkn, bk, DpT.keep (Same.kt sm6) dx5, bo, fun H7 v7 s7 d7 b7 => ?_⟩
          refine ⟨_, rfl, _, rfl, D, _, rs2, _, o, rfl, s7 _ _ hr2, ar2.keep (Same.kt s7), lw, fun z hz => bu z (List.mem_filter.mp hz).1, DpT.keep (Same.kt (sm6.trans s7)) dx5, bo, fun H8 v8 s8 d8 b8 => ?_⟩
          have ne8 : prB (woP o (unP lows none)) o ≠ 0 := by
            rw [prB_sg]
            intro z
            rcases Rat.mul_eq_zero.mp z with y | y
            · have := sg_sq (woP o (unP lows none)).length
              rw [y] at this
              grind
            · exact prG_ne (wo_not o _) y
          refine ⟨_, _, _, _, rfl, fqSame d7 s8, d8, b7.mono (by decide), b8.mono (by decide), ne8, fun H9 p9 s9 h9 => ?_⟩
          have s39 := s36.trans (s7.trans (s8.trans s9))
          refine ⟨pf, fs, _, rfl, rfl, s39 _ _ hf, small1000 (by omega), ?_⟩
          have kk := kt_lst (o := .lst (fs ++ [.ref p9])) (s39 _ _ hf)
          have dq := fqO (K := K) h9
          refine ⟨_, _, _, _, fs ++ [.ref p9], rfl, ?_, by rw [upd_same], ?_, by rw [List.length_append]; exact Nat.succ_le_succ lf⟩
          · exact same_updN (sm.trans s39) hpf0
          · rw [take_more ti, List.map_append]
            refine dtAll_app ((df.keep (Same.kt s39)).keep kk) (.cons (DpT.keep kk ?_) .nil)
            rw [tv]
            exact dq
      · have e0 : i = 0 := by
          have := of_decide_eq_false e
          omega
        have tv : (if (if i = 0 then (none : Option Rat) else lows[i - 1]?) = some o then (0 : Rat) else sqP (kpP tops lows none ++ S) (unP lows none) o) = prB (kpP tops lows none ++ S) o / prB (woP o (unP lows none)) o := by
          rw [if_pos e0, if_neg (fun z => by cases z)]
          rfl
        refine iteF ?_
        refine ⟨_, rfl, pu, rfl, ⟨_, SqL.of (s5 _ _ hu)⟩, fun D hD => lc_list (K := K) (a := pu) (xs := us) (fun j H' => Same H5 H' ∧ ∃ rs, H' D = some (.lst rs) ∧ DpTAll K H' rs ((((unP lows none).take j).filter fun x => decide (x ≠ o)).map frd) ∧ rs.length ≤ j)
          ⟨same_upd hD, [], upd_same, .nil, Nat.le_refl 0⟩ (fun j H' _ h => SqL.of (h.1 _ _ (s5 _ _ hu))) ?_ ?_⟩
        · rintro j x2 H6 hj ⟨sm6, rs2, hr2, ar2, lr2⟩
          obtain ⟨z, hz, dz⟩ := fqGetV (du.keep (Same.kt s5)) hj
          have il2 := (List.getElem?_eq_some_iff.mp hj).1
          have dz6 := DpT.keep (Same.kt sm6) dz
          have dx6 := DpT.keep (Same.kt sm6) dx5
          refine ⟨rfl, ?_⟩
          refine ⟨_, rfl, _, rfl, frd z, frd o, dz6.dp, dx6.dp, shaped_frd _, shaped_frd _, _, rfl, ?_⟩
          rw [eqv_frd]
          refine if2 (fun c => ?_) (fun c => ?_)
          · have ne : z ≠ o := fun y => by simp [y] at c
            refine ⟨_, rfl, rs2, hr2, small1000 (by omega), same_updN sm6 hD, rs2 ++ [x2], upd_same, ?_, by rw [List.length_append]; exact Nat.succ_le_succ lr2⟩
            rw [take_more hz, List.filter_append, List.filter_cons_of_pos (by simpa using ne), List.filter_nil, List.map_append]
            exact dtAll_app (ar2.keep (kt_lst hr2)) (.cons (DpT.keep (kt_lst hr2) dz6) .nil)
          · have eq : z = o := by simpa using c
            refine ⟨sm6, rs2, hr2, ?_, by omega⟩
            rw [take_more hz, List.filter_append, List.filter_cons_of_neg (by simpa using eq), List.filter_nil, List.append_nil]
            exact ar2
        rintro H6 ⟨sm6, rs2, hr2, ar2, lr2⟩
        have eu : (unP lows none).take us.length = unP lows none := by rw [fqLen du, List.take_length]
        rw [eu] at ar2
        have ar2 : DpTAll K H6 rs2 ((woP o (unP lows none)).map frd) := ar2
        have lw : (woP o (unP lows none)).length ≤ 6 := Nat.le_trans (List.length_filter_le _ _) lun
        have s36 := s5.trans sm6
        refine ⟨_, rfl, .inl ⟨rfl, _, SqL.of (s36 _ _ hf)⟩, ?_⟩
        refine ⟨_, rfl, _, rfl, pk, _, ks, _, o, rfl, s36 _ _ hk, dk.keep (Same.kt s36), lkn, bk, DpT.keep (Same.kt sm6) dx5, bo, fun H7 v7 s7 d7 b7 => ?_⟩
        refine ⟨_, rfl, _, rfl, D, _, rs2, _, o, rfl, s7 _ _ hr2, ar2.keep (Same.kt s7), lw, fun z hz => bu z (List.mem_filter.mp hz).1, DpT.keep (Same.kt (sm6.trans s7)) dx5, bo, fun H8 v8 s8 d8 b8 => ?_⟩
        have ne8 : prB (woP o (unP lows none)) o ≠ 0 := by
          rw [prB_sg]
          intro z
          rcases Rat.mul_eq_zero.mp z with y | y
          · have := sg_sq (woP o (unP lows none)).length
            rw [y] at this
            grind
          · exact prG_ne (wo_not o _) y
        refine ⟨_, _, _, _, rfl, fqSame d7 s8, d8, b7.mono (by decide), b8.mono (by decide), ne8, fun H9 p9 s9 h9 => ?_⟩
        have s39 := s36.trans (s7.trans (s8.trans s9))
        refine ⟨pf, fs, _, rfl, rfl, s39 _ _ hf, small1000 (by omega), ?_⟩
        have kk := kt_lst (o := .lst (fs ++ [.ref p9])) (s39 _ _ hf)
        have dq := fqO (K := K) h9
        refine ⟨_, _, _, _, fs ++ [.ref p9], rfl, ?_, by rw [upd_same], ?_, by rw [List.length_append]; exact Nat.succ_le_succ lf⟩
        · exact same_updN (sm.trans s39) hpf0
        · rw [take_more ti, List.map_append]
          refine dtAll_app ((df.keep (Same.kt s39)).keep kk) (.cons (DpT.keep kk ?_) .nil)
          rw [tv]
          exact dq
    · rintro σ H3 ⟨y5, y6, y7, y8, fs, rfl, sm, hf, df, lf⟩
      have e : (toldR (kpP tops lows none ++ S) (unP lows none) lows none).take ls.length = toldR (kpP tops lows none ++ S) (unP lows none) lows none := List.take_of_length_le (by omega)
      rw [e] at df
      exact ⟨_, rfl, q H3 pf fs (s1.trans sm) hf df⟩
end
end V3
namespace V3
open PySem.Spec PySem L2 PyProof.Rows RZ GxR
section
variable {mg : Str → Option Value} {base : Heap} {K : PySem.W.Frag} {P : Program} {w : World}
abbrev s_check_fraction : Stmt := topS 24
abbrev N_check_fraction : List Str := ["number"]
theorem sc_check_fraction : FnScope N_check_fraction ["number"] (defScope s_check_fraction) := ⟨rfl, rfl, rfl, by decide +kernel, rfl, by decide +kernel, by decide +kernel⟩
def spCheckFr (K : PySem.W.Frag) : Sp := fun vs H Q _ => ∃ v x, vs = [v] ∧ DpT K H v (frd x) ∧ Q .non H
theorem ok_check_fraction (T : Gs K mg) (D_is_fraction : Df P w K mg base "is_fraction" 2 ["value"] (spIsFr K)) (F : At K mg "check_fraction" s_check_fraction) : Df P w K mg base "check_fraction" 3 ["number"] (spCheckFr K) := by
  have sc := sc_check_fraction
  refine Df.mk' F sc (fun vs H Q E h => ?_) (fun _ _ _ _ _ _ us hl => match us, hl with | [_], _ => rfl) (fun f cdv A outer s H vs Q E hr h => ?_)
  · obtain ⟨v, x, rfl, _⟩ := h
    rfl
  · obtain ⟨v, x, rfl, hx, q⟩ := h
    refine ⟨_, (pss_one (ps_if (pt_not (pt_val (pe_fn D_is_fraction (by decide) hr (pa_cons (pv 0) pa_nil)))) (pss_one ps_never) pss_nil)), ?_⟩
    exact ⟨_, rfl, _, x, rfl, hx, _, rfl, ifF rfl q⟩
abbrev s_first_unlike_fraction : Stmt := topS 23
abbrev N_first_unlike_fraction : List Str := ["values", "index", "value"]
theorem sc_first_unlike_fraction : FnScope N_first_unlike_fraction ["values"] (defScope s_first_unlike_fraction) := ⟨rfl, rfl, rfl, by decide +kernel, rfl, by decide +kernel, by decide +kernel⟩
def spUnlike (K : PySem.W.Frag) : Sp := fun vs H Q _ => ∃ (p : Addr) (xs : List V) (qs : List Rat), vs = [.ref p] ∧ SqT K H p xs ∧ DpTAll K H xs (qs.map frd) ∧ ∀ H', Same H H' → Q .non H'
theorem ok_first_unlike_fraction (T : Gs K mg) (D_is_fraction : Df P w K mg base "is_fraction" 2 ["value"] (spIsFr K)) (F : At K mg "first_unlike_fraction" s_first_unlike_fraction) : Df P w K mg base "first_unlike_fraction" 3 ["values"] (spUnlike K) := by
  have sc := sc_first_unlike_fraction
  refine Df.mk' F sc (fun vs H Q E h => ?_) (fun _ _ _ _ _ _ us hl => match us, hl with | [_], _ => rfl) (fun f cdv A outer s H vs Q E hr h => ?_)
  · obtain ⟨p, xs, qs, rfl, _⟩ := h
    rfl
  · obtain ⟨p, xs, qs, rfl, hp, ha, q⟩ := h
    refine ⟨_, (pss_cons (ps_for PassesOwn.never rfl (pi_enumT (by rfl) T.enumerate (pa_cons (pv 0) pa_nil)) (pg_tup rfl (pgs_cons (pg_name (i := 1) sc.nd rfl (.inl rfl)) (pgs_cons (pg_name (i := 2) sc.nd rfl (.inl rfl)) pgs_nil))) (pss_one (ps_if (pt_not (pt_val (pe_fn D_is_fraction (by decide) hr (pa_cons (pv 2) pa_nil)))) (pss_one (ps_ret (pv 1))) pss_nil))) (pss_one (ps_ret pe_non))), ?_⟩
    refine ⟨_, rfl, p, xs, rfl, hp, for_enumT (K := K) (a := p) (xs := xs) (fun i σ H' => (∃ y z, σ = [some (.ref p), y, z]) ∧ Same H H') ⟨⟨none, none, rfl⟩, Same.refl _⟩ (fun i σ H' _ h => sameT h.2 hp) ?_ ?_⟩
    · rintro i x T' σ H' hi ⟨⟨y, z, rfl⟩, sm⟩ hT
      obtain ⟨qq, hq, hdp⟩ := fqGetV ha hi
      have sm2 : Same H (upd H' T' (.tup [.int (i : Nat), x])) := sm.trans (same_upd hT)
      refine ⟨T', _, rfl, SqT.of upd_same, rfl, _, _, rfl, _, _, rfl, rfl, ?_⟩
      exact ⟨_, rfl, _, qq, rfl, fqSame hdp sm2, _, rfl, ifF rfl ⟨⟨_, _, rfl⟩, sm2⟩⟩
    · rintro σ H' ⟨_, sm⟩
      exact q H' sm
end
end V3
namespace V3
open PySem.Spec PySem L2 PyProof.Rows RZ GxR
section
variable {mg : Str → Option Value} {base : Heap} {K : PySem.W.Frag} {P : Program} {w : World}
abbrev s_check_row : Stmt := topS 25
abbrev N_check_row : List Str := ["row", "size", "wrong"]
theorem sc_check_row : FnScope N_check_row ["row", "size"] (defScope s_check_row) := ⟨rfl, rfl, rfl, by decide +kernel, rfl, by decide +kernel, by decide +kernel⟩
def spCheckRow (K : PySem.W.Frag) : Sp := fun vs H Q _ => ∃ (p : Addr) (n : Int) (xs : List V) (qs : List Rat), vs = [.ref p, .int n] ∧ SqT K H p xs ∧ DpTAll K H xs (qs.map frd) ∧ n = (xs.length : Int) ∧ ∀ H', Same H H' → Q .non H'
theorem ok_check_row (T : Gs K mg) (D_is_tuple_of : Df P w K mg base "is_tuple_of" 1 ["value", "size"] (spTupOf K)) (D_first_unlike_fraction : Df P w K mg base "first_unlike_fraction" 3 ["values"] (spUnlike K)) (F : At K mg "check_row" s_check_row) : Df P w K mg base "check_row" 4 ["row", "size"] (spCheckRow K) := by
  have sc := sc_check_row
  refine Df.mk' F sc (fun vs H Q E h => ?_) (fun _ _ _ _ _ _ us hl => match us, hl with | [_, _], _ => rfl) (fun f cdv A outer s H vs Q E hr h => ?_)
  · obtain ⟨p, n, xs, qs, rfl, _⟩ := h
    rfl
  · obtain ⟨p, n, xs, qs, rfl, hp, ha, e, q⟩ := h
    refine ⟨_, (pss_cons (ps_if (pt_not (pt_val (pe_fn D_is_tuple_of (by decide) hr (pa_cons (pv 0) (pa_cons (pv 1) pa_nil))))) (pss_one ps_never) pss_nil) (pss_cons (ps_set (i := 2) sc.nd rfl (.inl rfl) (pe_fn D_first_unlike_fraction (by decide) hr (pa_cons (pv 0) pa_nil))) (pss_one (ps_if (pt_cmpR op_notN (pv 2) pe_non (nomark _)) (pss_one ps_never) pss_nil)))), ?_⟩
    refine ⟨_, rfl, _, rfl, p, xs, n, rfl, hp, _, rfl, ifF (by simp [e]) ?_⟩
    refine ⟨_, rfl, p, xs, qs, rfl, hp, ha, fun H' sm => ?_⟩
    exact ⟨_, rfl, rfl, _, rfl, ifF rfl (q H' sm)⟩
abbrev s_check_squares : Stmt := topS 27
abbrev N_check_squares : List Str := ["squares", "size", "index", "square"]
theorem sc_check_squares : FnScope N_check_squares ["squares", "size"] (defScope s_check_squares) := ⟨rfl, rfl, rfl, by decide +kernel, rfl, by decide +kernel, by decide +kernel⟩
def spCheckSqs (K : PySem.W.Frag) : Sp := fun vs H Q _ => ∃ (p : Addr) (n : Int) (xs : List V) (qs : List Rat), vs = [.ref p, .int n] ∧ SqT K H p xs ∧ DpTAll K H xs (qs.map frd) ∧ n = (xs.length : Int) ∧ (∀ z ∈ qs, 0 ≤ z) ∧ ∀ H', Same H H' → Q .non H'
theorem ok_check_squares (T : Gs K mg) (D_is_tuple_of : Df P w K mg base "is_tuple_of" 1 ["value", "size"] (spTupOf K)) (D_is_fraction : Df P w K mg base "is_fraction" 2 ["value"] (spIsFr K)) (F : At K mg "check_squares" s_check_squares) : Df P w K mg base "check_squares" 4 ["squares", "size"] (spCheckSqs K) := by
  have sc := sc_check_squares
  refine Df.mk' F sc (fun vs H Q E h => ?_) (fun _ _ _ _ _ _ us hl => match us, hl with | [_, _], _ => rfl) (fun f cdv A outer s H vs Q E hr h => ?_)
  · obtain ⟨p, n, xs, qs, rfl, _⟩ := h
    rfl
  · obtain ⟨p, n, xs, qs, rfl, hp, ha, e, nn, q⟩ := h
    refine ⟨_, (pss_cons (ps_if (pt_not (pt_val (pe_fn D_is_tuple_of (by decide) hr (pa_cons (pv 0) (pa_cons (pv 1) pa_nil))))) (pss_one ps_never) pss_nil) (pss_one (ps_for PassesOwn.never rfl (pi_enumT (by rfl) T.enumerate (pa_cons (pv 0) pa_nil)) (pg_tup rfl (pgs_cons (pg_name (i := 2) sc.nd rfl (.inl rfl)) (pgs_cons (pg_name (i := 3) sc.nd rfl (.inl rfl)) pgs_nil))) (pss_one (ps_if (PW.pt (pw_or (pt_not (pt_val (pe_fn D_is_fraction (by decide) hr (pa_cons (pv 3) pa_nil)))) (pw_or1 (pt_cmpR op_lt (pe_ix ix_tup (pv 3) pe_int (fun _ _ => rfl)) pe_int (nomark _))))) (pss_one ps_never) pss_nil))))), ?_⟩
    refine ⟨_, rfl, _, rfl, p, xs, n, rfl, hp, _, rfl, ifF (by simp [e]) ?_⟩
    refine ⟨_, rfl, p, xs, rfl, hp, for_enumT (K := K) (a := p) (xs := xs) (fun i σ H' => (∃ y z, σ = [some (.ref p), some (.int n), y, z]) ∧ Same H H') ⟨⟨none, none, rfl⟩, Same.refl _⟩ (fun i σ H' _ h => sameT h.2 hp) ?_ ?_⟩
    · rintro i x T' σ H' hi ⟨⟨y, z, rfl⟩, sm⟩ hT
      obtain ⟨qq, hq, hdp⟩ := fqGetV ha hi
      have sm2 : Same H (upd H' T' (.tup [.int (i : Nat), x])) := sm.trans (same_upd hT)
      have d2 := fqSame hdp sm2
      refine ⟨T', _, rfl, SqT.of upd_same, rfl, _, _, rfl, _, _, rfl, rfl, ?_⟩
      obtain ⟨pq, rfl, hpq⟩ := fqT d2
      refine ⟨_, rfl, _, qq, rfl, d2, _, rfl, ifF rfl ?_⟩
      refine ⟨_, rfl, _, _, _, _, rfl, rfl, hpq, rfl, ?_⟩
      exact ⟨_, _, rfl, rfl, _, rfl, ifF (decide_eq_false (Int.not_lt.mpr (Rat.num_nonneg.mpr (nn qq (List.mem_of_getElem? hq))))) ⟨⟨_, _, rfl⟩, sm2⟩⟩
    · rintro σ H' ⟨_, sm⟩
      exact q H' sm
end
end V3
namespace V3
open PySem.Spec PySem L2 PyProof.Rows RZ GxR
section
variable {mg : Str → Option Value} {base : Heap} {K : PySem.W.Frag} {P : Program} {w : World}
abbrev s_check_row_up_to : Stmt := topS 26
abbrev N_check_row_up_to : List Str := ["row", "most"]
theorem sc_check_row_up_to : FnScope N_check_row_up_to ["row", "most"] (defScope s_check_row_up_to) := ⟨rfl, rfl, rfl, by decide +kernel, rfl, by decide +kernel, by decide +kernel⟩
def spRowUp (K : PySem.W.Frag) : Sp := fun vs H Q _ => ∃ (p : Addr) (n : Int) (xs : List V) (qs : List Rat), vs = [.ref p, .int n] ∧ SqT K H p xs ∧ DpTAll K H xs (qs.map frd) ∧ 1 ≤ xs.length ∧ (xs.length : Int) ≤ n ∧ ∀ H', Same H H' → Q .non H'
theorem ok_check_row_up_to (T : Gs K mg) (D_check_row : Df P w K mg base "check_row" 4 ["row", "size"] (spCheckRow K)) (F : At K mg "check_row_up_to" s_check_row_up_to) : Df P w K mg base "check_row_up_to" 5 ["row", "most"] (spRowUp K) := by
  have sc := sc_check_row_up_to
  refine Df.mk' F sc (fun vs H Q E h => ?_) (fun _ _ _ _ _ _ us hl => match us, hl with | [_, _], _ => rfl) (fun f cdv A outer s H vs Q E hr h => ?_)
  · obtain ⟨p, n, xs, qs, rfl, _⟩ := h
    rfl
  · obtain ⟨p, n, xs, qs, rfl, hp, ha, l1, ln, q⟩ := h
    refine ⟨_, (pss_cons (ps_if (PW.pt (pw_or (pt_cmpR op_notTyB (pe_callTy call_type1 (by rfl) T.type_ (by decide +kernel) (pa_cons (pv 0) pa_nil)) (pe_bltn (v := .ty "tuple") (by rfl) T.tuple_ (by decide +kernel) rfl) (nomark _)) (pw_or1 (pt_not (pt_chain op_le op_le pe_int (pe_callB call_len_seq (by rfl) T.len PySem.boot_len (pa_cons (pv 0) pa_nil)) (pv 1)))))) (pss_one ps_never) pss_nil) (pss_one (ps_expr (pe_fn D_check_row (by decide) hr (pa_cons (pv 0) (pa_cons (pe_callB call_len_seq (by rfl) T.len PySem.boot_len (pa_cons (pv 0) pa_nil)) pa_nil)))))), ?_⟩
    refine ⟨_, rfl, _, _, rfl, .tup hp, _, _, rfl, rfl, _, rfl, ifF (by decide) ?_⟩
    refine ⟨_, rfl, _, _, rfl, .inr hp, _, _, rfl, rfl, ?_⟩
    refine ⟨_, rfl, ifT (decide_eq_true (by omega)) ?_⟩
    refine ⟨_, rfl, _, _, rfl, rfl, _, rfl, ifF (by simp [ln]) ?_⟩
    exact ⟨_, rfl, _, rfl, _, _, rfl, .inr hp, p, _, xs, qs, rfl, hp, ha, rfl, q⟩
abbrev s_check_beside : Stmt := topS 43
abbrev N_check_beside : List Str := ["along", "squares"]
theorem sc_check_beside : FnScope N_check_beside ["along", "squares"] (defScope s_check_beside) := ⟨rfl, rfl, rfl, by decide +kernel, rfl, by decide +kernel, by decide +kernel⟩
def spBeside (K : PySem.W.Frag) : Sp := fun vs H Q _ => ∃ (p1 p2 : Addr) (xs ys : List V) (qs rs : List Rat), vs = [.ref p1, .ref p2] ∧ SqT K H p1 xs ∧ DpTAll K H xs (qs.map frd) ∧ SqT K H p2 ys ∧ DpTAll K H ys (rs.map frd) ∧ 1 ≤ xs.length ∧ xs.length ≤ 5 ∧ ys.length = xs.length ∧ (∀ z ∈ rs, 0 ≤ z) ∧ ∀ H', Same H H' → Q .non H'
theorem ok_check_beside (T : Gs K mg) (D_check_row_up_to : Df P w K mg base "check_row_up_to" 5 ["row", "most"] (spRowUp K)) (D_check_squares : Df P w K mg base "check_squares" 4 ["squares", "size"] (spCheckSqs K)) (F : At K mg "check_beside" s_check_beside) : Df P w K mg base "check_beside" 6 ["along", "squares"] (spBeside K) := by
  have sc := sc_check_beside
  obtain ⟨tk, hM⟩ := T.ROWS
  refine Df.mk' F sc (fun vs H Q E h => ?_) (fun _ _ _ _ _ _ us hl => match us, hl with | [_, _], _ => rfl) (fun f cdv A outer s H vs Q E hr h => ?_)
  · obtain ⟨p1, p2, xs, ys, qs, rs, rfl, _⟩ := h
    rfl
  · obtain ⟨p1, p2, xs, ys, qs, rs, rfl, h1, a1, h2, a2, l1, l5, le, nn, q⟩ := h
    refine ⟨_, (pss_cons (ps_expr (pe_fn D_check_row_up_to (by decide) hr (pa_cons (pv 0) (pa_cons (pe_glob (v := .int 5) (by rfl) hM ⟨_, rfl⟩) pa_nil)))) (pss_one (ps_expr (pe_fn D_check_squares (by decide) hr (pa_cons (pv 1) (pa_cons (pe_callB call_len_seq (by rfl) T.len PySem.boot_len (pa_cons (pv 0) pa_nil)) pa_nil)))))), ?_⟩
    refine ⟨_, rfl, p1, 5, xs, qs, rfl, h1, a1, l1, by omega, fun H' sm => ?_⟩
    have k1 := sameT sm h1
    have k2 := sameT sm h2
    exact ⟨_, rfl, _, rfl, _, _, rfl, .inr k1, p2, _, ys, rs, rfl, k2, a2.keep (Same.kt sm), by rw [le], nn, fun H2 s2 => q H2 (sm.trans s2)⟩
end
end V3
/-! Inside a generator expression: a test, one value or another, tuples of data compared. -/
namespace V3
open PySem.Spec PySem L2 PyProof.Rows GxR RZ
section
variable {P : Program} {w : World} {K : PySem.W.Frag} {H : Hp} {h : Heap}
theorem sqT_there {a : Addr} {xs : List V} (ok : HOk P w H h) (kin : K.In h) (q : SqT K H a xs) : ∃ its : List Value, Vals xs its ∧ IsTup h a its.toArray := by
  rcases q with z | ⟨o, its, n, hk, hc, hs2, hz, r⟩
  · obtain ⟨z, its, r, pp⟩ := z.ok ok
    exact ⟨its, r, pp⟩
  · exact ⟨its.toList, r, ⟨o, kin a o hk, hc, n, by simpa using hs2⟩⟩
mutual
theorem DpT.readsH (ok : HOk P w H h) (kin : K.In h) : ∀ (d : PyData) (v : V) (u : Value), DpT K H v d → RelV v u → ∃ as, Reads h u d as
  | .none, _, _, g, r => by
    cases g
    cases r
    exact ⟨_, Reads.none⟩
  | .bool b, _, _, g, r => by
    cases g
    cases r
    exact ⟨_, Reads.bool b⟩
  | .int i, _, _, g, r => by
    cases g
    obtain ⟨t, rfl⟩ := r
    exact ⟨_, Reads.int i t⟩
  | .str x, _, _, g, r => by
    cases g
    obtain ⟨t, rfl⟩ := r
    exact ⟨_, Reads.str x t⟩
  | .list _, _, _, g, _ => by cases g
  | .tuple ds, _, _, g, r => by
    cases g with
    | tup hs ha =>
      cases r
      obtain ⟨its, rv, ⟨o, ho, hc, n, hd⟩⟩ := sqT_there ok kin hs
      obtain ⟨as, hr⟩ := DpT.readsAllH ok kin ds _ its ha rv
      (exact ⟨_, Reads.tuple ho hc hd hr⟩)
  | .dict _, _, _, g, _ => by cases g
theorem DpT.readsAllH (ok : HOk P w H h) (kin : K.In h) : ∀ (ds : List PyData) (vs : List V) (us : List Value), DpTAll K H vs ds → Vals vs us → ∃ as, ReadsAll h us ds as
  | [], _, _, g, r => by
    cases g
    cases r
    exact ⟨_, ReadsAll.nil⟩
  | d :: ds, _, _, g, r => by
    cases g with
    | cons h1 h2 =>
      cases r with
      | cons r1 r2 =>
        obtain ⟨as, q1⟩ := DpT.readsH ok kin d _ _ h1 r1
        obtain ⟨bs, q2⟩ := DpT.readsAllH ok kin ds _ _ h2 r2
        (exact ⟨_, ReadsAll.cons q1 q2⟩)
end
end
section
variable {X : Cx} {H : Hp} {h : Heap} {σ : L2.St} {scope : Scope} {ce : Env} {B : Around} {mp : Str → Option Value} {Ok : Shared → Prop} {e e1 e2 : Expr} {P P1 P2 : V → Prop}
/-- what a test tells inside the frame -/
def GB (X : Cx) (ce : Env) (B : Around) (Ok : Shared → Prop) (e : Expr) (b : Bool) : Prop :=
  ∀ (Ex : Value → Shared → Prop) (t : Shared), Ok t → wpAny (model X.prog X.w) B (isTrue e ce (eval e ce)) (fun c t' => c = b ∧ KeptG (frs (ce :: X.stack)) t t') Ex t
theorem gb_val {b : Bool} (a : GE X ce B Ok e (· = .bl b)) (he : ∀ whole, isTrue e ce whole = (do let v ← whole; standAt e.pos; holding [v] (truthy v)) := by intro _; rfl) : GB X ce B Ok e b := fun Ex t ok => by
  refine isTrue_plain (thn (a Ex t ok) fun u1 t1 ⟨⟨x, r1, p1⟩, k1⟩ => ?_) (he _)
  subst p1
  cases r1
  exact wpAny_truthy_bool ⟨rfl, k1⟩
theorem gb_cmp {p : Pos} {op : CmpOp} {f : Int → Int → Bool} {c : Bool} (G : GF X H h σ scope ce B mp Ok) (a : GE X ce B Ok e1 P1) (b : GE X ce B Ok e2 P2) (hm : behindInMarks op e2 = false)
    (rule : ∀ (i j : Int) (t u : Tok) (Q E : Value → Shared → Prop) (s : Shared), Q (.bool (f i j)) s → wpAny (model X.prog X.w) B (compareOp op (.int i t) (.int j u)) Q E s)
    (q : ∀ x y, P1 x → P2 y → ∃ i j, x = .int i ∧ y = .int j ∧ f i j = c) : GB X ce B Ok (.Compare e1 [op] [e2] p) c := fun Ex t ok => by
  refine wpAny_isTrue_Compare1 (thn (a Ex t ok) fun u1 t1 ⟨⟨x, r1, p1⟩, k1⟩ => thn (b Ex t1 (G.next _ _ ok k1)) fun u2 t2 ⟨⟨y, r2, p2⟩, k2⟩ => ?_) (by first | exact hm | assumption)
  obtain ⟨i, j, rfl, rfl, pv⟩ := q x y p1 p2
  obtain ⟨t', rfl⟩ := r1
  obtain ⟨t'', rfl⟩ := r2
  exact rule _ _ _ _ _ _ _ (wpAny_truthy_bool ⟨pv, k1.trans k2⟩)
theorem gt_one {b : Bool} (a : GB X ce B Ok e b) : GT X ce B Ok [e] b := fun Ex t ok => wpAny_tests_one (a Ex t ok)
theorem ge_if {p : Pos} {et eb eo : Expr} {b : Bool} (G : GF X H h σ scope ce B mp Ok) (a : GB X ce B Ok et b) (f : b = true → GE X ce B Ok eb P) (g : b = false → GE X ce B Ok eo P) : GE X ce B Ok (.IfExp et eb eo p) P := fun Ex t ok => by
  refine wpAny_IfExp (thn (a Ex t ok) fun c t1 ⟨ec, k1⟩ => ?_)
  subst ec
  cases c with
  | true => exact thn (f rfl Ex t1 (G.next _ _ ok k1)) fun u t' ⟨z, k2⟩ => ⟨z, k1.trans k2⟩
  | false => exact thn (g rfl Ex t1 (G.next _ _ ok k1)) fun u t' ⟨z, k2⟩ => ⟨z, k1.trans k2⟩
/-- two tuples of data, whether alike -/
theorem ge_eqD {p : Pos} {d1 d2 : PyData} {k : Nat} (G : GF X H h σ scope ce B mp Ok) (hr : Room k X.A) (a : GE X ce B Ok e1 fun v => DpT X.K (fast h H) v d1) (b : GE X ce B Ok e2 fun v => DpT X.K (fast h H) v d2) (hm : behindInMarks .Eq e2 = false)
    (s1 : SeqAt.shaped d1 = true) (s2 : SeqAt.shaped d2 = true) (q : P (.bl (PyData.eqv d1 d2))) : GE X ce B Ok (.Compare e1 [.Eq] [e2] p) P := fun Ex t ok => by
  refine wpAny_Compare1 (thn (a Ex t ok) fun u1 t1 ⟨⟨x, r1, p1⟩, k1⟩ => thn (b Ex t1 (G.next _ _ ok k1)) fun u2 t2 ⟨⟨y, r2, p2⟩, k2⟩ => ?_) hm
  have ok2 := G.next _ _ (G.next _ _ ok k1) k2
  have g := G.inGen t2 ok2
  obtain ⟨pins, s, _, I⟩ := G.inv
  have kin : X.K.In t2.heap := I.ok.mod.kin.keeps g.base
  obtain ⟨as, q1⟩ := DpT.readsH g.ok kin _ _ _ p1 r1
  obtain ⟨bs, q2⟩ := DpT.readsH g.ok kin _ _ _ p2 r2
  exact SeqAt.compareEq_shaped q1 q2 s1 s2 (by have := hr.un; have := G.bu; omega) ⟨⟨.bl _, rfl, q⟩, k1.trans k2⟩
end
end V3
namespace V3
open PySem.Spec PySem L2 PyProof.Rows RZ GxR
mutual
theorem DpT.fast {P : Program} {w : World} {K : PySem.W.Frag} {h : Heap} {H : Hp} (ok : HOk P w H h) : ∀ {v : V} {d : PyData}, DpT K H v d → DpT K (V3.fast h H) v d
  | _, _, .non => .non
  | _, _, .bl b => .bl b
  | _, _, .int i => .int i
  | _, _, .str x => .str x
  | _, _, .tup s a => .tup (fastT ok s) (DpTAll.fast ok a)
theorem DpTAll.fast {P : Program} {w : World} {K : PySem.W.Frag} {h : Heap} {H : Hp} (ok : HOk P w H h) : ∀ {vs : List V} {ds : List PyData}, DpTAll K H vs ds → DpTAll K (V3.fast h H) vs ds
  | _, _, .nil => .nil
  | _, _, .cons a b => .cons (DpT.fast ok a) (DpTAll.fast ok b)
end
def addAt (sd st : Int) (i : Nat) (x : Int) : Int := if (i : Int) = sd then x + st else x
abbrev Tri := Int × Int × Int
def triV (x : Tri) : List V := [.int x.1, .int x.2.1, .int x.2.2]
def moreZ (sd st : Int) (x : Tri) : Tri := (addAt sd st 0 x.1, addAt sd st 1 x.2.1, addAt sd st 2 x.2.2)
section
variable {mg : Str → Option Value} {base : Heap} {K : PySem.W.Frag} {P : Program} {w : World}
def slanZ (t : Rat) (qs : List Rat) : Tri := (cA t qs, (qs.length : Int) - cA t qs - cB t qs, cB t qs)
theorem tabNone {Pt l : Addr} {H H2 : Hp} (tb : Tabbed Pt H H2) (hl : H2 l = none) : H l = none := by
  by_cases e : l = Pt
  · subst e
    obtain ⟨ps, hp, _⟩ := tb.1
    rw [hl] at hp
    cases hp
  · rw [← tb.2 l e]
    exact hl
abbrev s_with_more : Stmt := topS 35
abbrev N_with_more : List Str := ["counts", "side", "step", "place", "count"]
theorem sc_with_more : FnScope N_with_more ["counts", "side", "step"] (defScope s_with_more) := ⟨rfl, rfl, rfl, by decide +kernel, rfl, by decide +kernel, by decide +kernel⟩
def spMore (K : PySem.W.Frag) (Pt : Addr) : Sp := fun vs H Q _ => ∃ (p : Addr) (sd st : Int) (x : Tri), vs = [.ref p, .int sd, .int st] ∧ SqT K H p (triV x) ∧ TabG H Pt ∧
  ∀ H2 l, But Pt H H2 → TabG H2 Pt → SqT K H2 l (triV (moreZ sd st x)) → Q (.ref l) H2
theorem ok_with_more (T : Gs K mg) {c Pt : Addr} (TB : TabB base mg c Pt) (F : AtC K mg "with_more" s_with_more c) : Df P w K mg base "with_more" 1 ["counts", "side", "step"] (spMore K Pt) := by
  have sc := sc_with_more
  refine Df.mkC F sc (fun vs H Q E h => ?_) (fun _ _ _ _ _ _ us hl => match us, hl with | [_, _, _], _ => rfl) (fun f A outer s H vs Q E hr h => ?_)
  · obtain ⟨p, sd, st, x, rfl, _⟩ := h
    rfl
  · obtain ⟨p, sd, st, ⟨a, b, c⟩, rfl, hp, tab, q⟩ := h
    refine ⟨_, (pss_one (ps_ret (pe_tupG (P := Pt) hr (by rfl) T.tuple_ TB rfl ⟨rfl, rfl, by decide +kernel, rfl, by
      intro y hy e
      simp only [List.mem_cons, List.not_mem_nil, or_false] at hy
      rcases hy with rfl | rfl | rfl | rfl | rfl <;> first | exact ⟨_, rfl⟩ | cases e⟩ (ir_enum (by rfl) T.enumerate (pa_cons (pv 0) pa_nil) rfl rfl rfl (by simp; decide)) (fun _ => rfl)))), ?_⟩
    refine ⟨_, rfl, p, _, rfl, hp, tab, (fun _ => true), (fun i => addAt sd st i ([a, b, c].getD i 0)), ⟨fun h ok ce B mp Ok i row G => gt_none G, fun h ok ce B mp Ok i row pi G => ?_⟩, by show 3 ≤ 1000; decide, fun H2 l tb hl => q _ l ((tab_but tb).updN (tabNone tb hl)) (TabG.same tb.1 (same_upd hl)) (SqT.of upd_same)⟩
    obtain ⟨x, u, t, hx, ma, mb, r⟩ := row
    have ex : x = .int ([a, b, c].getD i 0) := by
      match i, hx with
      | 0, hx => cases hx; rfl
      | 1, hx => cases hx; rfl
      | 2, hx => cases hx; rfl
    subst ex
    refine ge_if G (b := decide ((i : Int) = sd)) (gb_cmp G (f := fun i j => i == j) (P1 := (· = .int (i : Int))) (P2 := (· = .int sd)) (ge_loc G (v := .int (i : Int)) rfl ma ⟨_, rfl⟩ rfl) (ge_cap G (ic := 1) ⟨rfl, rfl, rfl, fun _ => rfl, by decide, by decide⟩ rfl rfl) (by rfl) (fun _ _ _ _ _ _ _ q => eq_int q) ?_) (fun e => ?_) (fun e => ?_)
    · rintro _ _ rfl rfl
      refine ⟨_, _, rfl, rfl, ?_⟩
      by_cases c : (i : Int) = sd <;> simp [c]
    · refine ge_add G (P1 := (· = .int ([a, b, c].getD i 0))) (P2 := (· = .int st)) (ge_loc G rfl mb r rfl) (ge_cap G (ic := 2) ⟨rfl, rfl, rfl, fun _ => rfl, by decide, by decide⟩ rfl rfl) ?_
      rintro _ _ rfl rfl
      refine ⟨_, _, rfl, rfl, ?_⟩
      show V.int _ = V.int (addAt sd st i _)
      unfold addAt
      rw [if_pos (of_decide_eq_true e)]
    · refine ge_loc G rfl mb r ?_
      show V.int _ = V.int (addAt sd st i _)
      unfold addAt
      rw [if_neg (of_decide_eq_false e)]
abbrev s_counts_along_slant : Stmt := topS 45
abbrev N_counts_along_slant : List Str := ["along", "number", "above", "below", "one"]
theorem sc_counts_along_slant : FnScope N_counts_along_slant ["along", "number"] (defScope s_counts_along_slant) := ⟨rfl, rfl, rfl, by decide +kernel, rfl, by decide +kernel, by decide +kernel⟩
def spSlant (K : PySem.W.Frag) (Pt : Addr) : Sp := fun vs H Q _ => ∃ (p : Addr) (v : V) (xs : List V) (qs : List Rat) (t : Rat), vs = [.ref p, v] ∧ SqT K H p xs ∧ DpTAll K H xs (qs.map frd) ∧ DpT K H v (frd t) ∧ (∀ x ∈ qs, Bq 4000 x) ∧ Bq 4000 t ∧ TabG H Pt ∧
  ∀ H2 l, But Pt H H2 → TabG H2 Pt → SqT K H2 l (triV (slanZ t qs)) → Q (.ref l) H2
theorem ok_counts_along_slant (T : Gs K mg) {c Pt : Addr} (TB : TabB base mg c Pt) (D_is_above : Df P w K mg base "is_above" 1 ["one", "other"] (spR2b K fun x y => decide (y < x))) (F : AtC K mg "counts_along_slant" s_counts_along_slant c) : Df P w K mg base "counts_along_slant" 3 ["along", "number"] (spSlant K Pt) := by
  have sc := sc_counts_along_slant
  refine Df.mkC F sc (fun vs H Q E h => ?_) (fun _ _ _ _ _ _ us hl => match us, hl with | [_, _], _ => rfl) (fun f A outer s H vs Q E hr h => ?_)
  · obtain ⟨p, v, xs, qs, t, rfl, _⟩ := h
    rfl
  · obtain ⟨p, v, xs, qs, t, rfl, hp, ha, dv, bx, bt, tab, q⟩ := h
    have lx : xs.length = qs.length := by rw [dtAll_len ha, List.length_map]
    refine ⟨_, (pss_cons (ps_set (i := 2) sc.nd rfl (.inl rfl) (pe_sumG (P := Pt) hr (by rfl) T.sum TB rfl ⟨rfl, rfl, by decide +kernel, rfl, by
      intro y hy e
      simp only [List.mem_cons, List.not_mem_nil, or_false] at hy
      rcases hy with rfl | rfl | rfl | rfl <;> first | exact ⟨_, rfl⟩ | cases e⟩ (ir_tup (pv 0) rfl rfl) (fun _ => rfl)))
      (pss_cons (ps_set (i := 3) sc.nd rfl (.inl rfl) (pe_sumG (P := Pt) hr (by rfl) T.sum TB rfl ⟨rfl, rfl, by decide +kernel, rfl, by
      intro y hy e
      simp only [List.mem_cons, List.not_mem_nil, or_false] at hy
      rcases hy with rfl | rfl | rfl | rfl <;> first | exact ⟨_, rfl⟩ | cases e⟩ (ir_tup (pv 0) rfl rfl) (fun _ => rfl)))
      (pss_one (ps_ret (pe_tup (pa_cons (pv 2) (pa_cons (pe_op op_sub (pe_op op_sub (pe_callB call_len_seq (by rfl) T.len PySem.boot_len (pa_cons (pv 0) pa_nil)) (pv 2)) (pv 3)) (pa_cons (pv 3) pa_nil)))))))), ?_⟩
    refine ⟨_, rfl, p, xs, rfl, hp, tab, (fun i => decide (t < gq qs i)), (fun _ => 1), ⟨fun h ok ce B mp Ok i row G => ?_, fun h ok ce B mp Ok i row pi G => ge_int G rfl⟩, fun H2 tb => ?_⟩
    · obtain ⟨x, u, hx, ma, r⟩ := row
      obtain ⟨y, hy, dy⟩ := fqGetV ha hx
      have ey := gq_of hy
      rw [← ey] at dy
      have hi := (List.getElem?_eq_some_iff.mp hy).1
      refine gt_one (gb_val (ge_call2 G D_is_above hr rfl (P1 := (· = x)) (P2 := (· = v)) (ge_loc G rfl ma r rfl) (ge_cap G (ic := 1) ⟨rfl, rfl, rfl, fun _ => rfl, by decide, by decide⟩ rfl rfl) ?_))
      rintro _ _ rfl rfl
      exact ⟨_, _, _, _, rfl, DpT.fast ok dy, DpT.fast ok dv, bx _ (gq_mem hi), bt, rfl⟩
    · rw [lx, cA_range]
      have kt := (tab_but tb).kt tab
      have ha2 := ha.keep kt
      have dv2 := DpT.keep kt dv
      refine ⟨_, rfl, p, xs, rfl, kt.sqT hp, tb.1, (fun i => decide (gq qs i < t)), (fun _ => 1), ⟨fun h ok ce B mp Ok i row G => ?_, fun h ok ce B mp Ok i row pi G => ge_int G rfl⟩, fun H3 tb3 => ?_⟩
      · obtain ⟨x, u, hx, ma, r⟩ := row
        obtain ⟨y, hy, dy⟩ := fqGetV ha2 hx
        have ey := gq_of hy
        rw [← ey] at dy
        have hi := (List.getElem?_eq_some_iff.mp hy).1
        refine gt_one (gb_val (ge_call2 G D_is_above hr rfl (P1 := (· = v)) (P2 := (· = x)) (ge_cap G (ic := 1) ⟨rfl, rfl, rfl, fun _ => rfl, by decide, by decide⟩ rfl rfl) (ge_loc G rfl ma r rfl) ?_))
        rintro _ _ rfl rfl
        exact ⟨_, _, _, _, rfl, DpT.fast ok dv2, DpT.fast ok dy, bt, bx _ (gq_mem hi), rfl⟩
      · rw [lx, cB_range]
        have hp3 := ((tab_but tb3).kt tb.1).sqT (kt.sqT hp)
        refine ⟨_, rfl, _, rfl, p, xs, rfl, .inr hp3, _, rfl, _, _, rfl, rfl, _, rfl, _, _, rfl, rfl, _, rfl, ?_⟩
        rw [lx]
        exact ⟨by show 3 ≤ sizeLine; decide, fun l hl => q _ l (((tab_but tb).trans (tab_but tb3)).updN (tabNone tb (tabNone tb3 hl))) (TabG.same tb3.1 (same_upd hl)) (SqT.of upd_same)⟩
end
end V3
namespace V3
open PySem.Spec PySem L2 PyProof.Rows RZ GxR
theorem numPos {x : Rat} : 0 < x.num ↔ 0 < x := by
  constructor
  · intro h
    have a : 0 ≤ x := Rat.num_nonneg.mp (by omega)
    by_cases e : x = 0
    · subst e
      simp at h
    · grind
  · intro h
    have a : 0 ≤ x.num := Rat.num_nonneg.mpr (by grind)
    by_cases e : x.num = 0
    · have := Rat.num_eq_zero.mp e
      grind
    · omega
section
variable {mg : Str → Option Value} {base : Heap} {K : PySem.W.Frag} {P : Program} {w : World}
abbrev s_is_tied : Stmt := topS 46
abbrev N_is_tied : List Str := ["along", "squares", "number", "one", "square"]
theorem sc_is_tied : FnScope N_is_tied ["along", "squares", "number"] (defScope s_is_tied) := ⟨rfl, rfl, rfl, by decide +kernel, rfl, by decide +kernel, by decide +kernel⟩
def spTied (K : PySem.W.Frag) (Pt : Addr) : Sp := fun vs H Q _ => ∃ (p1 p2 : Addr) (v : V) (xs ys : List V) (qs rs : List Rat) (t : Rat), vs = [.ref p1, .ref p2, v] ∧ SqT K H p1 xs ∧ DpTAll K H xs (qs.map frd) ∧ SqT K H p2 ys ∧ DpTAll K H ys (rs.map frd) ∧ qs.length = rs.length ∧ DpT K H v (frd t) ∧ TabG H Pt ∧
  ∀ H2, Tabbed Pt H H2 → Q (.bl (tieB t qs rs)) H2
theorem ok_is_tied (T : Gs K mg) {c Pt : Addr} (TB : TabB base mg c Pt) (F : AtC K mg "is_tied" s_is_tied c) : Df P w K mg base "is_tied" 1 ["along", "squares", "number"] (spTied K Pt) := by
  have sc := sc_is_tied
  refine Df.mkC F sc (fun vs H Q E h => ?_) (fun _ _ _ _ _ _ us hl => match us, hl with | [_, _, _], _ => rfl) (fun f A outer s H vs Q E hr h => ?_)
  · obtain ⟨p1, p2, v, xs, ys, qs, rs, t, rfl, _⟩ := h
    rfl
  · obtain ⟨p1, p2, v, xs, ys, qs, rs, t, rfl, h1, a1, h2, a2, le, dv, tab, q⟩ := h
    have lx : xs.length = qs.length := by rw [dtAll_len a1, List.length_map]
    have ly : ys.length = rs.length := by rw [dtAll_len a2, List.length_map]
    refine ⟨_, (pss_one (ps_ret (pe_anyG (P := Pt) hr (by rfl) T.any TB rfl ⟨rfl, rfl, by decide +kernel, rfl, by
      intro y hy e
      simp only [List.mem_cons, List.not_mem_nil, or_false] at hy
      rcases hy with rfl | rfl | rfl | rfl <;> first | exact ⟨_, rfl⟩ | cases e⟩ (ir_zip (by rfl) T.zip (pa_cons (pv 0) (pa_cons (pv 1) pa_nil)) rfl rfl rfl (by simp; decide)) (fun _ => rfl)))), ?_⟩
    refine ⟨_, rfl, _, rfl, p1, p2, xs, ys, rfl, h1, h2, tab, (fun _ => true), (fun i => decide (gq qs i = t) && decide (0 < gq rs i)), ⟨fun h ok ce B mp Ok i row G => gt_none G, fun h ok ce B mp Ok i row pi G => ?_⟩, fun H2 tb => ?_⟩
    · obtain ⟨x, y, u, u', hx, hy, ma, mb, r, r'⟩ := row
      obtain ⟨x', hx', dx⟩ := fqGetV a1 hx
      have ex := gq_of hx'
      rw [← ex] at dx
      obtain ⟨y', hy', dy⟩ := fqGetV a2 hy
      have ey := gq_of hy'
      rw [← ey] at dy
      obtain ⟨pq, rfl, hpq⟩ := fqT dy
      refine ge_and G (c := decide (gq qs i = t)) (ge_eqD G hr (d1 := frd (gq qs i)) (d2 := frd t) (ge_loc G rfl ma r (DpT.fast ok dx)) (ge_cap G (ic := 2) ⟨rfl, rfl, rfl, fun _ => rfl, by decide, by decide⟩ rfl (DpT.fast ok dv)) (by rfl) (shaped_frd _) (shaped_frd _) (by rw [eqv_frd])) (fun c => ge_one (ge_cmp G (f := fun i j => decide (i > j)) (P1 := (· = .int (gq rs i).num)) (P2 := (· = .int 0)) (ge_ix G (a := pq) (i := 0) (ge_loc G rfl mb r' rfl) (ge_int G rfl) (fastT ok hpq) at20 rfl (fun _ _ => rfl)) (ge_int G rfl) (by rfl) (fun _ _ _ _ _ _ _ q => gt_int q) ?_)) (fun c => by show V.bl false = V.bl (_ && _); rw [c, Bool.false_and])
      rintro _ _ rfl rfl
      refine ⟨_, _, rfl, rfl, ?_⟩
      show V.bl _ = V.bl (_ && _)
      rw [c, Bool.true_and]
      congr 1
      exact decide_eq_decide.mpr numPos
    · have e : (List.range (min xs.length ys.length)).filter (fun _ => true) = List.range qs.length := by
        rw [List.filter_eq_self.mpr (fun _ _ => rfl), lx, ly, le, Nat.min_self]
      rw [e]
      exact q H2 tb
end
end V3
/-! A generator expression over a list. -/
namespace V3
open PySem.Spec PySem L2 PyProof.Rows GxR RZ
section
variable {X : Cx}
def tiL (X : Cx) (P : Addr) (a : Str) (te : TE) : TI := fun σ H K => te σ H fun v H1 => ∃ (p : Addr) (xs : List V), v = .ref p ∧ H1 p = some (.lst xs) ∧ TabG H1 P ∧ K xs.length (rowN a xs) H1
theorem apartL {pins : List (Addr × Obj)} {σ : L2.St} {H1 : Hp} {s1 : Shared} {P l : Addr} {xs : List V} (I1 : Inv X pins σ H1 s1) (tab : TabG H1 P) (hH : H1 l = some (.lst xs)) : Apart X P l s1 ∧ ∃ its : List Value, Vals xs its ∧ s1.heap.IsList l its.toArray := by
  obtain ⟨z, its, n, r, hl, e⟩ := I1.lstM hH
  obtain ⟨ptab, hP, htr⟩ := tab
  refine ⟨⟨Heap.lt_size e, fun z => ?_, fun z => ?_⟩, its, r, ⟨_, e, rfl, n, rfl⟩⟩
  · rw [z, hP] at hH
    cases hH
  · have := I1.stkFree l z
    rw [hH] at this
    cases this
/-- for a in l, a list of data -/
theorem ir_lst {P : Addr} {iter : Expr} {a : Str} {pa : Pos} {scope : Scope} {te : TE} (hi : PE X iter te) (kd : scope.kind = .function) (ka : scope.names.lookup a = some .local) : IR X P iter (.Name a pa) scope (tiL X P a te) := by
  refine ⟨fun pins s σ H Kq R I h go => ?_⟩
  refine thn (hi.run pins s σ H _ I h) fun xv s1 ⟨v, H1, I1, rv, p, xs, ev, hsq, tab, kq⟩ => ?_
  subst ev
  cases rv
  obtain ⟨ap, its, rvs, tupA⟩ := apartL I1 tab hsq
  have szl := rvs.length
  refine wpAny_pyIter_list tupA ?_
  have keep : ∀ b o, s1.heap.get? b = some o → (s1.heap.push { cls := .type "list_iterator", data := .fields #[.ref p, .int 0 0] }).get? b = some o := fun b o it => Heap.get?_push_of_some _ it
  have frl := frsLow I1
  have tl := tabLow I1 tab
  have len : its.toArray.size = xs.length := by
    rw [List.size_toArray]
    exact szl.symm
  refine go H1 s1 _ s1.heap.objs.size [s1.heap.objs.size, p] [s1.heap.objs.size] xs.length (rowN a xs) (fun i h => h.IsListIter s1.heap.objs.size p i ∧ h.IsList p its.toArray) I1 tab ⟨keep, by rw [Heap.size_push]; exact Nat.le_succ _, fun ce hsc hlo => ?_, fun b hb => ?_, ⟨⟨_, Heap.get?_push_size _ rfl, rfl, rfl⟩, ?_⟩, fun b hb => ?_, fun b hb => ?_, fun b hb => ?_, fun b hb => ?_⟩ (fun i h st b hb => by
      obtain ⟨⟨o, ho, _⟩, _⟩ := st
      rw [List.mem_singleton.mp hb]
      exact ⟨o, ho⟩) kq
  · rw [← len]
    refine (Draws2.name (fun B hB => Walks.list hB s1.heap.objs.size p (Nat.ne_of_lt ap.low) its.toArray) (by show ce.scope.names.lookup a = _; rw [hsc]; exact ka) (by rw [hsc]; simp [kd]) hlo).mono fun i mp ⟨u, hu, m⟩ => ?_
    have hu : its[i]? = some u := by simpa using hu
    obtain ⟨x, hx, r⟩ := vals_at rvs hu
    exact ⟨x, u, hx, m, r⟩
  · exact List.mem_cons.mpr (.inl (List.mem_singleton.mp hb))
  · obtain ⟨ob, h1, h2⟩ := tupA
    exact ⟨ob, keep _ _ h1, h2⟩
  · rw [Heap.size_push]
    (simp only [List.mem_cons, List.not_mem_nil, or_false] at hb)
    rcases hb with z | z <;> subst z
    · exact Nat.lt_succ_self _
    · exact Nat.lt_succ_of_lt ap.low
  · (rw [List.mem_singleton.mp hb])
    exact Nat.le_refl _
  · (simp only [List.mem_cons, List.not_mem_nil, or_false] at hb)
    rcases hb with z | z <;> subst z
    · exact Nat.ne_of_gt tl
    · exact ap.np
  · intro z
    (simp only [List.mem_cons, List.not_mem_nil, or_false] at hb)
    rcases hb with y | y <;> subst y
    · exact Nat.lt_irrefl _ (frl _ z)
    · exact ap.nf z
end
end V3
namespace V3
open PySem.Spec PySem L2 PyProof.Rows RZ GxR
section
variable {mg : Str → Option Value} {base : Heap} {K : PySem.W.Frag} {P : Program} {w : World}
/-- two rows of fractions, the second one shorter -/
structure TwoR (K : PySem.W.Frag) (H : Hp) (v w : V) (tops lows : List Rat) : Prop where
  dt : DpT K H v (rowQ tops)
  dl : DpT K H w (rowQ lows)
  rt : Rw tops.length tops
  rl : Rw lows.length lows
  l6 : tops.length ≤ 6
  l1 : 1 ≤ lows.length
  lt : lows.length < tops.length
theorem TwoR.keep {H H' : Hp} {v w : V} {tops lows : List Rat} (h : TwoR K H v w tops lows) (s : KeepT H H') : TwoR K H' v w tops lows := ⟨DpT.keep s h.dt, DpT.keep s h.dl, h.rt, h.rl, h.l6, h.l1, h.lt⟩
abbrev s_are_laced : Stmt := topS 37
abbrev N_are_laced : List Str := ["roots", "others", "fewer", "index", "other"]
theorem sc_are_laced : FnScope N_are_laced ["roots", "others"] (defScope s_are_laced) := ⟨rfl, rfl, rfl, by decide +kernel, rfl, by decide +kernel, by decide +kernel⟩
def spAreLaced (K : PySem.W.Frag) (Pt : Addr) : Sp := fun vs H Q _ => ∃ (v w : V) (tops lows : List Rat), vs = [v, w] ∧ TwoR K H v w tops lows ∧ TabG H Pt ∧ ∀ H', Tabbed Pt H H' → Q (.bl (lacB tops lows)) H'
theorem ok_are_laced (T : Gs K mg) {c Pt : Addr} (TB : TabB base mg c Pt) (D_is_above : Df P w K mg base "is_above" 1 ["one", "other"] (spR2b K fun x y => decide (y < x))) (F : AtC K mg "are_laced" s_are_laced c) :
    Df P w K mg base "are_laced" 3 ["roots", "others"] (spAreLaced K Pt) := by
  have sc := sc_are_laced
  refine Df.mkC F sc (fun vs H Q E h => ?_) (fun _ _ _ _ _ _ us hl => match us, hl with | [_, _], _ => rfl) (fun f A outer s H vs Q E hr h => ?_)
  · obtain ⟨v, w, tops, lows, rfl, _⟩ := h
    rfl
  · obtain ⟨v, w', tops, lows, rfl, tw, tab, q⟩ := h
    obtain ⟨p, xs, rfl, hp, hA⟩ := dtTupQ tw.dt
    obtain ⟨p', ys, rfl, hp', hB⟩ := dtTupQ tw.dl
    have lx : xs.length = tops.length := by rw [dtAll_len hA, List.length_map]
    have ly : ys.length = lows.length := by rw [dtAll_len hB, List.length_map]
    have lt := tw.lt
    refine ⟨_, (pss_cons (ps_set (i := 2) sc.nd rfl (.inr rfl) (pe_op op_sub (pe_callB call_len_seq (by rfl) T.len PySem.boot_len (pa_cons (pv 0) pa_nil)) (pe_callB call_len_seq (by rfl) T.len PySem.boot_len (pa_cons (pv 1) pa_nil))))
      (pss_one (ps_ret (pe_allEn (P := Pt) hr (by rfl) T.all (by rfl) T.enumerate TB rfl ⟨rfl, rfl, by decide +kernel, rfl, by
        intro y hy e
        simp only [List.mem_cons, List.not_mem_nil, or_false] at hy
        rcases hy with rfl | rfl | rfl | rfl | rfl | rfl <;> first | exact ⟨_, rfl⟩ | cases e⟩ rfl rfl (by simp; decide) (pa_cons (pv 1) pa_nil) (fun _ => rfl))))), ?_⟩
    refine ⟨_, rfl, _, _, rfl, .inr hp, _, rfl, _, _, rfl, .inr hp', _, _, rfl, rfl, ?_⟩
    refine ⟨_, rfl, p', ys, (fun i => !decide (gq tops i < gq lows i) && !decide (gq lows i < gq tops (i + (tops.length - lows.length)))), rfl, hp', tab, fun h ok ce B mp Ok i x ti u hx ma mb ru G => ?_, fun H2 t2 => ?_⟩
    · have hi : i < lows.length := by
        have := (List.getElem?_eq_some_iff.mp hx).1
        omega
      obtain ⟨y, hy, dy⟩ := fqGetV hB hx
      have ey := gq_of hy
      rw [← ey] at dy hy
      have mfew : ((xs.length : Int) - (ys.length : Int)) = ((tops.length - lows.length : Nat) : Int) := by omega
      obtain ⟨v1, hv1, d1⟩ := gqDt (i := i) hA (by omega)
      obtain ⟨v2, hv2, d2⟩ := gqDt (i := i + (tops.length - lows.length)) hA (by omega)
      have sfast := fastT ok hp
      have by_ := (tw.rl.bq _ (gq_mem hi)).mono (show 100 ≤ 4000 by decide)
      have b1 := (tw.rt.bq _ (gq_mem (show i < tops.length by omega))).mono (show 100 ≤ 4000 by decide)
      have b2 := (tw.rt.bq _ (gq_mem (show i + (tops.length - lows.length) < tops.length by omega))).mono (show 100 ≤ 4000 by decide)
      refine ge_and G (c := !decide (gq tops i < gq lows i)) (ge_not G (P1 := (· = .bl (decide (gq tops i < gq lows i)))) (ge_call2 G D_is_above hr rfl (P1 := (· = x)) (P2 := (· = v1)) (ge_loc G rfl mb ru rfl) (ge_ix G (a := p) (i := (i : Int)) (ge_cap G (ic := 0) ⟨rfl, rfl, rfl, fun _ => rfl, by decide, by decide⟩ rfl rfl) (ge_loc G (v := .int (i : Int)) rfl ma ⟨_, rfl⟩ rfl) sfast (at_of rfl hv1) rfl (fun _ _ => rfl)) ?_) ?_) (fun c => ge_one (ge_not G (P1 := (· = .bl (decide (gq lows i < gq tops (i + (tops.length - lows.length)))))) (ge_call2 G D_is_above hr rfl (P1 := (· = v2)) (P2 := (· = x)) (ge_ix G (a := p) (i := ((i + (tops.length - lows.length) : Nat) : Int)) (ge_cap G (ic := 0) ⟨rfl, rfl, rfl, fun _ => rfl, by decide, by decide⟩ rfl rfl) (ge_add G (P1 := (· = .int (i : Int))) (P2 := (· = .int ((tops.length - lows.length : Nat) : Int))) (ge_loc G (v := .int (i : Int)) rfl ma ⟨_, rfl⟩ rfl) (ge_cap G (ic := 2) ⟨rfl, rfl, rfl, fun _ => rfl, by decide, by decide⟩ rfl ?_) ?_) sfast (at_of rfl hv2) rfl (fun _ _ => rfl)) (ge_loc G rfl mb ru rfl) ?_) ?_)) ?_
      · rintro a b rfl rfl
        exact ⟨_, _, _, _, rfl, DpT.fast ok dy, DpT.fast ok d1, by_, b1, rfl⟩
      · rintro a rfl
        exact ⟨_, rfl, rfl⟩
      · show V.int ((xs.length : Int) - (ys.length : Int)) = _
        rw [mfew]
      · rintro a b rfl rfl
        exact ⟨_, _, rfl, rfl, by rw [Int.natCast_add]⟩
      · rintro a b rfl rfl
        exact ⟨_, _, _, _, rfl, DpT.fast ok d2, DpT.fast ok dy, b2, by_, rfl⟩
      · rintro a rfl
        refine ⟨_, rfl, ?_⟩
        dsimp only
        rw [c, Bool.true_and]
      · intro c
        dsimp only
        rw [c, Bool.false_and]
    · have e : (List.range ys.length).all (fun i => !decide (gq tops i < gq lows i) && !decide (gq lows i < gq tops (i + (tops.length - lows.length)))) = lacB tops lows := by rw [ly]; rfl
      rw [e]
      exact q H2 t2
end
end V3
namespace V3
open PySem.Spec PySem L2 PyProof.Rows RZ GxR
/-- all but what stands at three tables stands -/
def B3 (T : List Addr) (H H' : Hp) : Prop := ∀ b o, b ∉ T → H b = some o → H' b = some o
section
variable {T : List Addr} {P : Addr} {H H' H2 : Hp}
theorem B3.refl (T : List Addr) (H : Hp) : B3 T H H := fun _ _ _ h => h
theorem B3.trans (h : B3 T H H') (g : B3 T H' H2) : B3 T H H2 := fun b o n e => g b o n (h b o n e)
theorem Same.b3 (e : Same H H') : B3 T H H' := fun b o _ h => e b o h
theorem But.b3 (h : But P H H') (m : P ∈ T) : B3 T H H' := fun b o n e => h b o (fun z => n (z ▸ m)) e
/-- the tables stand, each for itself -/
def Tabs (T : List Addr) (H : Hp) : Prop := ∀ p ∈ T, TabG H p
theorem Tabs.same (t : Tabs T H) (e : Same H H') : Tabs T H' := fun p hp => TabG.same (t p hp) e
/-- one of them grows -/
theorem Tabs.grow (t : Tabs T H) (b : But P H H') (g : TabG H' P) : Tabs T H' := fun p hp => by
  by_cases e : p = P
  · rw [e]
    exact g
  · obtain ⟨ps, hq, x⟩ := t p hp
    exact ⟨ps, b _ _ e hq, x⟩
theorem B3.kt (h : B3 T H H') (t : Tabs T H) : KeepT H H' := by
  refine ⟨fun c xs e => h c _ (fun z => ?_) e, fun c o u e => h c _ (fun z => ?_) e⟩
  · obtain ⟨ps, hq, _⟩ := t c z
    rw [e] at hq
    cases hq
  · obtain ⟨ps, hq, _⟩ := t c z
    rw [e] at hq
    cases hq
end
theorem sR_take : ∀ (l : List Rat) (i : Nat), i < l.length → sR (l.take (i + 1)) = sR (l.take i) + gq l i
  | [], _, hnil => by simp at hnil
  | x :: r, 0, _ => by
    show x + sR (r.take 0) = sR [] + x
    show x + 0 = 0 + x
    grind
  | x :: r, i + 1, h => by
    have k := sR_take r i (by simpa using h)
    show x + sR (r.take (i + 1)) = (x + sR (r.take i)) + gq r i
    rw [k]
    grind
theorem gq_app_lt {l : List Rat} {z : Rat} {j : Nat} (h : j < l.length) : gq (l ++ [z]) j = gq l j := by
  unfold gq
  rw [List.getD_eq_getElem?_getD, List.getD_eq_getElem?_getD, List.getElem?_append_left h]
theorem gq_app_eq {l : List Rat} {z : Rat} {j : Nat} (h : j = l.length) : gq (l ++ [z]) j = z := by
  subst h
  unfold gq
  rw [List.getD_eq_getElem?_getD, List.getElem?_append_right (Nat.le_refl _), Nat.sub_self]
  rfl
def arQ (ts lows : List Rat) : List Rat := arC (ts.take lows.length) lows (gq ts lows.length)
theorem arQ_app {tops lows : List Rat} {z : Rat} (h : tops.length = lows.length) : arQ (tops ++ [z]) lows = arC tops lows z := by
  unfold arQ
  rw [gq_app_eq h.symm, ← h, List.take_left]
def arD (ts lows : List Rat) : PyData := if lacB ts lows = true then .tuple [rowQ (arQ ts lows), frd (sR ts - sR lows)] else .none
theorem neg_range (l : List Rat) : (List.range l.length).map (fun i => frd (-(gq l i))) = (l.map fun x => -x).map frd := by
  induction l with
  | nil => rfl
  | cons x r ih =>
    rw [List.length_cons, List.range_succ_eq_map, List.map_cons, List.map_map, List.map_cons, List.map_cons, ← ih]
    rfl
section
variable {mg : Str → Option Value} {base : Heap} {K : PySem.W.Frag} {P : Program} {w : World}
abbrev s_arrow_of : Stmt := topS 38
abbrev N_arrow_of : List Str := ["roots", "others", "squares", "last", "root", "other", "square"]
theorem sc_arrow_of : FnScope N_arrow_of ["roots", "others"] (defScope s_arrow_of) := ⟨rfl, rfl, rfl, by decide +kernel, rfl, by decide +kernel, by decide +kernel⟩
def spArrow (K : PySem.W.Frag) (TT : List Addr) : Sp := fun vs H Q _ => ∃ (v w : V) (ts lows : List Rat), vs = [v, w] ∧ DpT K H v (rowQ ts) ∧ DpT K H w (rowQ lows) ∧ Rw ts.length ts ∧ Rw lows.length lows ∧ ts.length = lows.length + 1 ∧ 1 ≤ lows.length ∧ ts.length ≤ 6 ∧ Tabs TT H ∧
  ∀ H' v', B3 TT H H' → Tabs TT H' → DpT K H' v' (arD ts lows) → Q v' H'
theorem ok_arrow_of (T : Gs K mg) {c Pl Pa : Addr} {TT : List Addr} (ml : Pl ∈ TT) (ma : Pa ∈ TT) (TB : TabB base mg c Pa) (D_check_one_fewer : Df P w K mg base "check_one_fewer" 5 ["roots", "others"] (spOneFew K)) (D_are_laced : Df P w K mg base "are_laced" 3 ["roots", "others"] (spAreLaced K Pl)) (D_opposite_of : Df P w K mg base "opposite_of" 1 ["number"] (spOpp1 K)) (D_squares_beside : Df P w K mg base "squares_beside" 4 ["roots", "others"] (spSquares K))
    (D_plus : Df P w K mg base "plus" 2 ["one", "other"] (spR2w K (· + ·))) (D_minus : Df P w K mg base "minus" 2 ["one", "other"] (spR2w K (· - ·))) (F : AtC K mg "arrow_of" s_arrow_of c) : Df P w K mg base "arrow_of" 6 ["roots", "others"] (spArrow K TT) := by
  have sc := sc_arrow_of
  obtain ⟨pN, gN, hN⟩ := T.NOUGHT
  refine Df.mkC F sc (fun vs H Q E h => ?_) (fun _ _ _ _ _ _ us hl => match us, hl with | [_, _], _ => rfl) (fun f A outer s H vs Q E hr h => ?_)
  · obtain ⟨v, w, ts, lows, rfl, _⟩ := h
    rfl
  · obtain ⟨v, w', ts, lows, rfl, dt, dl, rt, rl, le, l1, l6, tabs, q⟩ := h
    refine ⟨_, (pss_cons (ps_expr (pe_fn D_check_one_fewer (by decide) hr (pa_cons (pv 0) (pa_cons (pv 1) pa_nil))))
      (pss_cons (ps_if (pt_not (pt_val (pe_fn D_are_laced (by decide) hr (pa_cons (pv 0) (pa_cons (pv 1) pa_nil))))) (pss_one (ps_ret pe_non)) pss_nil)
      (pss_cons (ps_set (i := 2) sc.nd rfl (.inl rfl) (pe_tupH (P := Pa) hr (by rfl) T.tuple_ TB rfl ⟨rfl, rfl, by decide +kernel, rfl, by
        intro y hy e
        simp only [List.mem_cons, List.not_mem_nil, or_false] at hy
        rcases hy with rfl | rfl | rfl <;> first | exact ⟨_, rfl⟩ | cases e⟩ (ir_lst (pe_fn D_squares_beside (by decide) hr (pa_cons (pv 0) (pa_cons (pv 1) pa_nil))) rfl rfl) (fun _ => rfl)))
      (pss_cons (ps_set (i := 3) sc.nd rfl (.inl rfl) (pe_glob (v := .ref pN) (by rfl) gN rfl))
      (pss_cons (ps_for PassesOwn.never rfl (pi_tup (pv 0)) (pg_name (i := 4) sc.nd rfl (.inl rfl)) (pss_one (ps_set (i := 3) sc.nd rfl (.inl rfl) (pe_fn D_plus (by decide) hr (pa_cons (pv 3) (pa_cons (pv 4) pa_nil))))))
      (pss_cons (ps_for PassesOwn.never rfl (pi_tup (pv 1)) (pg_name (i := 5) sc.nd rfl (.inl rfl)) (pss_one (ps_set (i := 3) sc.nd rfl (.inl rfl) (pe_fn D_minus (by decide) hr (pa_cons (pv 3) (pa_cons (pv 5) pa_nil))))))
      (pss_one (ps_ret (pe_tup (pa_cons (pv 2) (pa_cons (pv 3) pa_nil))))))))))), ?_⟩
    refine ⟨_, rfl, _, rfl, v, w', ts, lows, rfl, dt, dl, rt, rl, le, l1, l6, fun H1 s1 => ?_⟩
    have k1 := Same.kt s1
    have tabs1 := tabs.same s1
    have tw : TwoR K H1 v w' ts lows := ⟨DpT.keep k1 dt, DpT.keep k1 dl, rt, rl, l6, l1, by omega⟩
    refine ⟨_, rfl, _, rfl, v, w', ts, lows, rfl, tw, tabs1 _ ml, fun H2 tb2 => ⟨_, rfl, if2 (fun e => ?_) (fun e => ?_)⟩⟩
    · have e1 : lacB ts lows = false := by simpa using e
      refine q H2 _ ((Same.b3 s1).trans (But.b3 (tab_but tb2) ml)) (tabs1.grow (tab_but tb2) tb2.1) ?_
      unfold arD
      rw [if_neg (by rw [e1]; decide)]
      exact .non
    · have e1 : lacB ts lows = true := by simpa using e
      have ed : arD ts lows = .tuple [rowQ (arQ ts lows), frd (sR ts - sR lows)] := if_pos e1
      rw [ed] at q
      obtain ⟨tops, z, rfl, rs, zl, zt⟩ := lac_split le l1 rl.srt e1
      rw [arQ_app rs.len] at q
      have b2 := But.b3 (tab_but tb2) ml
      have tabs2 := tabs1.grow (tab_but tb2) tb2.1
      have k2 := k1.trans (b2.kt tabs1)
      refine ⟨_, rfl, _, rfl, v, w', tops, [z], lows, rfl, DpT.keep k2 dt, DpT.keep k2 dl, rs, l6, fun x hx => (rt.bq x hx).mono (by decide), fun x hx => (rl.bq x hx).mono (by decide), fun H3 p3 ys s3 h3 d3 => ?_⟩
      have k3 := k2.trans (Same.kt s3)
      have tabs3 := tabs2.same s3
      refine ⟨p3, ys, rfl, h3, tabs3 _ ma, (fun _ => true), (fun i => frd (-(gq (toldR (kpP tops lows none ++ [z]) (unP lows none) lows none) i))), ⟨fun h ok bad ce B mp Ok i row G => gt_none G.g, fun h ok bad ce B mp Ok i row pi G => ?_⟩, ?_, fun H4 l4 b4 t4 d4 => ?_⟩
      · obtain ⟨x, u, hx, mu, r⟩ := row
        obtain ⟨y, hy, dy⟩ := fqGetV d3 hx
        rw [← gq_of hy] at dy
        refine geh_call1 G D_opposite_of (hr.mono (by decide)) rfl (P1 := (· = x)) (ge_loc G.g rfl mu r rfl) ?_
        rintro _ rfl
        exact ⟨_, _, rfl, DpT.fast ok dy, fun H' p sm hp => fqO hp⟩
      · have := fqLen d3
        have t2 := told_len (kpP tops lows none ++ [z]) (unP lows none) lows none
        omega
      · have ly : ys.length = (toldR (kpP tops lows none ++ [z]) (unP lows none) lows none).length := fqLen d3
        rw [List.filter_eq_self.mpr (fun _ _ => rfl), ly, neg_range, ar_told] at d4
        have b4' := But.b3 b4 ma
        have tabs4 := tabs3.grow b4 t4
        have k4 := k3.trans (b4'.kt tabs3)
        have hb4 : B3 TT H H4 := (Same.b3 s1).trans (b2.trans ((Same.b3 s3).trans b4'))
        have dt4 := DpT.keep k4 dt
        have dl4 := DpT.keep k4 dl
        have dN : DpT K H4 (.ref pN) (frd 0) := .tup (hN _) (.cons (.int _) (.cons (.int _) .nil))
        obtain ⟨pt, xs, rfl, hpt, hX⟩ := dtTupQ dt4
        obtain ⟨pl, ls, rfl, hpl, hL⟩ := dtTupQ dl4
        have lx : xs.length = (tops ++ [z]).length := by rw [dtAll_len hX, List.length_map]
        have ll : ls.length = lows.length := by rw [dtAll_len hL, List.length_map]
        refine ⟨_, rfl, pt, rfl, ⟨_, hpt⟩, for_tup (K := K) (a := pt) (xs := xs) (fun i σ H' => ∃ (o : V) (y4 y5 y6 : Option V), σ = [some (.ref pt), some (.ref pl), some (.ref l4), some o, y4, y5, y6] ∧ Same H4 H' ∧ DpT K H' o (frd (sR ((tops ++ [z]).take i))) ∧ Bq (i * 101 + 1) (sR ((tops ++ [z]).take i)))
          ⟨_, _, _, _, rfl, Same.refl _, by rw [List.take_zero]; exact dN, by rw [List.take_zero]; show Bq _ (0 : Rat); exact ⟨by decide, by decide⟩⟩ (fun i σ H' _ ⟨_, _, _, _, _, sm', _⟩ => sameT sm' hpt) ?_ ?_⟩
        · rintro i x σ H' hi ⟨o, y4, y5, y6, rfl, sm', d1, b1⟩
          obtain ⟨x', hx', dx⟩ := fqGetV hX hi
          have il := (List.getElem?_eq_some_iff.mp hx').1
          have mo := sR_take _ i il
          rw [gq_of hx'] at mo
          have bx := rt.bq _ (List.mem_of_getElem? hx')
          refine ⟨_, rfl, _, rfl, _, _, _, x', i * 101 + 1, 100, rfl, d1, fqSame dx sm', b1, bx, by omega, by decide, by omega, fun H5 p5 s5 h5 => ?_⟩
          refine ⟨_, _, _, _, rfl, sm'.trans s5, ?_, ?_⟩
          · rw [mo]
            exact fqO h5
          · rw [mo]
            exact b1.add bx (by omega)
        · rintro σ H5 ⟨o, y4, y5, y6, rfl, s5, d5, b5⟩
          rw [lx, List.take_of_length_le (Nat.le_refl _)] at d5 b5
          refine ⟨_, rfl, pl, rfl, ⟨_, sameT s5 hpl⟩, for_tup (K := K) (a := pl) (xs := ls) (fun i σ H' => ∃ (o : V) (y4 y5 y6 : Option V), σ = [some (.ref pt), some (.ref pl), some (.ref l4), some o, y4, y5, y6] ∧ Same H5 H' ∧ DpT K H' o (frd (sR (tops ++ [z]) - sR (lows.take i))) ∧ Bq (607 + i * 101 + 1) (sR (tops ++ [z]) - sR (lows.take i)))
            ⟨_, _, _, _, rfl, Same.refl _, ?_, ?_⟩ (fun i σ H' _ ⟨_, _, _, _, _, sm', _⟩ => sameT (s5.trans sm') hpl) ?_ ?_⟩
          · have e0 : sR (tops ++ [z]) - sR (lows.take 0) = sR (tops ++ [z]) := by
              show _ - (0 : Rat) = _
              grind
            rw [e0]
            exact d5
          · have e0 : sR (tops ++ [z]) - sR (lows.take 0) = sR (tops ++ [z]) := by
              show _ - (0 : Rat) = _
              grind
            rw [e0]
            exact b5.mono (by omega)
          · rintro i x σ H' hi ⟨o, y4, y5, y6, rfl, sm', d1, b1⟩
            obtain ⟨x', hx', dx⟩ := fqGetV hL hi
            have il := (List.getElem?_eq_some_iff.mp hx').1
            have mo := sR_take _ i il
            rw [gq_of hx'] at mo
            have bx := rl.bq _ (List.mem_of_getElem? hx')
            have m2 : sR (tops ++ [z]) - sR (lows.take (i + 1)) = (sR (tops ++ [z]) - sR (lows.take i)) - x' := by
              rw [mo]
              grind
            refine ⟨_, rfl, _, rfl, _, _, _, x', 607 + i * 101 + 1, 100, rfl, d1, fqSame dx (s5.trans sm'), b1, bx, by omega, by decide, by omega, fun H6 p6 s6 h6 => ?_⟩
            refine ⟨_, _, _, _, rfl, sm'.trans s6, ?_, ?_⟩
            · rw [m2]
              exact fqO h6
            · rw [m2]
              exact b1.sub bx (by omega)
          · rintro σ H6 ⟨o, y4, y5, y6, rfl, s6, d6, b6⟩
            rw [ll, List.take_of_length_le (Nat.le_refl _)] at d6
            refine ⟨_, rfl, _, rfl, by show 2 ≤ sizeLine; decide, fun l hl => ?_⟩
            have s7 := same_upd (o := .tup [.ref l4, o]) hl
            have s47 := s5.trans (s6.trans s7)
            exact q _ _ (hb4.trans (Same.b3 s47)) (tabs4.same s47) (.tup (SqT.of upd_same) (.cons (DpT.keep (Same.kt s47) d4) (.cons (DpT.keep (Same.kt s7) d6) .nil)))
end
end V3
namespace V3
open PySem.Spec PySem L2 PyProof.Rows RZ GxR
theorem Bq.neg {a : Nat} {x : Rat} (h : Bq a x) : Bq a (-x) := ⟨by rw [Rat.neg_num, Int.natAbs_neg]; exact h.n, by rw [Rat.neg_den]; exact h.d⟩
theorem Bq.divN {a b c : Nat} {x y : Rat} (hx : Bq a x) (hy : Bq b y) (p : y ≠ 0) (hc : a + b ≤ c) : Bq c (x / y) := by
  by_cases q : 0 < y
  · exact hx.div hy q hc
  · have e : x / y = (-x) / (-y) := by
      have e1 : -y ≠ 0 := by grind
      have h1 := Rat.div_mul_cancel (a := x) p
      have h2 := Rat.div_mul_cancel (a := -x) e1
      generalize x / y = u at h1 ⊢
      generalize (-x) / (-y) = v at h2 ⊢
      have : (u - v) * y = 0 := by grind
      rcases Rat.mul_eq_zero.mp this with z | z
      · grind
      · exact absurd z p
    rw [e]
    exact hx.neg.div hy.neg (by grind) hc
section
variable {mg : Str → Option Value} {base : Heap} {K : PySem.W.Frag} {P : Program} {w : World}
abbrev s_sum_over : Stmt := topS 47
abbrev N_sum_over : List Str := ["along", "squares", "number", "found", "one", "square"]
theorem sc_sum_over : FnScope N_sum_over ["along", "squares", "number"] (defScope s_sum_over) := ⟨rfl, rfl, rfl, by decide +kernel, rfl, by decide +kernel, by decide +kernel⟩
def spSum (K : PySem.W.Frag) : Sp := fun vs H Q _ => ∃ (p1 p2 : Addr) (v : V) (xs ys : List V) (qs rs : List Rat) (t : Rat) (a b d : Nat), vs = [.ref p1, .ref p2, v] ∧ SqT K H p1 xs ∧ DpTAll K H xs (qs.map frd) ∧ SqT K H p2 ys ∧ DpTAll K H ys (rs.map frd) ∧ qs.length = rs.length ∧ qs.length ≤ 5 ∧ DpT K H v (frd t) ∧ (∀ x ∈ qs, Bq a x) ∧ (∀ x ∈ rs, Bq b x) ∧ Bq d t ∧ 5 * (a + b + d + 2) + 1 ≤ 6000 ∧
  ∀ H' v', Same H H' → DpT K H' v' (frd (qB t qs rs)) → Bq 6000 (qB t qs rs) → Q v' H'
theorem ok_sum_over (T : Gs K mg) (D_plus : Df P w K mg base "plus" 2 ["one", "other"] (spR2w K (· + ·))) (D_over : Df P w K mg base "over" 2 ["one", "other"] (spR2q K (· / ·) fun y => y ≠ 0)) (D_minus : Df P w K mg base "minus" 2 ["one", "other"] (spR2w K (· - ·))) (F : At K mg "sum_over" s_sum_over) : Df P w K mg base "sum_over" 3 ["along", "squares", "number"] (spSum K) := by
  have sc := sc_sum_over
  obtain ⟨pN, gN, hN⟩ := T.NOUGHT
  refine Df.mk' F sc (fun vs H Q E h => ?_) (fun _ _ _ _ _ _ us hl => match us, hl with | [_, _, _], _ => rfl) (fun f cdv A outer s H vs Q E hr h => ?_)
  · obtain ⟨p1, p2, v, xs, ys, qs, rs, t, a, b, d, rfl, _⟩ := h
    rfl
  · obtain ⟨p1, p2, v, xs, ys, qs, rs, t, a, b, d, rfl, h1, a1, h2, a2, le, l5, dv, ba, bb, bd, sm, q⟩ := h
    have lx : xs.length = qs.length := by rw [dtAll_len a1, List.length_map]
    have ly : ys.length = rs.length := by rw [dtAll_len a2, List.length_map]
    refine ⟨_, (pss_cons (ps_set (i := 3) sc.nd rfl (.inl rfl) (pe_glob (v := .ref pN) (by rfl) gN rfl)) (pss_cons (ps_for PassesOwn.never rfl (pi_zipA (by rfl) T.zip (pa_cons (pv 0) (pa_cons (pv 1) pa_nil))) (pg_tup rfl (pgs_cons (pg_name (i := 4) sc.nd rfl (.inl rfl)) (pgs_cons (pg_name (i := 5) sc.nd rfl (.inl rfl)) pgs_nil))) (pss_one (ps_if (pt_cmpR (op_neD hr.units) (pv 4) (pv 2) (nomark _)) (pss_one (ps_set (i := 3) sc.nd rfl (.inl rfl) (pe_fn D_plus (by decide) hr (pa_cons (pv 3) (pa_cons (pe_fn D_over (by decide) hr (pa_cons (pv 5) (pa_cons (pe_fn D_minus (by decide) hr (pa_cons (pv 4) (pa_cons (pv 2) pa_nil))) pa_nil))) pa_nil))))) pss_nil))) (pss_one (ps_ret (pv 3))))), ?_⟩
    refine ⟨_, rfl, _, rfl, p1, p2, xs, ys, rfl, .inr ⟨h1, h2, for_zipT (K := K) (a := p1) (b := p2) (xs := xs) (ys := ys) (by omega)
      (fun i σ H' => ∃ (o : V) (y4 y5 : Option V), σ = [some (.ref p1), some (.ref p2), some v, some o, y4, y5] ∧ Same H H' ∧ DpT K H' o (frd (qB t (qs.take i) (rs.take i))) ∧ Bq (i * (a + b + d + 2) + 1) (qB t (qs.take i) (rs.take i)))
      ⟨.ref pN, _, _, rfl, Same.refl _, .tup (hN _) (.cons (.int _) (.cons (.int _) .nil)), by rw [List.take_zero]; show Bq _ (0 : Rat); rw [Nat.zero_mul]; exact ⟨by decide, by decide⟩⟩
      (fun i σ H' ⟨_, _, _, _, sm', _⟩ => ⟨sameT sm' h1, sameT sm' h2⟩) ?_ ?_⟩⟩
    · rintro i x y T' σ H' hx hy ⟨o, y4, y5, rfl, s1, d1, b1⟩ hT
      obtain ⟨x', hx', dx⟩ := fqGetV a1 hx
      have ix := (List.getElem?_eq_some_iff.mp hx').1
      obtain ⟨y', hy', dy⟩ := fqGetV a2 hy
      have iy := (List.getElem?_eq_some_iff.mp hy').1
      have mo := qB_take t qs rs i ix iy
      rw [gq_of hx', gq_of hy'] at mo
      have bx := ba _ (List.mem_of_getElem? hx')
      have by_ := bb _ (List.mem_of_getElem? hy')
      have i5 : i < 5 := by omega
      have im : i * (a + b + d + 2) ≤ 4 * (a + b + d + 2) := Nat.mul_le_mul_right _ (by omega)
      have em : (i + 1) * (a + b + d + 2) = i * (a + b + d + 2) + (a + b + d + 2) := Nat.succ_mul _ _
      have s2 := s1.trans (same_upd (o := .tup [x, y]) hT)
      have d2 := DpT.keep (Same.kt (same_upd (o := .tup [x, y]) hT)) d1
      have dx2 := DpT.keep (Same.kt s2) dx
      have dy2 := DpT.keep (Same.kt s2) dy
      have dv2 := DpT.keep (Same.kt s2) dv
      refine ⟨T', _, rfl, SqT.of upd_same, rfl, _, _, rfl, _, _, rfl, rfl, ?_⟩
      generalize upd H' T' (.tup [x, y]) = H2 at s2 d2 dx2 dy2 dv2
      refine ⟨_, rfl, _, rfl, _, _, dx2.dp, dv2.dp, shaped_frd _, shaped_frd _, _, rfl, ?_⟩
      rw [eqv_frd]
      refine if2 (fun e => ?_) (fun e => ?_)
      · have c : x' ≠ t := by simpa using e
        have nz : x' - t ≠ 0 := by grind
        rw [if_pos c] at mo
        refine ⟨_, rfl, _, rfl, _, rfl, _, rfl, _, _, x', t, a + 1, d + 1, rfl, dx2, dv2, bx.mono (by omega), bd.mono (by omega), by omega, by omega, by omega, fun H3 p3 s3 h3 => ?_⟩
        have bm : Bq (a + d + 1) (x' - t) := bx.sub bd (by omega)
        have bq1 : Bq (a + b + d + 1) (y' / (x' - t)) := by_.divN bm nz (by omega)
        have k3 := Same.kt s3
        refine ⟨_, _, y', x' - t, b + 1, a + d + 1, rfl, DpT.keep k3 dy2, fqO h3, by_.mono (by omega), bm, by omega, by omega, by omega, nz, fun H4 p4 s4 h4 => ?_⟩
        refine ⟨_, _, _, y' / (x' - t), i * (a + b + d + 2) + 1, a + b + d + 1, rfl, DpT.keep (Same.kt (s3.trans s4)) d2, fqO h4, b1, bq1, by omega, by omega, by omega, fun H5 p5 s5 h5 => ?_⟩
        refine ⟨_, _, _, rfl, s2.trans (s3.trans (s4.trans s5)), ?_, ?_⟩
        · rw [mo]
          exact fqO h5
        · rw [mo]
          exact b1.add bq1 (by omega)
      · have c : x' = t := by simpa using e
        rw [if_neg (fun z => z c)] at mo
        have m2 : qB t (qs.take (i + 1)) (rs.take (i + 1)) = qB t (qs.take i) (rs.take i) := by
          rw [mo]
          grind
        refine ⟨_, _, _, rfl, s2, ?_, ?_⟩
        · rw [m2]
          exact d2
        · rw [m2]
          exact b1.mono (by omega)
    · rintro σ H' ⟨o, y4, y5, rfl, s1, d1, b1⟩
      rw [lx, List.take_of_length_le (by omega), List.take_of_length_le (by omega)] at d1 b1
      have im : qs.length * (a + b + d + 2) ≤ 5 * (a + b + d + 2) := Nat.mul_le_mul_right _ l5
      exact ⟨_, rfl, q H' o s1 d1 (b1.mono (by omega))⟩
abbrev s_arrow_counts : Stmt := topS 44
abbrev N_arrow_counts : List Str := ["along", "squares", "last", "number", "counts", "rest"]
theorem sc_arrow_counts : FnScope N_arrow_counts ["along", "squares", "last", "number"] (defScope s_arrow_counts) := ⟨rfl, rfl, rfl, by decide +kernel, rfl, by decide +kernel, by decide +kernel⟩
def awZ (e t : Rat) (qs rs : List Rat) : Tri := if tieB t qs rs = true then moreZ 2 1 (moreZ 1 (-1) (moreZ 0 1 (slanZ t qs))) else moreZ (sideZ ((e - t) - qB t qs rs).num) 1 (slanZ t qs)
def spArCounts (K : PySem.W.Frag) (TT : List Addr) : Sp := fun vs H Q _ => ∃ (p1 p2 : Addr) (v u : V) (xs ys : List V) (qs rs : List Rat) (e t : Rat) (a b d g : Nat), vs = [.ref p1, .ref p2, v, u] ∧ SqT K H p1 xs ∧ DpTAll K H xs (qs.map frd) ∧ SqT K H p2 ys ∧ DpTAll K H ys (rs.map frd) ∧ 1 ≤ qs.length ∧ qs.length ≤ 5 ∧ rs.length = qs.length ∧ (∀ z ∈ rs, 0 ≤ z) ∧
  DpT K H v (frd e) ∧ DpT K H u (frd t) ∧ (∀ x ∈ qs, Bq a x) ∧ (∀ x ∈ rs, Bq b x) ∧ Bq d t ∧ Bq g e ∧ 0 < d ∧ 0 < g ∧ a ≤ 4000 ∧ d + g ≤ 2000 ∧ 5 * (a + b + d + 2) + 1 ≤ 6000 ∧ Tabs TT H ∧
  ∀ H' l, B3 TT H H' → Tabs TT H' → SqT K H' l (triV (awZ e t qs rs)) → Q (.ref l) H'
theorem ok_arrow_counts (T : Gs K mg) {TT : List Addr} {Ps Pi Pm : Addr} (ms : Ps ∈ TT) (mi : Pi ∈ TT) (mm : Pm ∈ TT)
    (D_check_beside : Df P w K mg base "check_beside" 6 ["along", "squares"] (spBeside K)) (D_check_fraction : Df P w K mg base "check_fraction" 3 ["number"] (spCheckFr K)) (D_counts_along_slant : Df P w K mg base "counts_along_slant" 3 ["along", "number"] (spSlant K Ps)) (D_is_tied : Df P w K mg base "is_tied" 1 ["along", "squares", "number"] (spTied K Pi))
    (D_with_more : Df P w K mg base "with_more" 1 ["counts", "side", "step"] (spMore K Pm)) (D_side_of : Df P w K mg base "side_of" 1 ["number"] spSide) (D_minus : Df P w K mg base "minus" 2 ["one", "other"] (spR2w K (· - ·))) (D_sum_over : Df P w K mg base "sum_over" 3 ["along", "squares", "number"] (spSum K))
    (F : At K mg "arrow_counts" s_arrow_counts) : Df P w K mg base "arrow_counts" 7 ["along", "squares", "last", "number"] (spArCounts K TT) := by
  have sc := sc_arrow_counts
  obtain ⟨t0, gA⟩ := T.ABOVE
  obtain ⟨t1, gT⟩ := T.AT
  obtain ⟨t2, gB⟩ := T.BELOW
  refine Df.mk' F sc (fun vs H Q E h => ?_) (fun _ _ _ _ _ _ us hl => match us, hl with | [_, _, _, _], _ => rfl) (fun f cdv A outer s H vs Q E hr h => ?_)
  · obtain ⟨p1, p2, v, u, xs, ys, qs, rs, e, t, a, b, d, g, rfl, _⟩ := h
    rfl
  · obtain ⟨p1, p2, v, u, xs, ys, qs, rs, e, t, a, b, d, g, rfl, h1, a1, h2, a2, l1, l5, le, nn, df, dt, ba, bb, bd, bg, d0, g0, a4, dg, sm, tabs, q⟩ := h
    have lx : xs.length = qs.length := by rw [dtAll_len a1, List.length_map]
    have ly : ys.length = rs.length := by rw [dtAll_len a2, List.length_map]
    refine ⟨_, (pss_cons (ps_expr (pe_fn D_check_beside (by decide) hr (pa_cons (pv 0) (pa_cons (pv 1) pa_nil)))) (pss_cons (ps_expr (pe_fn D_check_fraction (by decide) hr (pa_cons (pv 2) pa_nil))) (pss_cons (ps_expr (pe_fn D_check_fraction (by decide) hr (pa_cons (pv 3) pa_nil))) (pss_cons (ps_set (i := 4) sc.nd rfl (.inl rfl) (pe_fn D_counts_along_slant (by decide) hr (pa_cons (pv 0) (pa_cons (pv 3) pa_nil)))) (pss_cons (ps_if (pt_val (pe_fn D_is_tied (by decide) hr (pa_cons (pv 0) (pa_cons (pv 1) (pa_cons (pv 3) pa_nil))))) (pss_one (ps_ret (pe_fn D_with_more (by decide) hr (pa_cons (pe_fn D_with_more (by decide) hr (pa_cons (pe_fn D_with_more (by decide) hr (pa_cons (pv 4) (pa_cons (pe_glob (v := .int 0) (by rfl) gA ⟨_, rfl⟩) (pa_cons pe_int pa_nil)))) (pa_cons (pe_glob (v := .int 1) (by rfl) gT ⟨_, rfl⟩) (pa_cons (pe_un un_neg pe_int) pa_nil)))) (pa_cons (pe_glob (v := .int 2) (by rfl) gB ⟨_, rfl⟩) (pa_cons pe_int pa_nil)))))) pss_nil) (pss_cons (ps_set (i := 5) sc.nd rfl (.inl rfl) (pe_fn D_minus (by decide) hr (pa_cons (pe_fn D_minus (by decide) hr (pa_cons (pv 2) (pa_cons (pv 3) pa_nil))) (pa_cons (pe_fn D_sum_over (by decide) hr (pa_cons (pv 0) (pa_cons (pv 1) (pa_cons (pv 3) pa_nil)))) pa_nil)))) (pss_one (ps_ret (pe_fn D_with_more (by decide) hr (pa_cons (pv 4) (pa_cons (pe_fn D_side_of (by decide) hr (pa_cons (pe_ix ix_tup (pv 5) pe_int (fun _ _ => rfl)) pa_nil)) (pa_cons pe_int pa_nil)))))))))))), ?_⟩
    refine ⟨_, rfl, _, rfl, p1, p2, xs, ys, qs, rs, rfl, h1, a1, h2, a2, by omega, by omega, by omega, nn, fun H1 s1 => ?_⟩
    refine ⟨_, rfl, v, e, rfl, DpT.keep (Same.kt s1) df, ?_⟩
    refine ⟨_, rfl, u, t, rfl, DpT.keep (Same.kt s1) dt, ?_⟩
    have k1 := Same.kt s1
    have tabs1 := tabs.same s1
    refine ⟨_, rfl, _, rfl, p1, u, xs, qs, t, rfl, k1.sqT h1, a1.keep k1, DpT.keep k1 dt, fun x hx => (ba x hx).mono (by omega), bd.mono (by omega), tabs1 _ ms, fun H2 l b2 tab2 hl => ?_⟩
    have bb2 : B3 TT H H2 := (Same.b3 s1).trans (But.b3 b2 ms)
    have tabs2 := tabs1.grow b2 tab2
    have k2 := bb2.kt tabs
    have h1' := k2.sqT h1
    have h2' := k2.sqT h2
    have a1' := a1.keep k2
    have a2' := a2.keep k2
    have df' := DpT.keep k2 df
    have dt' := DpT.keep k2 dt
    unfold awZ at q
    refine ⟨_, rfl, _, rfl, _, rfl, p1, p2, u, xs, ys, qs, rs, t, rfl, h1', a1', h2', a2', le.symm, dt', tabs2 _ mi, fun H3 tb3 => ⟨_, rfl, if2 (fun c2 => ?_) (fun c2 => ?_)⟩⟩
    · rw [if_pos c2] at q
      have b3 := But.b3 (tab_but tb3) mi
      have tabs3 := tabs2.grow (tab_but tb3) tb3.1
      have k3 := b3.kt tabs2
      refine ⟨_, rfl, l, 0, 1, slanZ t qs, rfl, k3.sqT hl, tabs3 _ mm, fun H4 l4 b4 t4 h4 => ?_⟩
      have b4' := But.b3 b4 mm
      have tabs4 := tabs3.grow b4 t4
      refine ⟨1, rfl, l4, 1, -1, _, rfl, h4, tabs4 _ mm, fun H5 l5 b5 t5 h5 => ?_⟩
      have b5' := But.b3 b5 mm
      have tabs5 := tabs4.grow b5 t5
      refine ⟨l5, 2, 1, _, rfl, h5, tabs5 _ mm, fun H6 l6 b6 t6 h6 => ?_⟩
      exact q H6 l6 (bb2.trans (b3.trans (b4'.trans (b5'.trans (But.b3 b6 mm))))) (tabs5.grow b6 t6) h6
    · rw [if_neg (by rw [c2]; decide)] at q
      have b3 := But.b3 (tab_but tb3) mi
      have tabs3 := tabs2.grow (tab_but tb3) tb3.1
      have k3 := b3.kt tabs2
      refine ⟨_, rfl, _, rfl, v, u, e, t, g, d, rfl, DpT.keep k3 df', DpT.keep k3 dt', bg, bd, g0, d0, by omega, fun H4 p4 s4 h4 => ?_⟩
      have k4 := k3.trans (Same.kt s4)
      refine ⟨_, rfl, _, rfl, _, rfl, p1, p2, u, xs, ys, qs, rs, t, a, b, d, rfl, k4.sqT h1', a1'.keep k4, k4.sqT h2', a2'.keep k4, le.symm, l5, DpT.keep k4 dt', ba, bb, bd, sm, fun H5 v5 s5 d5 bq5 => ?_⟩
      refine ⟨_, _, e - t, qB t qs rs, g + d + 1, 6000, rfl, DpT.keep (Same.kt s5) (fqO h4), d5, bg.sub bd (Nat.le_refl _), bq5, by omega, by decide, by omega, fun H6 p6 s6 h6 => ?_⟩
      have s46 := s4.trans (s5.trans s6)
      have k6 := Same.kt s46
      have tabs6 := tabs3.same s46
      refine ⟨_, rfl, _, rfl, p6, _, _, _, rfl, rfl, SqT.of h6, at20, _, rfl, ?_⟩
      refine ⟨l, _, _, slanZ t qs, rfl, k6.sqT (k3.sqT hl), tabs6 _ mm, fun H7 l7 b7 t7 h7 => ?_⟩
      exact q H7 l7 (bb2.trans (b3.trans ((Same.b3 s46).trans (But.b3 b7 mm)))) (tabs6.grow b7 t7) h7
end
end V3
set_option maxHeartbeats 8000000
namespace V3
open PySem.Spec PySem L2 PyProof.Rows RZ GxR
section
variable {mg : Str → Option Value} {base : Heap} {K : PySem.W.Frag} {P : Program} {w : World}
abbrev s__law_draw : Stmt := topS 50
abbrev N__law_draw : List Str := ["well", "limit", "seed", "digit"]
theorem sc__law_draw : FnScope N__law_draw ["well", "limit"] (defScope s__law_draw) := ⟨rfl, rfl, rfl, by decide +kernel, rfl, by decide +kernel, by decide +kernel⟩
def spDraw : Sp := fun vs H Q _ => ∃ (a : Addr) (n : Int) (k : Nat), vs = [.ref a, .int n] ∧ Well H a k ∧ k ≤ 1000000 ∧ 0 < n ∧ n < 1073741824 ∧ ∀ H' d, But a H H' → Well H' a (k + 1) → 0 ≤ d → d < n → Q (.int d) H'
theorem ok_draw (T : Gs K mg) (F : At K mg "_law_draw" s__law_draw) : Df P w K mg base "_law_draw" 1 ["well", "limit"] spDraw := by
  have sc := sc__law_draw
  refine Df.mk' F sc (fun vs H Q E h => ?_) (fun _ _ _ _ _ _ us hl => match us, hl with | [_, _], _ => rfl) (fun f cdv A outer s H vs Q E hr h => ?_)
  · obtain ⟨a, q, u, rfl, _⟩ := h
    rfl
  · obtain ⟨a, n, k, rfl, ⟨x, y, z, hw, x0, y0, yl0, z0, zl⟩, kl, n0, nl, q⟩ := h
    refine ⟨_, (pss_cons (ps_if (pt_cmpR op_gt (pe_ix ix_list (pv 0) pe_int (fun _ _ => rfl)) pe_int (nomark _)) (pss_cons (ps_asg (pe_callB call_divmod (by rfl) T.divmod (by decide +kernel) (pa_cons (pe_ix ix_list (pv 0) pe_int (fun _ _ => rfl)) (pa_cons (pv 1) pa_nil))) (pg_tup rfl (pgs_cons (pg_sub (pv 0) pe_int set_list) (pgs_cons (pg_name (i := 3) sc.nd rfl (.inl rfl)) pgs_nil)))) (pss_one (ps_ret (pv 3)))) pss_nil) (pss_cons (ps_asg (pe_op op_add (pe_ix ix_list (pv 0) pe_int (fun _ _ => rfl)) pe_int) (pg_sub (pv 0) pe_int set_list)) (pss_cons (ps_set (i := 2) sc.nd rfl (.inl rfl) (pe_op op_mod (pe_callTy call_int1 (by rfl) T.int_ (by decide +kernel) (pa_cons (pe_op op_add (pe_op op_mul (pe_ix ix_list (pv 0) pe_int (fun _ _ => rfl)) pe_int) (pe_op op_mul (pe_ix ix_list (pv 0) pe_int (fun _ _ => rfl)) pe_int)) pa_nil)) pe_int)) (pss_cons (ps_asg (pe_op op_mod (pe_callTy call_int1 (by rfl) T.int_ (by decide +kernel) (pa_cons (pe_op op_add (pe_op op_mul (pv 2) (pe_op op_add (pe_op op_mod (pe_callTy call_int1 (by rfl) T.int_ (by decide +kernel) (pa_cons (pv 2) pa_nil)) pe_int) pe_int)) (pe_op op_mul (pe_ix ix_list (pv 0) pe_int (fun _ _ => rfl)) (pe_ix ix_list (pv 0) pe_int (fun _ _ => rfl)))) pa_nil)) pe_int) (pg_sub (pv 0) pe_int set_list)) (pss_one (ps_ret (pe_op op_mod (pe_callTy call_int1 (by rfl) T.int_ (by decide +kernel) (pa_cons (pe_op op_fdiv (pe_ix ix_list (pv 0) pe_int (fun _ _ => rfl)) pe_int) pa_nil)) (pv 1)))))))), ?_⟩
    refine ⟨_, rfl, a, _, _, _, rfl, rfl, SqL.of hw, at30, _, _, rfl, rfl, _, rfl, if2 (fun e => ?_) (fun e => ?_)⟩
    · refine ⟨_, rfl, a, _, _, _, rfl, rfl, SqL.of hw, at30, _, rfl, x, n, rfl, ⟨n0, nl⟩, fun p hp => ?_⟩
      have s1 : Same H (upd H p (.tup [.int (x / n), .int (x % n)])) := same_upd hp
      refine ⟨p, _, rfl, SqT.of upd_same, rfl, _, _, rfl, _, rfl, a, _, _, 0, rfl, rfl, s1 _ _ hw, rfl, ?_⟩
      refine ⟨_, _, rfl, rfl, ?_⟩
      refine ⟨_, rfl, ?_⟩
      exact q _ _ (But.upd (Same.but s1)) ⟨_, _, _, upd_same, Int.ediv_nonneg x0 (Int.le_of_lt n0), y0, yl0, z0, by omega⟩ (Int.emod_nonneg _ (by omega)) (Int.emod_lt_of_pos _ n0)
    · refine ⟨_, rfl, a, _, _, _, rfl, rfl, SqL.of hw, at32, _, _, rfl, rfl, _, rfl, a, _, _, 2, rfl, rfl, hw, rfl, ?_⟩
      have h1 : (upd H a (.lst (List.set [.int x, .int y, .int z] 2 (.int (z + 1))))) a = some (.lst [.int x, .int y, .int (z + 1)]) := upd_same
      have b1 : But a H (upd H a (.lst (List.set [.int x, .int y, .int z] 2 (.int (z + 1))))) := (But.refl a H).upd
      generalize upd H a (.lst (List.set [.int x, .int y, .int z] 2 (.int (z + 1)))) = H1 at b1 h1
      refine ⟨_, rfl, a, _, _, _, rfl, rfl, SqL.of h1, at31, _, _, rfl, rfl, Or.inr (by omega), ?_⟩
      refine ⟨_, rfl, a, _, _, _, rfl, rfl, SqL.of h1, at32, _, _, rfl, rfl, Or.inr (by omega), ?_⟩
      refine ⟨_, _, rfl, rfl, .inl ⟨_, rfl, ?_⟩⟩
      refine ⟨_, _, rfl, rfl, by show (0 : Int) < 2147483423; decide, ?_⟩
      have s0 : 0 ≤ (y * 48271 + (z + 1) * 30269) % 2147483423 := Int.emod_nonneg _ (by decide)
      have sl : (y * 48271 + (z + 1) * 30269) % 2147483423 < 2147483423 := Int.emod_lt_of_pos _ (by decide)



      refine ⟨_, rfl, _, rfl, .inl ⟨_, rfl, _, _, rfl, rfl, by show (0 : Int) < 4093; decide, _, _, rfl, rfl, ?_⟩⟩
      have t0 : 0 ≤ ((y * 48271 + (z + 1) * 30269) % 2147483423) % 4093 := Int.emod_nonneg _ (by decide)
      have tl : ((y * 48271 + (z + 1) * 30269) % 2147483423) % 4093 < 4093 := Int.emod_lt_of_pos _ (by decide)
      refine ⟨_, _, rfl, rfl, Or.inr (by omega), ?_⟩
      refine ⟨_, rfl, a, _, _, _, rfl, rfl, SqL.of h1, at32, _, rfl, a, _, _, _, rfl, rfl, SqL.of h1, at32, _, _, rfl, rfl, Or.inr (by omega), ?_⟩
      refine ⟨_, _, rfl, rfl, .inl ⟨_, rfl, ?_⟩⟩
      refine ⟨_, _, rfl, rfl, by show (0 : Int) < 2147483423; decide, ?_⟩
      have u0 : 0 ≤ (((y * 48271 + (z + 1) * 30269) % 2147483423) * (((y * 48271 + (z + 1) * 30269) % 2147483423) % 4093 + 32003) + (z + 1) * (z + 1)) % 2147483423 := Int.emod_nonneg _ (by decide)
      have ul : (((y * 48271 + (z + 1) * 30269) % 2147483423) * (((y * 48271 + (z + 1) * 30269) % 2147483423) % 4093 + 32003) + (z + 1) * (z + 1)) % 2147483423 < 2147483423 := Int.emod_lt_of_pos _ (by decide)
      refine ⟨_, rfl, a, _, _, 1, rfl, rfl, h1, rfl, ?_⟩
      have h2 : (upd H1 a (.lst (List.set [.int x, .int y, .int (z + 1)] 1 (.int ((((y * 48271 + (z + 1) * 30269) % 2147483423) * (((y * 48271 + (z + 1) * 30269) % 2147483423) % 4093 + 32003) + (z + 1) * (z + 1)) % 2147483423))))) a = some (.lst [.int x, .int ((((y * 48271 + (z + 1) * 30269) % 2147483423) * (((y * 48271 + (z + 1) * 30269) % 2147483423) % 4093 + 32003) + (z + 1) * (z + 1)) % 2147483423), .int (z + 1)]) := upd_same
      have b2 : But a H (upd H1 a (.lst (List.set [.int x, .int y, .int (z + 1)] 1 (.int ((((y * 48271 + (z + 1) * 30269) % 2147483423) * (((y * 48271 + (z + 1) * 30269) % 2147483423) % 4093 + 32003) + (z + 1) * (z + 1)) % 2147483423))))) := b1.upd
      refine ⟨_, rfl, a, _, _, _, rfl, rfl, SqL.of h2, at31, _, _, rfl, rfl, ⟨by decide, by decide⟩, .inl ⟨_, rfl, ?_⟩⟩
      refine ⟨_, rfl, _, _, rfl, rfl, n0, ?_⟩
      exact q _ _ b2 ⟨_, _, _, h2, x0, u0, by omega, by omega, by omega⟩ (Int.emod_nonneg _ (by omega)) (Int.emod_lt_of_pos _ n0)
abbrev s__law_pick : Stmt := topS 51
abbrev N__law_pick : List Str := ["well", "some"]
theorem sc__law_pick : FnScope N__law_pick ["well", "some"] (defScope s__law_pick) := ⟨rfl, rfl, rfl, by decide +kernel, rfl, by decide +kernel, by decide +kernel⟩
def spPick (K : PySem.W.Frag) : Sp := fun vs H Q _ => ∃ (a p : Addr) (xs : List V) (k : Nat), vs = [.ref a, .ref p] ∧ Well H a k ∧ k ≤ 1000000 ∧ SqT K H p xs ∧ 0 < xs.length ∧ xs.length ≤ 1000 ∧ ∀ H' (i : Nat) x, But a H H' → Well H' a (k + 1) → xs[i]? = some x → Q x H'
theorem ok_pick (T : Gs K mg) (D__law_draw : Df P w K mg base "_law_draw" 1 ["well", "limit"] spDraw) (F : At K mg "_law_pick" s__law_pick) : Df P w K mg base "_law_pick" 2 ["well", "some"] (spPick K) := by
  have sc := sc__law_pick
  refine Df.mk' F sc (fun vs H Q E h => ?_) (fun _ _ _ _ _ _ us hl => match us, hl with | [_, _], _ => rfl) (fun f cdv A outer s H vs Q E hr h => ?_)
  · obtain ⟨a, q, u, k, rfl, _⟩ := h
    rfl
  · obtain ⟨a, p, xs, k, rfl, hw, kl, hp, n0, nl, q⟩ := h
    refine ⟨_, (pss_one (ps_ret (pe_ix ix_tup (pv 1) (pe_fn D__law_draw (by decide) hr (pa_cons (pv 0) (pa_cons (pe_callB call_len_seq (by rfl) T.len PySem.boot_len (pa_cons (pv 1) pa_nil)) pa_nil))) (fun _ _ => rfl)))), ?_⟩
    refine ⟨_, rfl, _, rfl, _, rfl, p, _, rfl, .inr hp, a, _, k, rfl, hw, kl, by omega, by omega, fun H' d b1 w1 d0 dl => ?_⟩
    obtain ⟨i, rfl⟩ : ∃ i : Nat, d = i := ⟨d.toNat, by omega⟩
    have hi : i < xs.length := by omega
    refine ⟨p, xs, _, xs[i], rfl, rfl, (b1.ktW hw).sqT hp, at_of rfl (List.getElem?_eq_getElem hi), ?_⟩
    exact q H' i _ b1 w1 (List.getElem?_eq_getElem hi)
abbrev s__law_cut : Stmt := topS 52
abbrev N__law_cut : List Str := ["top", "under", "one", "two"]
theorem sc__law_cut : FnScope N__law_cut ["top", "under"] (defScope s__law_cut) := ⟨rfl, rfl, rfl, by decide +kernel, rfl, by decide +kernel, by decide +kernel⟩
theorem ok_cut (T : Gs K mg) (F : At K mg "_law_cut" s__law_cut) : Df P w K mg base "_law_cut" 1 ["top", "under"] spFrac := by
  have sc := sc__law_cut
  refine Df.mk' F sc (fun vs H Q E h => ?_) (fun _ _ _ _ _ _ us hl => match us, hl with | [_, _], _ => rfl) (fun f cdv A outer s H vs Q E hr h => ?_)
  · obtain ⟨n, u, rfl, _⟩ := h
    rfl
  · obtain ⟨n, u, rfl, hu, su, q⟩ := h
    refine ⟨_, (pss_cons (ps_par (i := 2) (j := 3) rfl sc.nd rfl rfl (by decide) rfl rfl (pa_cons (pe_callB call_abs (by rfl) T.abs (by decide +kernel) (pa_cons (pv 0) pa_nil)) (pa_cons (pe_callB call_abs (by rfl) T.abs (by decide +kernel) (pa_cons (pv 1) pa_nil)) pa_nil)) (by rfl)) (pss_cons (ps_while PassesOwn.never (pt_cmpR op_ne (pv 3) pe_int (nomark _)) (pss_one (ps_par (i := 2) (j := 3) rfl sc.nd rfl rfl (by decide) rfl rfl (pa_cons (pv 3) (pa_cons (pe_op op_mod (pe_callTy call_int1 (by rfl) T.int_ (by decide +kernel) (pa_cons (pv 2) pa_nil)) (pv 3)) pa_nil)) (by rfl)))) (pss_cons (ps_if (pt_cmpR op_lt (pv 1) pe_int (nomark _)) (pss_one (ps_set (i := 2) sc.nd rfl (.inl rfl) (pe_op op_sub pe_int (pv 2)))) pss_nil) (pss_one (ps_ret (pe_tup (pa_cons (pe_op op_fdivW (pv 0) (pv 2)) (pa_cons (pe_op op_fdivW (pv 1) (pv 2)) pa_nil)))))))), ?_⟩
    have en : (if n < 0 then -n else n) = ((n.natAbs : Nat) : Int) := by split <;> omega
    have eu : (if u < 0 then -u else u) = ((u.natAbs : Nat) : Int) := by split <;> omega
    refine ⟨_, rfl, n, rfl, _, rfl, u, rfl, _, _, rfl, ?_⟩
    rw [en, eu]
    refine ⟨fun m σ H' => H' = H ∧ ∃ a b : Nat, σ = [some (.int n), some (.int u), some (.int a), some (.int b)] ∧ Nat.gcd a b = Int.gcd n u ∧ m = b, ⟨_, rfl, n.natAbs, u.natAbs, rfl, rfl, rfl⟩, ?_⟩
    rintro m σ H1 ⟨rfl, a, b, rfl, hg, rfl⟩
    refine ⟨_, rfl, rfl, _, rfl, if2 (fun e => ?_) (fun e => ?_)⟩
    · have b0 : 0 < m := by
        simp at e
        omega
      refine ⟨fun σ' H' => ∃ m', m' < m ∧ (H' = H1 ∧ ∃ a b : Nat, σ' = [some (.int n), some (.int u), some (.int a), some (.int b)] ∧ Nat.gcd a b = Int.gcd n u ∧ m' = b), fun σ' H' z => z, ?_⟩
      refine ⟨_, rfl, _, rfl, .inl ⟨_, rfl, _, rfl, _, _, rfl, rfl, by show (0 : Int) < m; omega, _, _, rfl, ?_⟩⟩
      refine ⟨_, Nat.mod_lt a b0, rfl, m, a % m, ?_, ?_, rfl⟩
      · rfl
      · rw [← hg, Nat.gcd_comm a m, Nat.gcd_rec m a, Nat.gcd_comm]
    · have b0 : m = 0 := by
        simpa using e
      subst b0
      rw [Nat.gcd_zero_right] at hg
      subst hg
      have g0 := gcdP (n := n) hu
      have g1 := gcdL (n := n) hu
      have w : CDivW n (Int.gcd n u : Int) := wide_div g0 (b := 9000) (wide_le (by omega) g1 su) (by decide) (by decide)
      refine ⟨_, rfl, _, _, rfl, rfl, _, rfl, ite2 (fun e => ?_) (fun e => ?_)⟩
      · exact absurd (of_decide_eq_true e) (by omega)
      · refine ⟨_, rfl, _, rfl, _, _, rfl, rfl, w, _, rfl, _, rfl, _, _, rfl, rfl, w, by show 2 ≤ sizeLine; decide, fun p hp => ?_⟩
        exact q _ p (same_upd hp) (made hu upd_same)
abbrev s__law_add : Stmt := topS 53
abbrev N__law_add : List Str := ["one", "two"]
theorem sc__law_add : FnScope N__law_add ["one", "two"] (defScope s__law_add) := ⟨rfl, rfl, rfl, by decide +kernel, rfl, by decide +kernel, by decide +kernel⟩
theorem ok_law_add (D__law_cut : Df P w K mg base "_law_cut" 1 ["top", "under"] spFrac) (F : At K mg "_law_add" s__law_add) : Df P w K mg base "_law_add" 2 ["one", "two"] (spR2w K (· + ·)) := by
  have sc := sc__law_add
  refine Df.mk' F sc (fun vs H Q E h => ?_) (fun _ _ _ _ _ _ us hl => match us, hl with | [_, _], _ => rfl) (fun f cdv A outer s H vs Q E hr h => ?_)
  · obtain ⟨v, w, x, y, a, b, rfl, _⟩ := h
    rfl
  · obtain ⟨v, w, x, y, a, b, rfl, hx, hy, sx, sy, pa, pb, ab, q⟩ := h
    obtain ⟨p, rfl, hp⟩ := fqT hx
    obtain ⟨p', rfl, hp'⟩ := fqT hy
    refine ⟨_, (pss_one (ps_ret (pe_fn D__law_cut (by decide) hr (pa_cons (pe_op op_add (pe_op op_mulW (pe_ix ix_tup (pv 0) pe_int (fun _ _ => rfl)) (pe_ix ix_tup (pv 1) pe_int (fun _ _ => rfl))) (pe_op op_mulW (pe_ix ix_tup (pv 1) pe_int (fun _ _ => rfl)) (pe_ix ix_tup (pv 0) pe_int (fun _ _ => rfl)))) (pa_cons (pe_op op_mulW (pe_ix ix_tup (pv 0) pe_int (fun _ _ => rfl)) (pe_ix ix_tup (pv 1) pe_int (fun _ _ => rfl))) pa_nil))))), ?_⟩
    refine ⟨_, rfl, _, _, _, _, rfl, rfl, hp, at20, _, rfl, _, _, _, _, rfl, rfl, hp', at21, _, _, rfl, rfl, wide_mul sx.n (natI sy.d) pa pb (by omega), ?_⟩
    refine ⟨_, rfl, _, _, _, _, rfl, rfl, hp', at20, _, rfl, _, _, _, _, rfl, rfl, hp, at21, _, _, rfl, rfl, wide_mul sy.n (natI sx.d) pb pa (by omega), ?_⟩
    refine ⟨_, _, rfl, rfl, ?_⟩
    refine ⟨_, rfl, _, _, _, _, rfl, rfl, hp, at21, _, rfl, _, _, _, _, rfl, rfl, hp', at21, _, _, rfl, rfl, wide_mul (natI sx.d) (natI sy.d) pa pb (by omega), ?_⟩
    dsimp only at q
    rw [radd] at q
    exact ⟨_, _, rfl, Int.mul_pos (rden_pos x) (rden_pos y), Nat.lt_of_lt_of_le (mulI (natI sx.d) (natI sy.d)) (pw (by omega)), q⟩
abbrev s__law_sub : Stmt := topS 54
abbrev N__law_sub : List Str := ["one", "two"]
theorem sc__law_sub : FnScope N__law_sub ["one", "two"] (defScope s__law_sub) := ⟨rfl, rfl, rfl, by decide +kernel, rfl, by decide +kernel, by decide +kernel⟩
theorem ok_law_sub (D__law_cut : Df P w K mg base "_law_cut" 1 ["top", "under"] spFrac) (F : At K mg "_law_sub" s__law_sub) : Df P w K mg base "_law_sub" 2 ["one", "two"] (spR2w K (· - ·)) := by
  have sc := sc__law_sub
  refine Df.mk' F sc (fun vs H Q E h => ?_) (fun _ _ _ _ _ _ us hl => match us, hl with | [_, _], _ => rfl) (fun f cdv A outer s H vs Q E hr h => ?_)
  · obtain ⟨v, w, x, y, a, b, rfl, _⟩ := h
    rfl
  · obtain ⟨v, w, x, y, a, b, rfl, hx, hy, sx, sy, pa, pb, ab, q⟩ := h
    obtain ⟨p, rfl, hp⟩ := fqT hx
    obtain ⟨p', rfl, hp'⟩ := fqT hy
    refine ⟨_, (pss_one (ps_ret (pe_fn D__law_cut (by decide) hr (pa_cons (pe_op op_sub (pe_op op_mulW (pe_ix ix_tup (pv 0) pe_int (fun _ _ => rfl)) (pe_ix ix_tup (pv 1) pe_int (fun _ _ => rfl))) (pe_op op_mulW (pe_ix ix_tup (pv 1) pe_int (fun _ _ => rfl)) (pe_ix ix_tup (pv 0) pe_int (fun _ _ => rfl)))) (pa_cons (pe_op op_mulW (pe_ix ix_tup (pv 0) pe_int (fun _ _ => rfl)) (pe_ix ix_tup (pv 1) pe_int (fun _ _ => rfl))) pa_nil))))), ?_⟩
    refine ⟨_, rfl, _, _, _, _, rfl, rfl, hp, at20, _, rfl, _, _, _, _, rfl, rfl, hp', at21, _, _, rfl, rfl, wide_mul sx.n (natI sy.d) pa pb (by omega), ?_⟩
    refine ⟨_, rfl, _, _, _, _, rfl, rfl, hp', at20, _, rfl, _, _, _, _, rfl, rfl, hp, at21, _, _, rfl, rfl, wide_mul sy.n (natI sx.d) pb pa (by omega), ?_⟩
    refine ⟨_, _, rfl, rfl, ?_⟩
    refine ⟨_, rfl, _, _, _, _, rfl, rfl, hp, at21, _, rfl, _, _, _, _, rfl, rfl, hp', at21, _, _, rfl, rfl, wide_mul (natI sx.d) (natI sy.d) pa pb (by omega), ?_⟩
    dsimp only at q
    rw [rsub] at q
    exact ⟨_, _, rfl, Int.mul_pos (rden_pos x) (rden_pos y), Nat.lt_of_lt_of_le (mulI (natI sx.d) (natI sy.d)) (pw (by omega)), q⟩
abbrev s__law_mul : Stmt := topS 55
abbrev N__law_mul : List Str := ["one", "two"]
theorem sc__law_mul : FnScope N__law_mul ["one", "two"] (defScope s__law_mul) := ⟨rfl, rfl, rfl, by decide +kernel, rfl, by decide +kernel, by decide +kernel⟩
theorem ok_law_mul (D__law_cut : Df P w K mg base "_law_cut" 1 ["top", "under"] spFrac) (F : At K mg "_law_mul" s__law_mul) : Df P w K mg base "_law_mul" 2 ["one", "two"] (spR2w K (· * ·)) := by
  have sc := sc__law_mul
  refine Df.mk' F sc (fun vs H Q E h => ?_) (fun _ _ _ _ _ _ us hl => match us, hl with | [_, _], _ => rfl) (fun f cdv A outer s H vs Q E hr h => ?_)
  · obtain ⟨v, w, x, y, a, b, rfl, _⟩ := h
    rfl
  · obtain ⟨v, w, x, y, a, b, rfl, hx, hy, sx, sy, pa, pb, ab, q⟩ := h
    obtain ⟨p, rfl, hp⟩ := fqT hx
    obtain ⟨p', rfl, hp'⟩ := fqT hy
    refine ⟨_, (pss_one (ps_ret (pe_fn D__law_cut (by decide) hr (pa_cons (pe_op op_mulW (pe_ix ix_tup (pv 0) pe_int (fun _ _ => rfl)) (pe_ix ix_tup (pv 1) pe_int (fun _ _ => rfl))) (pa_cons (pe_op op_mulW (pe_ix ix_tup (pv 0) pe_int (fun _ _ => rfl)) (pe_ix ix_tup (pv 1) pe_int (fun _ _ => rfl))) pa_nil))))), ?_⟩
    refine ⟨_, rfl, _, _, _, _, rfl, rfl, hp, at20, _, rfl, _, _, _, _, rfl, rfl, hp', at20, _, _, rfl, rfl, wide_mul sx.n sy.n pa pb (by omega), ?_⟩
    refine ⟨_, rfl, _, _, _, _, rfl, rfl, hp, at21, _, rfl, _, _, _, _, rfl, rfl, hp', at21, _, _, rfl, rfl, wide_mul (natI sx.d) (natI sy.d) pa pb (by omega), ?_⟩
    dsimp only at q
    rw [rmul] at q
    exact ⟨_, _, rfl, Int.mul_pos (rden_pos x) (rden_pos y), Nat.lt_of_lt_of_le (mulI (natI sx.d) (natI sy.d)) (pw (by omega)), q⟩
abbrev s__law_less : Stmt := topS 56
abbrev N__law_less : List Str := ["one", "two"]
theorem sc__law_less : FnScope N__law_less ["one", "two"] (defScope s__law_less) := ⟨rfl, rfl, rfl, by decide +kernel, rfl, by decide +kernel, by decide +kernel⟩
theorem ok_law_less (F : At K mg "_law_less" s__law_less) : Df P w K mg base "_law_less" 1 ["one", "two"] (spR2b K fun x y => decide (x < y)) := by
  have sc := sc__law_less
  refine Df.mk' F sc (fun vs H Q E h => ?_) (fun _ _ _ _ _ _ us hl => match us, hl with | [_, _], _ => rfl) (fun f cdv A outer s H vs Q E hr h => ?_)
  · obtain ⟨v, w, x, y, rfl, _⟩ := h
    rfl
  · obtain ⟨v, w, x, y, rfl, hx, hy, sx, sy, q⟩ := h
    obtain ⟨p, rfl, hp⟩ := fqT hx
    obtain ⟨p', rfl, hp'⟩ := fqT hy
    refine ⟨_, (pss_one (ps_ret (pe_cmpR op_lt (pe_op op_mulW (pe_ix ix_tup (pv 0) pe_int (fun _ _ => rfl)) (pe_ix ix_tup (pv 1) pe_int (fun _ _ => rfl))) (pe_op op_mulW (pe_ix ix_tup (pv 1) pe_int (fun _ _ => rfl)) (pe_ix ix_tup (pv 0) pe_int (fun _ _ => rfl))) (nomark _)))), ?_⟩
    refine ⟨_, rfl, _, _, _, _, rfl, rfl, hp, at20, _, rfl, _, _, _, _, rfl, rfl, hp', at21, _, _, rfl, rfl, mulW4 sx.n (natI sy.d), ?_⟩
    refine ⟨_, rfl, _, _, _, _, rfl, rfl, hp', at20, _, rfl, _, _, _, _, rfl, rfl, hp, at21, _, _, rfl, rfl, mulW4 sy.n (natI sx.d), ?_⟩
    dsimp only at q
    rw [← rlt] at q
    exact ⟨_, _, rfl, rfl, q⟩
abbrev s__law_well : Stmt := topS 49
abbrev N__law_well : List Str := ["script", "turn", "start", "mixed", "cell", "own"]
theorem sc__law_well : FnScope N__law_well ["script", "turn", "start"] (defScope s__law_well) := ⟨rfl, rfl, rfl, by decide +kernel, rfl, by decide +kernel, by decide +kernel⟩
def spWell (K : PySem.W.Frag) : Sp := fun vs H Q _ => ∃ (a : Addr) (ns : List Int) (t : Nat) (st : Int), vs = [.ref a, .int t, .int st] ∧ SqL K H a (ns.map V.int) ∧ ∀ H' p, Same H H' → H p = none → Well H' p 0 → Q (.ref p) H'
theorem ok_well (T : Gs K mg) (F : At K mg "_law_well" s__law_well) : Df P w K mg base "_law_well" 1 ["script", "turn", "start"] (spWell K) := by
  have sc := sc__law_well
  refine Df.mk' F sc (fun vs H Q E h => ?_) (fun _ _ _ _ _ _ us hl => match us, hl with | [_, _, _], _ => rfl) (fun f cdv A outer s H vs Q E hr h => ?_)
  · obtain ⟨a, ns, t, st, rfl, _⟩ := h
    rfl
  · obtain ⟨a, ns, t, st, rfl, ha, q⟩ := h
    refine ⟨_, (pss_cons (ps_set (i := 3) sc.nd rfl (.inl rfl) (pe_op op_add (pv 2) (pe_op op_mul pe_int (pv 1)))) (pss_cons (ps_for PassesOwn.never rfl (pi_list (pe_slice sl_list (pv 0) po_none (po_some pe_int))) (pg_name (i := 4) sc.nd rfl (.inl rfl)) (pss_one (ps_set (i := 3) sc.nd rfl (.inl rfl) (pe_op op_mod (pe_callTy call_int1 (by rfl) T.int_ (by decide +kernel) (pa_cons (pe_op op_add (pe_op op_add (pe_op op_mul (pv 3) pe_int) (pe_op op_mul (pe_op op_mod (pe_callTy call_int1 (by rfl) T.int_ (by decide +kernel) (pa_cons (pv 4) pa_nil)) pe_int) pe_int)) pe_int) pa_nil)) pe_int)))) (pss_cons (ps_set (i := 5) sc.nd rfl (.inl rfl) (pe_ifExp (pt_cmpR op_lt (pv 1) (pe_callB call_len_seq (by rfl) T.len PySem.boot_len (pa_cons (pv 0) pa_nil)) (nomark _)) (pe_callTy call_int1 (by rfl) T.int_ (by decide +kernel) (pa_cons (pe_ix ix_list (pv 0) (pv 1) (fun _ _ => rfl)) pa_nil)) pe_int)) (pss_cons (ps_set (i := 3) sc.nd rfl (.inl rfl) (pe_op op_mod (pe_callTy call_int1 (by rfl) T.int_ (by decide +kernel) (pa_cons (pe_op op_add (pe_op op_add (pv 3) (pe_op op_mul (pe_op op_mod (pe_callTy call_int1 (by rfl) T.int_ (by decide +kernel) (pa_cons (pv 5) pa_nil)) pe_int) pe_int)) (pe_op op_mul pe_int (pv 1))) pa_nil)) pe_int)) (pss_one (ps_ret (pe_lst (pa_cons (pe_ifExp (PW.pt (pw_or (pt_cmpR op_lt (pv 5) pe_int (nomark _)) (pw_or1 (pt_cmpR op_gt (pv 5) (pe_op op_pow pe_int pe_int) (nomark _))))) (pe_callB call_abs (by rfl) T.abs (by decide +kernel) (pa_cons (pv 5) pa_nil)) pe_int) (pa_cons (pv 3) (pa_cons pe_int pa_nil)))))))))), ?_⟩
    refine ⟨_, rfl, _, rfl, _, _, rfl, rfl, Or.inl (by decide), _, _, rfl, rfl, ?_⟩
    refine ⟨_, rfl, _, rfl, a, _, rfl, ha, fun pc hpc => ?_⟩
    have s1 : Same H (upd H pc (.lst (cutV (ns.map V.int) none (some 9)))) := same_upd hpc
    refine ⟨pc, rfl, ⟨_, SqL.of upd_same⟩, for_list (K := K) (a := pc) (xs := cutV (ns.map V.int) none (some 9)) (fun i σ H' => ∃ (m : Int) (y : Option V), σ = [some (.ref a), some (.int t), some (.int st), some (.int m), y, none] ∧ H' = upd H pc (.lst (cutV (ns.map V.int) none (some 9)))) ⟨_, _, rfl, rfl⟩
      (fun i σ H' _ ⟨_, _, _, e⟩ => by rw [e]; exact SqL.of upd_same) ?_ ?_⟩
    · rintro i x σ H' hi ⟨m, y, rfl, rfl⟩
      obtain ⟨n, _, rfl⟩ := List.mem_map.mp (cutV_mem (List.mem_of_getElem? hi))
      refine ⟨_, rfl, _, _, rfl, rfl, Or.inr (by decide), ?_⟩
      refine ⟨_, rfl, .inl ⟨_, rfl, _, _, rfl, rfl, by show (0 : Int) < 1999999973; decide, _, _, rfl, rfl, Or.inr (by decide), ?_⟩⟩
      refine ⟨_, _, rfl, rfl, _, _, rfl, rfl, .inl ⟨_, rfl, _, _, rfl, rfl, by show (0 : Int) < 2147483423; decide, ?_⟩⟩
      exact ⟨_, _, rfl, rfl⟩
    · rintro σ H' ⟨m, y, rfl, rfl⟩
      have ha' : SqL K (upd H pc (.lst (cutV (ns.map V.int) none (some 9)))) a (ns.map V.int) := s1.seq ha
      generalize upd H pc (.lst (cutV (ns.map V.int) none (some 9))) = H1 at s1 ha'
      have fin : ∀ (p : Addr), H1 p = none → ∀ x z : Int, 0 ≤ x → 0 ≤ z → z < 2147483647 → Q (.ref p) (upd H1 p (.lst [.int x, .int z, .int 0])) := fun p hp x z h1 h2 h3 =>
        q _ p (s1.trans (same_upd hp)) (by cases e : H p with | none => rfl | some o => rw [s1 _ _ e] at hp; cases hp) ⟨x, z, 0, upd_same, h1, h2, h3, by decide, by decide⟩
      refine ⟨_, rfl, _, rfl, _, _, rfl, .inl ha', _, _, rfl, rfl, _, rfl, if2 (fun e => ?_) (fun e => ?_)⟩
      · have lt : t < (ns.map V.int).length := by
          have := of_decide_eq_true e
          omega
        have ln : t < ns.length := by rw [List.length_map] at lt; exact lt
        refine ⟨_, rfl, _, rfl, _, _, _, _, rfl, rfl, ha', at_of rfl (show (ns.map V.int)[t]? = some (.int ns[t]) by rw [List.getElem?_map, List.getElem?_eq_getElem ln]; rfl), .inl ⟨_, rfl, ?_⟩⟩
        refine ⟨_, rfl, _, rfl, .inl ⟨_, rfl, _, _, rfl, rfl, by show (0 : Int) < 1999999973; decide, _, _, rfl, rfl, Or.inr (by decide), _, _, rfl, rfl, ?_⟩⟩
        refine ⟨_, rfl, _, _, rfl, rfl, Or.inl (by decide), _, _, rfl, rfl, .inl ⟨_, rfl, _, _, rfl, rfl, by show (0 : Int) < 2147483423; decide, ?_⟩⟩
        have m0 : ∀ z : Int, 0 ≤ z % 2147483423 := fun z => Int.emod_nonneg _ (by decide)
        have ml : ∀ z : Int, z % 2147483423 < 2147483423 := fun z => Int.emod_lt_of_pos _ (by decide)
        refine ⟨_, rfl, _, _, rfl, rfl, _, rfl, if2 (fun e2 => ?_) (fun e2 => ?_)⟩
        · refine ⟨_, rfl, _, rfl, _, rfl, by show 3 ≤ sizeLine; decide, fun p hp => ?_⟩
          exact fin p hp _ _ (by split <;> omega) (m0 _) (Int.lt_trans (ml _) (by decide))
        · refine ⟨_, rfl, _, _, rfl, rfl, ⟨by decide, by decide, by decide⟩, _, _, rfl, rfl, _, rfl, if2 (fun e3 => ?_) (fun e3 => ?_)⟩
          · refine ⟨_, rfl, _, rfl, _, rfl, by show 3 ≤ sizeLine; decide, fun p hp => ?_⟩
            exact fin p hp _ _ (by split <;> omega) (m0 _) (Int.lt_trans (ml _) (by decide))
          · refine ⟨_, rfl, by show 3 ≤ sizeLine; decide, fun p hp => ?_⟩
            exact fin p hp _ _ (by decide) (m0 _) (Int.lt_trans (ml _) (by decide))
      · refine ⟨_, rfl, _, rfl, .inl ⟨_, rfl, _, _, rfl, rfl, by show (0 : Int) < 1999999973; decide, _, _, rfl, rfl, Or.inr (by decide), _, _, rfl, rfl, ?_⟩⟩
        refine ⟨_, rfl, _, _, rfl, rfl, Or.inl (by decide), _, _, rfl, rfl, .inl ⟨_, rfl, _, _, rfl, rfl, by show (0 : Int) < 2147483423; decide, ?_⟩⟩
        have m0 : ∀ z : Int, 0 ≤ z % 2147483423 := fun z => Int.emod_nonneg _ (by decide)
        have ml : ∀ z : Int, z % 2147483423 < 2147483423 := fun z => Int.emod_lt_of_pos _ (by decide)
        refine ⟨_, rfl, _, _, rfl, rfl, _, rfl, if2 (fun e2 => ?_) (fun e2 => ?_)⟩
        · refine ⟨_, rfl, _, rfl, _, rfl, by show 3 ≤ sizeLine; decide, fun p hp => ?_⟩
          exact fin p hp _ _ (by split <;> omega) (m0 _) (Int.lt_trans (ml _) (by decide))
        · refine ⟨_, rfl, _, _, rfl, rfl, ⟨by decide, by decide, by decide⟩, _, _, rfl, rfl, _, rfl, if2 (fun e3 => ?_) (fun e3 => ?_)⟩
          · refine ⟨_, rfl, _, rfl, _, rfl, by show 3 ≤ sizeLine; decide, fun p hp => ?_⟩
            exact fin p hp _ _ (by split <;> omega) (m0 _) (Int.lt_trans (ml _) (by decide))
          · refine ⟨_, rfl, by show 3 ≤ sizeLine; decide, fun p hp => ?_⟩
            exact fin p hp _ _ (by decide) (m0 _) (Int.lt_trans (ml _) (by decide))
end
end V3
namespace V3
open PySem.Spec PySem L2 PyProof.Rows RZ GxR
section
variable {mg : Str → Option Value} {base : Heap} {K : PySem.W.Frag} {P : Program} {w : World}
abbrev s__law_down : Stmt := topS 57
abbrev N__law_down : List Str := ["some", "found", "each", "x"]
theorem sc__law_down : FnScope N__law_down ["some"] (defScope s__law_down) := ⟨rfl, rfl, rfl, by decide +kernel, rfl, by decide +kernel, by decide +kernel⟩
def spDown (K : PySem.W.Frag) : Sp := fun vs H Q _ => ∃ (a : Addr) (xs : List V) (qs : List Rat), vs = [.ref a] ∧ (SqL K H a xs ∨ SqT K H a xs) ∧ DpTAll K H xs (qs.map frd) ∧ (∀ q ∈ qs, Bq 100 q) ∧ qs.length ≤ 100 ∧
  ∀ H' p ys, Same H H' → H' p = some (.tup ys) → DpTAll K H' ys ((downQ qs).map frd) → Q (.ref p) H'
def DownInv (K : PySem.W.Frag) (H : Hp) (a pf : Addr) (qs : List Rat) (i : Nat) (σ : L2.St) (H' : Hp) : Prop :=
  ∃ (y z : Option V) (zs : List V), σ = [some (.ref a), some (.ref pf), y, z] ∧ Same H H' ∧ H' pf = some (.lst zs) ∧ DpTAll K H' zs ((downQ (qs.take i)).map frd)
theorem ok_down (T : Gs K mg) (D__law_less : Df P w K mg base "_law_less" 1 ["one", "two"] (spR2b K fun x y => decide (x < y))) (F : At K mg "_law_down" s__law_down) : Df P w K mg base "_law_down" 2 ["some"] (spDown K) := by
  have sc := sc__law_down
  refine Df.mk' F sc (fun vs H Q E h => ?_) (fun _ _ _ _ _ _ us hl => match us, hl with | [_], _ => rfl) (fun f cdv A outer s H vs Q E hr h => ?_)
  · obtain ⟨a, q, u, rfl, _⟩ := h
    rfl
  · obtain ⟨a, xs, qs, rfl, hsq, hA, sf, l100, q⟩ := h
    have hl : xs.length = qs.length := by rw [dtAll_len hA, List.length_map]
    rcases hsq with hsq | hsq
    · refine ⟨_, (pss_cons (ps_set (i := 1) sc.nd rfl (.inl rfl) (pe_lst pa_nil)) (pss_cons (ps_for PassesOwn.never rfl (pi_list (pv 0)) (pg_name (i := 2) sc.nd rfl (.inr rfl)) (pss_one (ps_expr (pe_bm PySem.F.plainAttrs_list PySem.F.slot_list_insert PySem.F.type_list_insert mt_insert (pv 1) (pa_cons (pe_callB call_len_seq (by rfl) T.len PySem.boot_len (pa_cons (pe_lc (own := [("x", 3)]) (g := gName 3) rfl sc.nd (pi_list (pv 1)) (blkOk_by (own := [("x", 3)]) (N := N__law_down) (sc := defScope s__law_down) (by decide +kernel)) (fun _ _ _ _ _ => (pg_name (i := 3) sc.nd rfl (.inl rfl))) (fun _ _ _ _ _ => (pts_one (pt_not (pt_val (pe_fn D__law_less (by decide) hr (pa_cons (pv 3) (pa_cons (pv 2) pa_nil))))))) (fun _ _ _ _ _ => (pv 3))) pa_nil)) (pa_cons (pv 2) pa_nil)))))) (pss_one (ps_ret (pe_callTy call_tuple_of (by rfl) T.tuple_ (by decide +kernel) (pa_cons (pv 1) pa_nil)))))), ?_⟩
      refine ⟨by show 0 ≤ sizeLine; decide, fun pf hpf => ?_⟩
      refine ⟨_, rfl, a, rfl, ⟨_, (same_upd hpf).seq hsq⟩, for_list (K := K) (a := a) (xs := xs) (DownInv K H a pf qs) ⟨_, _, [], rfl, same_upd hpf, upd_same, .nil⟩ (fun i σ H' _ ⟨_, _, _, _, sm, _⟩ => sm.seq hsq) ?_ ?_⟩
      · rintro i x σ H' hi ⟨y, z, zs, rfl, sm, hz, hzs⟩
        obtain ⟨d, hd', hdp⟩ := dtAll_getV hA hi
        rw [List.getElem?_map] at hd'
        obtain ⟨e, he, rfl⟩ := Option.map_eq_some_iff.mp hd'
        have hil : i < qs.length := (List.getElem?_eq_some_iff.mp he).1
        have dl := downQ_len (qs.take i)
        have dsf : ∀ x ∈ downQ (qs.take i), Bq 4000 x := fun x hx => (sf x (List.mem_of_mem_take (downQ_mem.mp hx))).mono (by decide)
        have lz : zs.length ≤ 100 := by
          rw [dtAll_len hzs, List.length_map, dl, List.length_take]
          omega
        refine ⟨_, rfl, .inl ⟨rfl, _, SqL.of hz⟩, ?_⟩
        refine ⟨_, rfl, pf, rfl, ⟨_, SqL.of hz⟩, fun D hD => lc_list (K := K) (a := pf) (xs := zs) (fun j H2 => Same H' H2 ∧ ∃ acc, H2 D = some (.lst acc) ∧ acc.length = (((downQ (qs.take i)).take j).filter (geQ e)).length) ⟨same_upd hD, [], upd_same, rfl⟩ (fun j H2 _ h => h.1.seq (SqL.of hz)) ?_ ?_⟩
        · rintro j x2 H2 hj ⟨s2, acc, hacc, lacc⟩
          obtain ⟨d2, hd2, hdp2⟩ := dtAll_getV hzs hj
          rw [List.getElem?_map] at hd2
          obtain ⟨x3, hx3, rfl⟩ := Option.map_eq_some_iff.mp hd2
          have hm : x3 ∈ downQ (qs.take i) := List.mem_of_getElem? hx3
          have hjl : j < (downQ (qs.take i)).length := (List.getElem?_eq_some_iff.mp hx3).1
          rw [take_more hx3, List.filter_append, List.length_append]
          refine ⟨rfl, ?_⟩
          refine ⟨_, rfl, _, rfl, _, _, x3, e, rfl, DpT.keep (Same.kt s2) hdp2, DpT.keep (Same.kt (sm.trans s2)) hdp, dsf _ hm, (sf _ (List.mem_of_getElem? he)).mono (by decide), _, rfl, ?_⟩
          have g : geQ e x3 = !decide (x3 < e) := rfl
          have one : ([x3].filter (geQ e)).length = if geQ e x3 = true then 1 else 0 := by
            cases c : geQ e x3 with
            | true => rw [List.filter_cons_of_pos c]; rfl
            | false => rw [List.filter_cons_of_neg (by rw [c]; simp)]; rfl
          have lf : (((downQ (qs.take i)).take j).filter (geQ e)).length ≤ 100 := by
            have h1 := List.length_filter_le (geQ e) ((downQ (qs.take i)).take j)
            rw [List.length_take] at h1
            rw [dl, List.length_take] at hjl
            omega
          rw [one, g]
          refine if2 (fun c => ?_) (fun c => ?_)
          · rw [c]
            refine ⟨_, rfl, acc, hacc, small1000 (by omega), same_updN s2 hD, ?_⟩
            · exact ⟨_, upd_same, by rw [List.length_append, lacc]; rfl⟩
          · rw [c]
            exact ⟨s2, acc, hacc, lacc⟩
        · rintro H2 ⟨s2, acc, hacc, lacc⟩
          have ez : (downQ (qs.take i)).length = zs.length := by rw [dtAll_len hzs, List.length_map]
          rw [← ez, List.take_length] at lacc
          have lf : ((downQ (qs.take i)).filter (geQ e)).length ≤ 100 := by
            have h1 := List.length_filter_le (geQ e) (downQ (qs.take i))
            omega
          refine ⟨D, _, rfl, .inl (SqL.of hacc), _, rfl, pf, zs, _, _, rfl, rfl, s2 _ _ hz, small1000 (by omega), by omega, by omega, ?_⟩
          rw [Int.toNat_natCast, lacc]
          have hz2 := s2 _ _ hz
          refine ⟨_, _, _, rfl, same_updN (sm.trans s2) hpf, upd_same, ?_⟩
          rw [downQ_more he]
          unfold insAtQ
          rw [List.map_append, List.map_append, List.map_take, List.map_drop]
          have hk := (hzs.keep (Same.kt s2)).keep (kt_lst (o := .lst (zs.take ((downQ (qs.take i)).filter (geQ e)).length ++ [x] ++ zs.drop ((downQ (qs.take i)).filter (geQ e)).length)) hz2)
          exact dtAll_app (dtAll_app (dtAll_takeN _ hk) (.cons (DpT.keep ((Same.kt (sm.trans s2)).trans (kt_lst hz2)) hdp) .nil)) (dtAll_dropN _ hk)
      · rintro σ H' ⟨y, z, zs, rfl, sm, hz, hzs⟩
        refine ⟨_, rfl, pf, zs, rfl, .inl ⟨SqL.of hz, fun l hl' => ?_⟩⟩
        rw [hl, List.take_length] at hzs
        exact q _ l zs (sm.trans (same_upd hl')) upd_same (hzs.keep (Same.kt (same_upd hl')))
    · refine ⟨_, (pss_cons (ps_set (i := 1) sc.nd rfl (.inl rfl) (pe_lst pa_nil)) (pss_cons (ps_for PassesOwn.never rfl (pi_tup (pv 0)) (pg_name (i := 2) sc.nd rfl (.inr rfl)) (pss_one (ps_expr (pe_bm PySem.F.plainAttrs_list PySem.F.slot_list_insert PySem.F.type_list_insert mt_insert (pv 1) (pa_cons (pe_callB call_len_seq (by rfl) T.len PySem.boot_len (pa_cons (pe_lc (own := [("x", 3)]) (g := gName 3) rfl sc.nd (pi_list (pv 1)) (blkOk_by (own := [("x", 3)]) (N := N__law_down) (sc := defScope s__law_down) (by decide +kernel)) (fun _ _ _ _ _ => (pg_name (i := 3) sc.nd rfl (.inl rfl))) (fun _ _ _ _ _ => (pts_one (pt_not (pt_val (pe_fn D__law_less (by decide) hr (pa_cons (pv 3) (pa_cons (pv 2) pa_nil))))))) (fun _ _ _ _ _ => (pv 3))) pa_nil)) (pa_cons (pv 2) pa_nil)))))) (pss_one (ps_ret (pe_callTy call_tuple_of (by rfl) T.tuple_ (by decide +kernel) (pa_cons (pv 1) pa_nil)))))), ?_⟩
      refine ⟨by show 0 ≤ sizeLine; decide, fun pf hpf => ?_⟩
      refine ⟨_, rfl, a, rfl, ⟨_, sameT (same_upd hpf) hsq⟩, for_tup (K := K) (a := a) (xs := xs) (DownInv K H a pf qs) ⟨_, _, [], rfl, same_upd hpf, upd_same, .nil⟩ (fun i σ H' _ ⟨_, _, _, _, sm, _⟩ => sameT sm hsq) ?_ ?_⟩
      · rintro i x σ H' hi ⟨y, z, zs, rfl, sm, hz, hzs⟩
        obtain ⟨d, hd', hdp⟩ := dtAll_getV hA hi
        rw [List.getElem?_map] at hd'
        obtain ⟨e, he, rfl⟩ := Option.map_eq_some_iff.mp hd'
        have hil : i < qs.length := (List.getElem?_eq_some_iff.mp he).1
        have dl := downQ_len (qs.take i)
        have dsf : ∀ x ∈ downQ (qs.take i), Bq 4000 x := fun x hx => (sf x (List.mem_of_mem_take (downQ_mem.mp hx))).mono (by decide)
        have lz : zs.length ≤ 100 := by
          rw [dtAll_len hzs, List.length_map, dl, List.length_take]
          omega
        refine ⟨_, rfl, .inl ⟨rfl, _, SqL.of hz⟩, ?_⟩
        refine ⟨_, rfl, pf, rfl, ⟨_, SqL.of hz⟩, fun D hD => lc_list (K := K) (a := pf) (xs := zs) (fun j H2 => Same H' H2 ∧ ∃ acc, H2 D = some (.lst acc) ∧ acc.length = (((downQ (qs.take i)).take j).filter (geQ e)).length) ⟨same_upd hD, [], upd_same, rfl⟩ (fun j H2 _ h => h.1.seq (SqL.of hz)) ?_ ?_⟩
        · rintro j x2 H2 hj ⟨s2, acc, hacc, lacc⟩
          obtain ⟨d2, hd2, hdp2⟩ := dtAll_getV hzs hj
          rw [List.getElem?_map] at hd2
          obtain ⟨x3, hx3, rfl⟩ := Option.map_eq_some_iff.mp hd2
          have hm : x3 ∈ downQ (qs.take i) := List.mem_of_getElem? hx3
          have hjl : j < (downQ (qs.take i)).length := (List.getElem?_eq_some_iff.mp hx3).1
          rw [take_more hx3, List.filter_append, List.length_append]
          refine ⟨rfl, ?_⟩
          refine ⟨_, rfl, _, rfl, _, _, x3, e, rfl, DpT.keep (Same.kt s2) hdp2, DpT.keep (Same.kt (sm.trans s2)) hdp, dsf _ hm, (sf _ (List.mem_of_getElem? he)).mono (by decide), _, rfl, ?_⟩
          have g : geQ e x3 = !decide (x3 < e) := rfl
          have one : ([x3].filter (geQ e)).length = if geQ e x3 = true then 1 else 0 := by
            cases c : geQ e x3 with
            | true => rw [List.filter_cons_of_pos c]; rfl
            | false => rw [List.filter_cons_of_neg (by rw [c]; simp)]; rfl
          have lf : (((downQ (qs.take i)).take j).filter (geQ e)).length ≤ 100 := by
            have h1 := List.length_filter_le (geQ e) ((downQ (qs.take i)).take j)
            rw [List.length_take] at h1
            rw [dl, List.length_take] at hjl
            omega
          rw [one, g]
          refine if2 (fun c => ?_) (fun c => ?_)
          · rw [c]
            refine ⟨_, rfl, acc, hacc, small1000 (by omega), same_updN s2 hD, ?_⟩
            · exact ⟨_, upd_same, by rw [List.length_append, lacc]; rfl⟩
          · rw [c]
            exact ⟨s2, acc, hacc, lacc⟩
        · rintro H2 ⟨s2, acc, hacc, lacc⟩
          have ez : (downQ (qs.take i)).length = zs.length := by rw [dtAll_len hzs, List.length_map]
          rw [← ez, List.take_length] at lacc
          have lf : ((downQ (qs.take i)).filter (geQ e)).length ≤ 100 := by
            have h1 := List.length_filter_le (geQ e) (downQ (qs.take i))
            omega
          refine ⟨D, _, rfl, .inl (SqL.of hacc), _, rfl, pf, zs, _, _, rfl, rfl, s2 _ _ hz, small1000 (by omega), by omega, by omega, ?_⟩
          rw [Int.toNat_natCast, lacc]
          have hz2 := s2 _ _ hz
          refine ⟨_, _, _, rfl, same_updN (sm.trans s2) hpf, upd_same, ?_⟩
          rw [downQ_more he]
          unfold insAtQ
          rw [List.map_append, List.map_append, List.map_take, List.map_drop]
          have hk := (hzs.keep (Same.kt s2)).keep (kt_lst (o := .lst (zs.take ((downQ (qs.take i)).filter (geQ e)).length ++ [x] ++ zs.drop ((downQ (qs.take i)).filter (geQ e)).length)) hz2)
          exact dtAll_app (dtAll_app (dtAll_takeN _ hk) (.cons (DpT.keep ((Same.kt (sm.trans s2)).trans (kt_lst hz2)) hdp) .nil)) (dtAll_dropN _ hk)
      · rintro σ H' ⟨y, z, zs, rfl, sm, hz, hzs⟩
        refine ⟨_, rfl, pf, zs, rfl, .inl ⟨SqL.of hz, fun l hl' => ?_⟩⟩
        rw [hl, List.take_length] at hzs
        exact q _ l zs (sm.trans (same_upd hl')) upd_same (hzs.keep (Same.kt (same_upd hl')))
abbrev s__law_number : Stmt := topS 63
abbrev N__law_number : List Str := ["well", "way"]
theorem sc__law_number : FnScope N__law_number ["well"] (defScope s__law_number) := ⟨rfl, rfl, rfl, by decide +kernel, rfl, by decide +kernel, by decide +kernel⟩
def spNumber (K : PySem.W.Frag) : Sp := fun vs H Q _ => ∃ (a : Addr) (k : Nat), vs = [.ref a] ∧ Well H a k ∧ k ≤ 900000 ∧ ∀ H' v q, But a H H' → Well H' a (k + 3) → DpT K H' v (frd q) → Nm q → Q v H'
theorem sz_small {u : Int} (h1 : 1 ≤ u) (h2 : u ≤ 2000) : u.natAbs < 2 ^ 9000 := Nat.lt_of_lt_of_le (show u.natAbs < 2 ^ 22 by omega) (pw (by decide))
theorem num_of {n u : Int} (h1 : 1 ≤ u) (h2 : u ≤ 90) (h3 : n ≤ 1000000) (h4 : -1000000 ≤ n) : Nm (Rat.divInt n u) := b2_div (by omega) (by omega) (by omega)
theorem whole_div (n : Int) : (Rat.divInt n 1).num = n ∧ ((Rat.divInt n 1).den : Int) = 1 := by
  rw [dnum (by decide), dden (by decide)]
  simp
theorem ok_number (T : Gs K mg) (D__law_draw : Df P w K mg base "_law_draw" 1 ["well", "limit"] spDraw) (D__law_cut : Df P w K mg base "_law_cut" 1 ["top", "under"] spFrac) (F : At K mg "_law_number" s__law_number) : Df P w K mg base "_law_number" 2 ["well"] (spNumber K) := by
  have sc := sc__law_number
  refine Df.mk' F sc (fun vs H Q E h => ?_) (fun _ _ _ _ _ _ us hl => match us, hl with | [_], _ => rfl) (fun f cdv A outer s H vs Q E hr h => ?_)
  · obtain ⟨a, k, rfl, _⟩ := h
    rfl
  · obtain ⟨a, k, rfl, hw, kl, q⟩ := h
    refine ⟨_, (pss_cons (ps_set (i := 1) sc.nd rfl (.inl rfl) (pe_fn D__law_draw (by decide) hr (pa_cons (pv 0) (pa_cons pe_int pa_nil)))) (pss_cons (ps_if (pt_cmpR op_eq (pv 1) pe_int (nomark _)) (pss_one (ps_ret (pe_fn D__law_cut (by decide) hr (pa_cons (pe_op op_sub (pe_fn D__law_draw (by decide) hr (pa_cons (pv 0) (pa_cons pe_int pa_nil))) pe_int) (pa_cons (pe_op op_add pe_int (pe_fn D__law_draw (by decide) hr (pa_cons (pv 0) (pa_cons pe_int pa_nil)))) pa_nil))))) pss_nil) (pss_cons (ps_if (pt_cmpR op_lt (pv 1) pe_int (nomark _)) (pss_one (ps_ret (pe_tup (pa_cons (pe_op op_sub (pe_fn D__law_draw (by decide) hr (pa_cons (pv 0) (pa_cons pe_int pa_nil))) pe_int) (pa_cons pe_int pa_nil))))) pss_nil) (pss_one (ps_ret (pe_fn D__law_cut (by decide) hr (pa_cons (pe_op op_sub (pe_fn D__law_draw (by decide) hr (pa_cons (pv 0) (pa_cons pe_int pa_nil))) pe_int) (pa_cons (pe_op op_add pe_int (pe_fn D__law_draw (by decide) hr (pa_cons (pv 0) (pa_cons pe_int pa_nil)))) pa_nil)))))))), ?_⟩
    refine ⟨_, rfl, a, _, k, rfl, hw, by omega, by decide, by decide, fun H1 d1 b1 w1 d10 d1l => ?_⟩
    refine ⟨_, rfl, rfl, _, rfl, if2 (fun e => ?_) (fun e => ?_)⟩
    · refine ⟨_, rfl, a, _, k + 1, rfl, w1, by omega, by decide, by decide, fun H2 d2 b2 w2 d20 d2l => ?_⟩
      refine ⟨_, _, rfl, rfl, ?_⟩
      refine ⟨_, rfl, a, _, k + 2, rfl, w2, by omega, by decide, by decide, fun H3 d3 b3 w3 d30 d3l => ?_⟩
      refine ⟨_, _, rfl, rfl, _, _, rfl, by omega, sz_small (by omega) (by omega), fun H4 p s4 hp => ?_⟩
      exact q H4 _ _ (((b1.trans b2).trans b3).trans (Same.but s4)) (w3.same s4) (fqO hp) (num_of (by omega) (by omega) (by omega) (by omega))
    · refine ⟨_, rfl, _, _, rfl, rfl, _, rfl, if2 (fun e2 => ?_) (fun e2 => ?_)⟩
      · refine ⟨_, rfl, a, _, k + 1, rfl, w1, by omega, by decide, by decide, fun H2 d2 b2 w2 d20 d2l => ?_⟩
        refine ⟨_, _, rfl, rfl, by show 2 ≤ sizeLine; decide, fun p hp => ?_⟩
        exact q _ (.ref p) (Rat.divInt (d2 - 3) 1) ((b1.trans b2).trans (Same.but (same_upd hp))) ((w2.same (same_upd hp)).mono (by omega)) (fqI upd_same (whole_div _).1 (whole_div _).2) (num_of (by decide) (by decide) (by omega) (by omega))
      · refine ⟨_, rfl, a, _, k + 1, rfl, w1, by omega, by decide, by decide, fun H2 d2 b2 w2 d20 d2l => ?_⟩
        refine ⟨_, _, rfl, rfl, ?_⟩
        refine ⟨_, rfl, a, _, k + 2, rfl, w2, by omega, by decide, by decide, fun H3 d3 b3 w3 d30 d3l => ?_⟩
        refine ⟨_, _, rfl, rfl, _, _, rfl, by omega, sz_small (by omega) (by omega), fun H4 p s4 hp => ?_⟩
        exact q H4 _ _ (((b1.trans b2).trans b3).trans (Same.but s4)) (w3.same s4) (fqO hp) (num_of (by omega) (by omega) (by omega) (by omega))
end
end V3
namespace V3
open PySem.Spec PySem L2 PyProof.Rows RZ GxR
theorem dtAll_lastQ {K : PySem.W.Frag} {H : Hp} {zs : List V} {ds : List PyData} (h : DpTAll K H zs ds) (ne : ds ≠ []) : ∃ v d, atI zs (-1) = some v ∧ DpT K H v d ∧ d ∈ ds := by
  have hl := dtAll_len h
  have n0 : 0 < ds.length := List.length_pos_iff.mpr ne
  have hz : zs ≠ [] := fun e => by
    rw [e] at hl
    simp at hl
    omega
  obtain ⟨v, hv⟩ : ∃ v, v = zs.getLast hz := ⟨_, rfl⟩
  have e : zs.dropLast ++ [v] = zs := by rw [hv]; exact List.dropLast_concat_getLast hz
  have g : zs[zs.length - 1]? = some v := by
    rw [hv, List.getLast_eq_getElem, List.getElem?_eq_getElem]
  obtain ⟨d, hd, hdp⟩ := dtAll_getV h g
  refine ⟨v, d, ?_, hdp, List.mem_of_getElem? hd⟩
  rw [← e]
  exact atI_last _ _
section
variable {mg : Str → Option Value} {base : Heap} {K : PySem.W.Frag} {P : Program} {w : World}
abbrev s__law_tops : Stmt := topS 64
abbrev N__law_tops : List Str := ["well", "wide", "found", "turn", "each"]
theorem sc__law_tops : FnScope N__law_tops ["well", "wide"] (defScope s__law_tops) := ⟨rfl, rfl, rfl, by decide +kernel, rfl, by decide +kernel, by decide +kernel⟩
def spTops (K : PySem.W.Frag) : Sp := fun vs H Q _ => ∃ (a : Addr) (n k : Nat), vs = [.ref a, .int n] ∧ Well H a k ∧ k ≤ 800000 ∧ n ≤ 6 ∧
  ∀ H' v qs, But a H H' → Well H' a (k + 24) → DpT K H' v (rowQ qs) → Rw n qs → (∀ x ∈ qs, Nm x) → Q v H'
theorem ok_tops (T : Gs K mg) (D__law_draw : Df P w K mg base "_law_draw" 1 ["well", "limit"] spDraw) (D__law_number : Df P w K mg base "_law_number" 2 ["well"] (spNumber K)) (D__law_down : Df P w K mg base "_law_down" 2 ["some"] (spDown K)) (F : At K mg "_law_tops" s__law_tops) :
    Df P w K mg base "_law_tops" 3 ["well", "wide"] (spTops K) := by
  have sc := sc__law_tops
  refine Df.mk' F sc (fun vs H Q E h => ?_) (fun _ _ _ _ _ _ us hl => match us, hl with | [_, _], _ => rfl) (fun f cdv A outer s H vs Q E hr h => ?_)
  · obtain ⟨a, n, k, rfl, _⟩ := h
    rfl
  · obtain ⟨a, n, k, rfl, hw, kl, n6, q⟩ := h
    refine ⟨_, (pss_cons (ps_set (i := 2) sc.nd rfl (.inl rfl) (pe_lst pa_nil)) (pss_cons (ps_for PassesOwn.never rfl (pi_range1 rfl T.range (pa_cons (pv 1) pa_nil)) (pg_name (i := 3) sc.nd rfl (.inl rfl)) (pss_cons (ps_set (i := 4) sc.nd rfl (.inl rfl) (pe_fn D__law_number (by decide) hr (pa_cons (pv 0) pa_nil))) (pss_cons (ps_if (PW.pt (pw_and (pt_cmpR (op_neD hr.units) (pv 2) (pe_lst pa_nil) (nomark _)) (pw_and1 (pt_cmpR op_eq (pe_fn D__law_draw (by decide) hr (pa_cons (pv 0) (pa_cons pe_int pa_nil))) pe_int (nomark _))))) (pss_one (ps_set (i := 4) sc.nd rfl (.inl rfl) (pe_ix ix_list (pv 2) (pe_un un_neg pe_int) (fun _ _ => rfl)))) pss_nil) (pss_one (ps_expr (pe_bm PySem.F.plainAttrs_list PySem.F.slot_list_append PySem.F.type_list_append mt_append (pv 2) (pa_cons (pv 4) pa_nil))))))) (pss_one (ps_ret (pe_fn D__law_down (by decide) hr (pa_cons (pv 2) pa_nil)))))), ?_⟩
    refine ⟨by show 0 ≤ sizeLine; decide, fun pf hpf0 => ?_⟩
    have hne : a ≠ pf := fun e => by
      obtain ⟨xs, hx⟩ := hw.lst
      rw [e, hpf0] at hx
      cases hx
    have s0 : Same H (upd H pf (.lst [])) := same_upd hpf0
    refine ⟨_, rfl, _, rfl, by omega, by omega, for_range (lo := 0) (n := (n : Int).toNat) (fun i σ H' => ∃ (y3 y4 : Option V) (zs : List V) (qs : List Rat), σ = [some (.ref a), some (.int n), some (.ref pf), y3, y4] ∧ But a H H' ∧ Well H' a (k + 4 * i) ∧ H' pf = some (.lst zs) ∧
      DpTAll K H' zs (qs.map frd) ∧ qs.length = i ∧ ∀ x ∈ qs, Nm x) ⟨_, _, [], [], rfl, Same.but s0, hw.same s0, upd_same, .nil, rfl, fun x hx => by cases hx⟩ ?_ ?_⟩
    · rintro i σ H1 hi ⟨y3, y4, zs, qs, rfl, b1, w1, hz, hzs, hql, hqs⟩
      have hi6 : i < 6 := by omega
      have lz : zs.length = i := by rw [dtAll_len hzs, List.length_map, hql]
      refine ⟨_, rfl, a, k + 4 * i, rfl, w1, by omega, fun H2 v e b2 w2 dv ne => ?_⟩
      have hz2 : H2 pf = some (.lst zs) := b2 _ _ (Ne.symm hne) hz
      have hzs2 := hzs.keep (b2.ktW w1)
      refine ⟨_, rfl, by show 0 ≤ sizeLine; decide, fun pe hpe => ?_⟩
      have s3 : Same H2 (upd H2 pe (.lst [])) := same_upd hpe
      refine ⟨.list (qs.map frd), .list [], .lst (SqL.of (s3 _ _ hz2)) (hzs2.keep (Same.kt s3)).dp, .lst (SqL.of upd_same) .nil, shaped_frds _, rfl, _, rfl, ?_⟩
      generalize hH3 : upd H2 pe (.lst []) = H3 at s3
      have hz3 := s3 _ _ hz2
      have w3 := w2.same s3
      have hzs3 := hzs2.keep (Same.kt s3)
      have dv3 := DpT.keep (Same.kt s3) dv
      have b3 := (b1.trans b2).trans (Same.but s3)
      rw [eqv_nil]
      refine if2 (fun c => ?_) (fun c => ?_)
      · have qne : qs.map frd ≠ [] := by
          simp at c
          simpa using c
        refine ⟨_, rfl, a, _, k + 4 * i + 3, rfl, w3, by omega, by decide, by decide, fun H4 d b4 w4 d0 dl => ?_⟩
        have hz4 : H4 pf = some (.lst zs) := b4 _ _ (Ne.symm hne) hz3
        have hzs4 := hzs3.keep (b4.ktW w3)
        have dv4 := DpT.keep (b4.ktW w3) dv3
        have b5 := b3.trans b4
        refine ⟨rfl, _, rfl, if2 (fun c2 => ?_) (fun c2 => ?_)⟩
        · obtain ⟨vl, dd, hvl, dvl, hdd⟩ := dtAll_lastQ hzs4 qne
          obtain ⟨ql, hql2, rfl⟩ := List.mem_map.mp hdd
          refine ⟨_, rfl, _, rfl, pf, zs, _, vl, rfl, rfl, SqL.of hz4, hvl, ?_⟩
          refine ⟨_, rfl, .inl ⟨rfl, _, SqL.of hz4⟩, _, rfl, pf, zs, _, rfl, rfl, hz4, small1000 (by omega), ?_⟩
          refine ⟨_, _, zs ++ [_], qs ++ [ql], rfl, But.updN (b5) hpf0, ?_, upd_same, ?_, by rw [List.length_append, hql]; rfl, fun z hz' => ?_⟩
          · obtain ⟨x1, x2, x3, x4, x5⟩ := (w4).mono (show k + 4 * i + 3 + 1 ≤ k + 4 * (i + 1) by omega)
            exact ⟨x1, x2, x3, by rw [upd_ne hne]; exact x4, x5⟩
          · rw [List.map_append]
            exact dtAll_app ((hzs4).keep (kt_lst hz4)) (.cons (DpT.keep (kt_lst hz4) (dvl)) .nil)
          · rcases List.mem_append.mp hz' with h | h
            · exact hqs z h
            · rw [List.mem_singleton.mp h]
              exact hqs _ hql2
        · refine ⟨_, rfl, .inl ⟨rfl, _, SqL.of hz4⟩, _, rfl, pf, zs, _, rfl, rfl, hz4, small1000 (by omega), ?_⟩
          refine ⟨_, _, zs ++ [_], qs ++ [e], rfl, But.updN (b5) hpf0, ?_, upd_same, ?_, by rw [List.length_append, hql]; rfl, fun z hz' => ?_⟩
          · obtain ⟨x1, x2, x3, x4, x5⟩ := (w4).mono (show k + 4 * i + 3 + 1 ≤ k + 4 * (i + 1) by omega)
            exact ⟨x1, x2, x3, by rw [upd_ne hne]; exact x4, x5⟩
          · rw [List.map_append]
            exact dtAll_app ((hzs4).keep (kt_lst hz4)) (.cons (DpT.keep (kt_lst hz4) (dv4)) .nil)
          · rcases List.mem_append.mp hz' with h | h
            · exact hqs z h
            · rw [List.mem_singleton.mp h]
              exact ne
      · refine ⟨_, rfl, .inl ⟨rfl, _, SqL.of hz3⟩, _, rfl, pf, zs, _, rfl, rfl, hz3, small1000 (by omega), ?_⟩
        refine ⟨_, _, zs ++ [_], qs ++ [e], rfl, But.updN (b3) hpf0, ?_, upd_same, ?_, by rw [List.length_append, hql]; rfl, fun z hz' => ?_⟩
        · obtain ⟨x1, x2, x3, x4, x5⟩ := (w3).mono (show k + 4 * i + 3 ≤ k + 4 * (i + 1) by omega)
          exact ⟨x1, x2, x3, by rw [upd_ne hne]; exact x4, x5⟩
        · rw [List.map_append]
          exact dtAll_app ((hzs3).keep (kt_lst hz3)) (.cons (DpT.keep (kt_lst hz3) (dv3)) .nil)
        · rcases List.mem_append.mp hz' with h | h
          · exact hqs z h
          · rw [List.mem_singleton.mp h]
            exact ne
    · rintro σ H1 ⟨y3, y4, zs, qs, rfl, b1, w1, hz, hzs, hql, hqs⟩
      refine ⟨_, rfl, pf, zs, qs, rfl, .inl (SqL.of hz), hzs, fun x hx => (hqs x hx).bq.mono (by decide), by omega, fun H2 p ys s2 hp hys => ?_⟩
      refine q H2 _ (downQ qs) (b1.trans (Same.but s2)) ((w1.same s2).mono (by omega)) (.tup (SqT.of hp) hys) ⟨by rw [downQ_len]; omega, downQ_srt qs, fun x hx => (hqs x (downQ_mem.mp hx)).bq.mono (by decide)⟩ fun x hx => hqs x (downQ_mem.mp hx)
end
end V3
namespace V3
open PySem.Spec PySem L2 PyProof.Rows RZ GxR
theorem lc_zipL {K : PySem.W.Frag} {a b : Addr} {xs₀ ys₀ : List V} {g : TG} {tt₀ : TT} {te₀ : TE} {vs₀ : List Nat} {σ : L2.St} {H1 : Hp} {D : Addr} {Qd₀ : Hp → Prop} (hl₀ : xs₀.length = ys₀.length) (Pv₀ : Nat → Hp → Prop) (h0₀ : Pv₀ 0 (upd H1 D (.lst []))) (hq₀ : ∀ i H, Pv₀ i H → SqL K H a xs₀ ∧ SqL K H b ys₀)
    (hs₀ : ∀ (i : Nat) (x y : V) (T : Addr) (H : Hp), xs₀[i]? = some x → ys₀[i]? = some y → Pv₀ i H → H T = none → g (.ref T) (wipe σ vs₀) (upd H T (.tup [x, y])) fun σ2₀ H2 => wipe σ2₀ vs₀ = wipe σ vs₀ ∧ tt₀ σ2₀ H2 fun b H3₀ =>
      if b = true then te₀ σ2₀ H3₀ fun y H4₀ => ∃ acc₀, H4₀ D = some (.lst acc₀) ∧ acc₀.length < sizeLine ∧ Pv₀ (i + 1) (upd H4₀ D (.lst (acc₀ ++ [y]))) else Pv₀ (i + 1) H3₀) (hd₀ : ∀ H, Pv₀ xs₀.length H → Qd₀ H) :
    ∃ Way : Nat → Nat → Hp → Prop, (∃ m, Way 0 m (upd H1 D (.lst []))) ∧ ∀ i m H, Way i m H →
      ((Itz K a b).stop i H ∧ Qd₀ H) ∨ ((Itz K a b).go i H ∧ ∃ Nx₀ : Hp → Prop, (∀ H', Nx₀ H' → ∃ m', m' < m ∧ Way (i + 1) m' H') ∧ ∀ x H', (Itz K a b).yld i H x H' → g x (wipe σ vs₀) H' fun σ2₀ H2 => wipe σ2₀ vs₀ = wipe σ vs₀ ∧ tt₀ σ2₀ H2 fun b H3₀ =>
        if b = true then te₀ σ2₀ H3₀ fun y H4₀ => ∃ acc₀, H4₀ D = some (.lst acc₀) ∧ acc₀.length < sizeLine ∧ Nx₀ (upd H4₀ D (.lst (acc₀ ++ [y]))) else Nx₀ H3₀) := by
  refine ⟨fun i m H => m = xs₀.length - i ∧ i ≤ xs₀.length ∧ Pv₀ i H, ⟨xs₀.length, by simp, Nat.zero_le _, h0₀⟩, ?_⟩
  rintro i m H ⟨rfl, hi, p⟩
  obtain ⟨qx₀, qy₀⟩ := hq₀ i H p
  by_cases hlt₀ : i < xs₀.length
  · have hx₀ : xs₀[i]? = some xs₀[i] := List.getElem?_eq_getElem hlt₀
    have hlt2₀ : i < ys₀.length := by omega
    have hy₀ : ys₀[i]? = some ys₀[i] := List.getElem?_eq_getElem hlt2₀
    refine .inr ⟨⟨xs₀, ys₀, _, _, qx₀, qy₀, hx₀, hy₀⟩, Pv₀ (i + 1), fun H' p' => ⟨xs₀.length - (i + 1), by omega, rfl, hlt₀, p'⟩, fun v H' y => ?_⟩
    obtain ⟨T, x₀', y₀', rfl, hT₀, rfl, f1₀, f2₀⟩ := y
    exact hs₀ i x₀' y₀' T H (f1₀ xs₀ qx₀) (f2₀ ys₀ qy₀) p hT₀
  · have e : i = xs₀.length := by omega
    subst e
    exact .inl ⟨⟨xs₀, ys₀, qx₀, qy₀, Or.inl (Nat.le_refl _)⟩, hd₀ H p⟩
theorem lc_zipT {K : PySem.W.Frag} {a b : Addr} {xs₀ ys₀ : List V} {g : TG} {tt₀ : TT} {te₀ : TE} {vs₀ : List Nat} {σ : L2.St} {H1 : Hp} {D : Addr} {Qd₀ : Hp → Prop} (hl₀ : xs₀.length = ys₀.length) (Pv₀ : Nat → Hp → Prop) (h0₀ : Pv₀ 0 (upd H1 D (.lst []))) (hq₀ : ∀ i H, Pv₀ i H → SqT K H a xs₀ ∧ SqT K H b ys₀)
    (hs₀ : ∀ (i : Nat) (x y : V) (T : Addr) (H : Hp), xs₀[i]? = some x → ys₀[i]? = some y → Pv₀ i H → H T = none → g (.ref T) (wipe σ vs₀) (upd H T (.tup [x, y])) fun σ2₀ H2 => wipe σ2₀ vs₀ = wipe σ vs₀ ∧ tt₀ σ2₀ H2 fun b H3₀ =>
      if b = true then te₀ σ2₀ H3₀ fun y H4₀ => ∃ acc₀, H4₀ D = some (.lst acc₀) ∧ acc₀.length < sizeLine ∧ Pv₀ (i + 1) (upd H4₀ D (.lst (acc₀ ++ [y]))) else Pv₀ (i + 1) H3₀) (hd₀ : ∀ H, Pv₀ xs₀.length H → Qd₀ H) :
    ∃ Way : Nat → Nat → Hp → Prop, (∃ m, Way 0 m (upd H1 D (.lst []))) ∧ ∀ i m H, Way i m H →
      ((ItzT K a b).stop i H ∧ Qd₀ H) ∨ ((ItzT K a b).go i H ∧ ∃ Nx₀ : Hp → Prop, (∀ H', Nx₀ H' → ∃ m', m' < m ∧ Way (i + 1) m' H') ∧ ∀ x H', (ItzT K a b).yld i H x H' → g x (wipe σ vs₀) H' fun σ2₀ H2 => wipe σ2₀ vs₀ = wipe σ vs₀ ∧ tt₀ σ2₀ H2 fun b H3₀ =>
        if b = true then te₀ σ2₀ H3₀ fun y H4₀ => ∃ acc₀, H4₀ D = some (.lst acc₀) ∧ acc₀.length < sizeLine ∧ Nx₀ (upd H4₀ D (.lst (acc₀ ++ [y]))) else Nx₀ H3₀) := by
  refine ⟨fun i m H => m = xs₀.length - i ∧ i ≤ xs₀.length ∧ Pv₀ i H, ⟨xs₀.length, by simp, Nat.zero_le _, h0₀⟩, ?_⟩
  rintro i m H ⟨rfl, hi, p⟩
  obtain ⟨qx₀, qy₀⟩ := hq₀ i H p
  by_cases hlt₀ : i < xs₀.length
  · have hx₀ : xs₀[i]? = some xs₀[i] := List.getElem?_eq_getElem hlt₀
    have hlt2₀ : i < ys₀.length := by omega
    have hy₀ : ys₀[i]? = some ys₀[i] := List.getElem?_eq_getElem hlt2₀
    refine .inr ⟨⟨xs₀, ys₀, _, _, qx₀, qy₀, hx₀, hy₀⟩, Pv₀ (i + 1), fun H' p' => ⟨xs₀.length - (i + 1), by omega, rfl, hlt₀, p'⟩, fun v H' y => ?_⟩
    obtain ⟨T, x₀', y₀', rfl, hT₀, rfl, f1₀, f2₀⟩ := y
    exact hs₀ i x₀' y₀' T H (f1₀ xs₀ qx₀) (f2₀ ys₀ qy₀) p hT₀
  · have e : i = xs₀.length := by omega
    subst e
    exact .inl ⟨⟨xs₀, ys₀, qx₀, qy₀, Or.inl (Nat.le_refl _)⟩, hd₀ H p⟩

theorem dpBl {K : PySem.W.Frag} {H : Hp} {v : V} {b : Bool} (h : Dp K H v (.bool b)) : v = .bl b := by
  cases h
  rfl
/-- data of tuples, lists, whole numbers and truths, so deep -/
inductive Lay : Nat → PyData → Prop
  | int (n : Nat) (i : Int) : Lay n (.int i)
  | bl (n : Nat) (b : Bool) : Lay n (.bool b)
  | lst {n : Nat} {ds : List PyData} (hl : ds.length ≤ 1000) (h : ∀ d ∈ ds, Lay n d) : Lay (n + 1) (.list ds)
  | tup {n : Nat} {ds : List PyData} (hl : ds.length ≤ 1000) (h : ∀ d ∈ ds, Lay n d) : Lay (n + 1) (.tuple ds)
theorem lay_fr (q : Rat) (n : Nat) : Lay (n + 1) (frd q) := .tup (by show 2 ≤ 1000; decide) fun d hd => by
  simp only [List.mem_cons, List.not_mem_nil, or_false] at hd
  rcases hd with rfl | rfl <;> exact .int _ _
theorem lay_row {qs : List Rat} (h : qs.length ≤ 1000) (n : Nat) : Lay (n + 2) (rowQ qs) := .tup (by rw [List.length_map]; exact h) fun d hd => by
  obtain ⟨q, _, rfl⟩ := List.mem_map.mp hd
  exact lay_fr q n
section
variable {mg : Str → Option Value} {base : Heap} {K : PySem.W.Frag} {P : Program} {w : World}
abbrev s__law_same : Stmt := topS 67
abbrev N__law_same : List Str := ["told", "due", "x", "y"]
theorem sc__law_same : FnScope N__law_same ["told", "due"] (defScope s__law_same) := ⟨rfl, rfl, rfl, by decide +kernel, rfl, by decide +kernel, by decide +kernel⟩
def spSame (K : PySem.W.Frag) : Nat → Sp
  | 0 => fun _ _ _ _ => False
  | n + 1 => fun vs H Q _ => ∃ (v w : V) (d : PyData), vs = [v, w] ∧ Dp K H v d ∧ Dp K H w d ∧ Lay n d ∧ ∀ H', Same H H' → Q (.bl true) H'
theorem ok_same (T : Gs K mg) (F : At K mg "_law_same" s__law_same) : ∀ n : Nat, Df P w K mg base "_law_same" (n + 1) ["told", "due"] (spSame K n)
  | 0 => by
    have sc := sc__law_same
    exact Df.mk' F sc (fun vs H Q E h => False.elim h) (fun _ _ _ _ _ _ us hl => match us, hl with | [_, _], _ => rfl) (fun f cdv A outer s H vs Q E hr h => False.elim h)
  | n + 1 => by
    have D__law_same := ok_same T F n
    have sc := sc__law_same
    refine Df.mk' F sc (fun vs H Q E h => ?_) (fun _ _ _ _ _ _ us hl => match us, hl with | [_, _], _ => rfl) (fun f cdv A outer s H vs Q E hr h => ?_)
    · obtain ⟨v, w, d, rfl, _⟩ := h
      rfl
    · obtain ⟨v, w', d, rfl, hv, hw, lay, q⟩ := h
      refine ⟨_, (pss_cons (ps_if (pt_val (pe_callB call_isiT (by rfl) T.isinstance (by decide +kernel) (pa_cons (pv 1) (pa_cons (pe_tup (pa_cons (pe_bltn (v := .ty "list") (by rfl) T.list_ (by decide +kernel) rfl) (pa_cons (pe_bltn (v := .ty "tuple") (by rfl) T.tuple_ (by decide +kernel) rfl) pa_nil))) pa_nil)))) (pss_cons (ps_if (PW.pt (pw_or (pt_cmpR op_ne (pe_callB call_isi (by rfl) T.isinstance (by decide +kernel) (pa_cons (pv 0) (pa_cons (pe_bltn (v := .ty "list") (by rfl) T.list_ (by decide +kernel) rfl) pa_nil))) (pe_callB call_isi (by rfl) T.isinstance (by decide +kernel) (pa_cons (pv 1) (pa_cons (pe_bltn (v := .ty "list") (by rfl) T.list_ (by decide +kernel) rfl) pa_nil))) (nomark _)) (pw_or1 (pt_cmpR op_ne (pe_callB call_isi (by rfl) T.isinstance (by decide +kernel) (pa_cons (pv 0) (pa_cons (pe_bltn (v := .ty "tuple") (by rfl) T.tuple_ (by decide +kernel) rfl) pa_nil))) (pe_callB call_isi (by rfl) T.isinstance (by decide +kernel) (pa_cons (pv 1) (pa_cons (pe_bltn (v := .ty "tuple") (by rfl) T.tuple_ (by decide +kernel) rfl) pa_nil))) (nomark _))))) (pss_one (ps_ret pe_bl)) pss_nil) (pss_one (ps_ret (pe_and (pe_cmpR op_eq (pe_callB call_len_seq (by rfl) T.len PySem.boot_len (pa_cons (pv 0) pa_nil)) (pe_callB call_len_seq (by rfl) T.len PySem.boot_len (pa_cons (pv 1) pa_nil)) (nomark _)) (pe_one (pe_callB (cr_all rfl) (by rfl) T.all (by decide +kernel) (pa_cons (pe_lc (own := [("x", 2), ("y", 3)]) (g := gTup K 2 (gCons (gName 2) (gCons (gName 3) gNil))) rfl sc.nd (pi_zipA (by rfl) T.zip (pa_cons (pv 0) (pa_cons (pv 1) pa_nil))) (blkOk_by (own := [("x", 2), ("y", 3)]) (N := N__law_same) (sc := defScope s__law_same) (by decide +kernel)) (fun _ _ _ _ _ => (pg_tup rfl (pgs_cons (pg_name (i := 2) sc.nd rfl (.inl rfl)) (pgs_cons (pg_name (i := 3) sc.nd rfl (.inl rfl)) pgs_nil)))) (fun _ _ _ _ _ => pts_nil) (fun _ _ _ _ _ => (pe_fn D__law_same (by omega) hr (pa_cons (pv 2) (pa_cons (pv 3) pa_nil))))) pa_nil))))))) pss_nil) (pss_cons (ps_if (pt_cmpR op_isN (pv 1) pe_non (nomark _)) (pss_one (ps_ret (pe_cmpR op_isN (pv 0) pe_non (nomark _)))) pss_nil) (pss_cons (ps_if (pt_val (pe_callB call_isi (by rfl) T.isinstance (by decide +kernel) (pa_cons (pv 1) (pa_cons (pe_bltn (v := .ty "str") (by rfl) T.str_ (by decide +kernel) rfl) pa_nil)))) (pss_one (ps_ret (pe_and (pe_callB call_isi (by rfl) T.isinstance (by decide +kernel) (pa_cons (pv 0) (pa_cons (pe_bltn (v := .ty "str") (by rfl) T.str_ (by decide +kernel) rfl) pa_nil))) (pe_one (pe_cmpR op_eq (pv 0) (pv 1) (nomark _)))))) pss_nil) (pss_one (ps_ret (pe_and (pe_callB call_isi (by rfl) T.isinstance (by decide +kernel) (pa_cons (pv 0) (pa_cons (pe_bltn (v := .ty "int") (by rfl) T.int_ (by decide +kernel) rfl) pa_nil))) (pe_and (pe_cmpR op_eq (pe_callB call_isi (by rfl) T.isinstance (by decide +kernel) (pa_cons (pv 0) (pa_cons (pe_bltn (v := .ty "bool") (by rfl) T.bool_ (by decide +kernel) rfl) pa_nil))) (pe_callB call_isi (by rfl) T.isinstance (by decide +kernel) (pa_cons (pv 1) (pa_cons (pe_bltn (v := .ty "bool") (by rfl) T.bool_ (by decide +kernel) rfl) pa_nil))) (nomark _)) (pe_one (pe_cmpR op_eq (pv 0) (pv 1) (nomark _)))))))))), ?_⟩
      refine ⟨_, rfl, by show 2 ≤ sizeLine; decide, fun T0 hT0 => ?_⟩
      have s0 : Same H (upd H T0 (.tup [.ty "list", .ty "tuple"])) := same_upd hT0
      have e0 : (upd H T0 (.tup [.ty "list", .ty "tuple"])) T0 = some (.tup [.ty "list", .ty "tuple"]) := upd_same
      generalize upd H T0 (.tup [.ty "list", .ty "tuple"]) = H0 at s0 e0
      have pr : Paired ClsV [.ty "list", .ty "tuple"] [.type "list", .type "tuple"] := .cons (.ty _) (.cons (.ty _) .nil)
      have hv0 := Dp.same s0 hv
      have hw0 := Dp.same s0 hw
      cases lay with
      | int _ i =>
        rw [dpInt hv, dpInt hw]
        refine ⟨_, T0, _, _, _, _, rfl, e0, pr, .base (.int i), rfl, _, rfl, ifF rfl ?_⟩
        refine ⟨_, rfl, rfl, _, rfl, ifF (by simp) ?_⟩
        refine ⟨_, rfl, _, _, _, _, _, rfl, .ty _, .base (.int i), rfl, _, rfl, ifF rfl ?_⟩
        refine ⟨_, rfl, _, _, _, _, _, rfl, .ty _, .base (.int i), rfl, _, rfl, ifT rfl ?_⟩
        refine ⟨_, rfl, _, _, _, _, _, rfl, .ty _, .base (.int i), rfl, _, rfl, _, _, _, _, _, rfl, .ty _, .base (.int i), rfl, rfl, _, rfl, ifT (by decide) ?_⟩
        refine ⟨_, rfl, _, rfl, rfl, ?_⟩
        have e : decide (V.int i = V.int i) = true := by simp
        rw [e]
        exact q _ s0
      | bl _ b =>
        rw [dpBl hv, dpBl hw]
        refine ⟨_, T0, _, _, _, _, rfl, e0, pr, .base (.bl b), rfl, _, rfl, ifF rfl ?_⟩
        refine ⟨_, rfl, rfl, _, rfl, ifF (by simp) ?_⟩
        refine ⟨_, rfl, _, _, _, _, _, rfl, .ty _, .base (.bl b), rfl, _, rfl, ifF rfl ?_⟩
        refine ⟨_, rfl, _, _, _, _, _, rfl, .ty _, .base (.bl b), rfl, _, rfl, ifT rfl ?_⟩
        refine ⟨_, rfl, _, _, _, _, _, rfl, .ty _, .base (.bl b), rfl, _, rfl, _, _, _, _, _, rfl, .ty _, .base (.bl b), rfl, rfl, _, rfl, ifT (by decide) ?_⟩
        refine ⟨_, rfl, _, rfl, rfl, ?_⟩
        have e : decide (V.bl b = V.bl b) = true := by simp
        rw [e]
        exact q _ s0
      | @lst m ds hl h =>
        obtain ⟨p, xs, rfl, hp, hA⟩ := dpLst hv0
        obtain ⟨p', ys, rfl, hp', hB⟩ := dpLst hw0
        have lx : xs.length = ds.length := dpAll_len hA
        have ly : ys.length = ds.length := dpAll_len hB
        refine ⟨_, T0, _, _, _, _, rfl, e0, pr, tyL hp', rfl, _, rfl, ifT rfl ?_⟩
        refine ⟨_, rfl, _, _, _, _, _, rfl, .ty _, tyL hp, rfl, _, rfl, _, _, _, _, _, rfl, .ty _, tyL hp', rfl, rfl, _, rfl, ifF (by decide) ?_⟩
        refine ⟨_, rfl, _, _, _, _, _, rfl, .ty _, tyL hp, rfl, _, rfl, _, _, _, _, _, rfl, .ty _, tyL hp', rfl, rfl, _, rfl, ifF (by decide) ?_⟩
        refine ⟨_, rfl, _, _, rfl, .inl hp, _, rfl, _, _, rfl, .inl hp', rfl, _, rfl, ifT (by rw [lx, ly]; simp) ?_⟩
        refine ⟨_, rfl, _, rfl, p, p', xs, ys, rfl, .inl ⟨hp, hp', fun D hD => lc_zipL (K := K) (a := p) (b := p') (xs₀ := xs) (ys₀ := ys) (by rw [lx, ly]) (fun i H' => Same H0 H' ∧ ∃ bs : List Bool, H' D = some (.lst (bs.map V.bl)) ∧ bs.length = i ∧ bs.all id = true) ⟨same_upd hD, [], upd_same, rfl, rfl⟩ (fun i H' h => ⟨h.1.seq hp, h.1.seq hp'⟩) ?_ ?_⟩⟩
        · rintro i x y T1 H1 hx hy ⟨sm, bs, hbs, hbl, hba⟩ hT1
          obtain ⟨d1, hd1, hdp1⟩ := dpAll_getV hA hx
          obtain ⟨d2, hd2, hdp2⟩ := dpAll_getV hB hy
          rw [hd1] at hd2
          cases hd2
          have hil : i < ds.length := (List.getElem?_eq_some_iff.mp hd1).1
          have sm2 : Same H0 (upd H1 T1 (.tup [x, y])) := sm.trans (same_upd hT1)
          have hbs2 := (same_upd (o := .tup [x, y]) hT1) _ _ hbs
          refine ⟨T1, _, rfl, SqT.of upd_same, rfl, _, _, rfl, _, _, rfl, rfl, rfl, yesIf ?_⟩
          refine ⟨_, rfl, _, rfl, _, _, d1, rfl, Dp.same sm2 hdp1, Dp.same sm2 hdp2, h d1 (List.mem_of_getElem? hd1), fun H3 s3 => ?_⟩
          refine ⟨_, s3 _ _ hbs2, small1000 (by rw [List.length_map]; omega), same_updN (sm2.trans s3) hD, bs ++ [true], ?_, by rw [List.length_append, hbl]; rfl, by rw [List.all_append, hba]; rfl⟩
          rw [upd_same, List.map_append]
          rfl
        · rintro H1 ⟨sm, bs, hbs, hbl, hba⟩
          refine ⟨D, bs, rfl, SqL.of hbs, ?_⟩
          rw [hba]
          exact q _ (s0.trans sm)
      | @tup m ds hl h =>
        obtain ⟨p, xs, rfl, hp, hA⟩ := dpTup hv0
        obtain ⟨p', ys, rfl, hp', hB⟩ := dpTup hw0
        have lx : xs.length = ds.length := dpAll_len hA
        have ly : ys.length = ds.length := dpAll_len hB
        refine ⟨_, T0, _, _, _, _, rfl, e0, pr, tyT hp', rfl, _, rfl, ifT rfl ?_⟩
        refine ⟨_, rfl, _, _, _, _, _, rfl, .ty _, tyT hp, rfl, _, rfl, _, _, _, _, _, rfl, .ty _, tyT hp', rfl, rfl, _, rfl, ifF (by decide) ?_⟩
        refine ⟨_, rfl, _, _, _, _, _, rfl, .ty _, tyT hp, rfl, _, rfl, _, _, _, _, _, rfl, .ty _, tyT hp', rfl, rfl, _, rfl, ifF (by decide) ?_⟩
        refine ⟨_, rfl, _, _, rfl, .inr hp, _, rfl, _, _, rfl, .inr hp', rfl, _, rfl, ifT (by rw [lx, ly]; simp) ?_⟩
        refine ⟨_, rfl, _, rfl, p, p', xs, ys, rfl, .inr ⟨hp, hp', fun D hD => lc_zipT (K := K) (a := p) (b := p') (xs₀ := xs) (ys₀ := ys) (by rw [lx, ly]) (fun i H' => Same H0 H' ∧ ∃ bs : List Bool, H' D = some (.lst (bs.map V.bl)) ∧ bs.length = i ∧ bs.all id = true) ⟨same_upd hD, [], upd_same, rfl, rfl⟩ (fun i H' h => ⟨sameT h.1 hp, sameT h.1 hp'⟩) ?_ ?_⟩⟩
        · rintro i x y T1 H1 hx hy ⟨sm, bs, hbs, hbl, hba⟩ hT1
          obtain ⟨d1, hd1, hdp1⟩ := dpAll_getV hA hx
          obtain ⟨d2, hd2, hdp2⟩ := dpAll_getV hB hy
          rw [hd1] at hd2
          cases hd2
          have hil : i < ds.length := (List.getElem?_eq_some_iff.mp hd1).1
          have sm2 : Same H0 (upd H1 T1 (.tup [x, y])) := sm.trans (same_upd hT1)
          have hbs2 := (same_upd (o := .tup [x, y]) hT1) _ _ hbs
          refine ⟨T1, _, rfl, SqT.of upd_same, rfl, _, _, rfl, _, _, rfl, rfl, rfl, yesIf ?_⟩
          refine ⟨_, rfl, _, rfl, _, _, d1, rfl, Dp.same sm2 hdp1, Dp.same sm2 hdp2, h d1 (List.mem_of_getElem? hd1), fun H3 s3 => ?_⟩
          refine ⟨_, s3 _ _ hbs2, small1000 (by rw [List.length_map]; omega), same_updN (sm2.trans s3) hD, bs ++ [true], ?_, by rw [List.length_append, hbl]; rfl, by rw [List.all_append, hba]; rfl⟩
          rw [upd_same, List.map_append]
          rfl
        · rintro H1 ⟨sm, bs, hbs, hbl, hba⟩
          refine ⟨D, bs, rfl, SqL.of hbs, ?_⟩
          rw [hba]
          exact q _ (s0.trans sm)
abbrev s__law_is_whole : Stmt := topS 68
abbrev N__law_is_whole : List Str := ["thing"]
theorem sc__law_is_whole : FnScope N__law_is_whole ["thing"] (defScope s__law_is_whole) := ⟨rfl, rfl, rfl, by decide +kernel, rfl, by decide +kernel, by decide +kernel⟩
def spLWhole : Sp := fun vs H Q _ => ∃ i : Int, vs = [.int i] ∧ Q (.bl true) H
theorem ok_lwhole (T : Gs K mg) (F : At K mg "_law_is_whole" s__law_is_whole) : Df P w K mg base "_law_is_whole" 1 ["thing"] spLWhole := by
  have sc := sc__law_is_whole
  refine Df.mk' F sc (fun vs H Q E h => ?_) (fun _ _ _ _ _ _ us hl => match us, hl with | [_], _ => rfl) (fun f cdv A outer s H vs Q E hr h => ?_)
  · obtain ⟨i, rfl, _⟩ := h
    rfl
  · obtain ⟨i, rfl, q⟩ := h
    refine ⟨_, (pss_one (ps_ret (pe_and (pe_callB call_isi (by rfl) T.isinstance (by decide +kernel) (pa_cons (pv 0) (pa_cons (pe_bltn (v := .ty "int") (by rfl) T.int_ (by decide +kernel) rfl) pa_nil))) (pe_one (pe_not (pe_callB call_isi (by rfl) T.isinstance (by decide +kernel) (pa_cons (pv 0) (pa_cons (pe_bltn (v := .ty "bool") (by rfl) T.bool_ (by decide +kernel) rfl) pa_nil)))))))), ?_⟩
    refine ⟨_, rfl, _, _, _, _, _, rfl, .ty _, .base (.int i), rfl, _, rfl, ifT rfl ?_⟩
    exact ⟨_, rfl, _, _, _, _, _, rfl, .ty _, .base (.int i), rfl, _, rfl, q⟩
abbrev s__law_is_frac : Stmt := topS 69
abbrev N__law_is_frac : List Str := ["thing"]
theorem sc__law_is_frac : FnScope N__law_is_frac ["thing"] (defScope s__law_is_frac) := ⟨rfl, rfl, rfl, by decide +kernel, rfl, by decide +kernel, by decide +kernel⟩
def spLFrac (K : PySem.W.Frag) : Sp := fun vs H Q _ => ∃ (v : V) (q : Rat), vs = [v] ∧ DpT K H v (frd q) ∧ Bq 4000 q ∧ ∀ H', Same H H' → Q (.bl true) H'
theorem ok_lfrac (T : Gs K mg) (D__law_is_whole : Df P w K mg base "_law_is_whole" 1 ["thing"] spLWhole) (D__law_cut : Df P w K mg base "_law_cut" 1 ["top", "under"] spFrac) (D__law_same : Df P w K mg base "_law_same" 3 ["told", "due"] (spSame K 2)) (F : At K mg "_law_is_frac" s__law_is_frac) :
    Df P w K mg base "_law_is_frac" 4 ["thing"] (spLFrac K) := by
  have sc := sc__law_is_frac
  refine Df.mk' F sc (fun vs H Q E h => ?_) (fun _ _ _ _ _ _ us hl => match us, hl with | [_], _ => rfl) (fun f cdv A outer s H vs Q E hr h => ?_)
  · obtain ⟨v, q, rfl, _⟩ := h
    rfl
  · obtain ⟨v, x, rfl, hv, sf, q⟩ := h
    obtain ⟨p, rfl, hp⟩ := fqT hv
    refine ⟨_, (pss_cons (ps_if (PW.pt (pw_or (pt_not (pt_val (pe_callB call_isi (by rfl) T.isinstance (by decide +kernel) (pa_cons (pv 0) (pa_cons (pe_bltn (v := .ty "tuple") (by rfl) T.tuple_ (by decide +kernel) rfl) pa_nil))))) (pw_or (pt_cmpR op_ne (pe_callB call_len_seq (by rfl) T.len PySem.boot_len (pa_cons (pv 0) pa_nil)) pe_int (nomark _)) (pw_or (pt_not (pt_val (pe_fn D__law_is_whole (by decide) hr (pa_cons (pe_ix ix_tup (pv 0) pe_int (fun _ _ => rfl)) pa_nil)))) (pw_or1 (pt_not (pt_val (pe_fn D__law_is_whole (by decide) hr (pa_cons (pe_ix ix_tup (pv 0) pe_int (fun _ _ => rfl)) pa_nil))))))))) (pss_one (ps_ret pe_bl)) pss_nil) (pss_one (ps_ret (pe_and (pe_cmpR op_gt (pe_ix ix_tup (pv 0) pe_int (fun _ _ => rfl)) pe_int (nomark _)) (pe_one (pe_fn D__law_same (by decide) hr (pa_cons (pe_fn D__law_cut (by decide) hr (pa_cons (pe_ix ix_tup (pv 0) pe_int (fun _ _ => rfl)) (pa_cons (pe_ix ix_tup (pv 0) pe_int (fun _ _ => rfl)) pa_nil))) (pa_cons (pe_tup (pa_cons (pe_ix ix_tup (pv 0) pe_int (fun _ _ => rfl)) (pa_cons (pe_ix ix_tup (pv 0) pe_int (fun _ _ => rfl)) pa_nil))) pa_nil)))))))), ?_⟩
    refine ⟨_, rfl, _, _, _, _, _, rfl, .ty _, tyT hp, rfl, _, rfl, ifF rfl ?_⟩
    refine ⟨_, rfl, _, _, rfl, .inr hp, rfl, _, rfl, ifF (by simp) ?_⟩
    refine ⟨_, rfl, _, _, _, _, rfl, rfl, hp, at20, _, rfl, _, rfl, ifF rfl ?_⟩
    refine ⟨_, rfl, _, _, _, _, rfl, rfl, hp, at21, _, rfl, _, rfl, ifF rfl ?_⟩
    refine ⟨_, rfl, _, _, _, _, rfl, rfl, hp, at21, _, _, rfl, rfl, _, rfl, ifT (decide_eq_true (rden_pos x)) ?_⟩
    refine ⟨_, rfl, _, _, _, _, rfl, rfl, hp, at20, _, rfl, _, _, _, _, rfl, rfl, hp, at21, _, _, rfl, rden_pos x, Nat.lt_of_lt_of_le (natI sf.d) (pw (by decide)), fun H1 p1 s1 h1 => ?_⟩
    rw [Rat.num_divInt_den] at h1
    refine ⟨_, rfl, _, _, _, _, rfl, rfl, sameT s1 hp, at20, _, rfl, _, _, _, _, rfl, rfl, sameT s1 hp, at21, by show 2 ≤ sizeLine; decide, fun p2 hp2 => ?_⟩
    refine ⟨_, _, frd x, rfl, (fqSame (fqO h1) (same_upd hp2)).dp, (fqO upd_same).dp, lay_fr x 0, fun H3 s3 => ?_⟩
    exact q _ (s1.trans ((same_upd hp2).trans s3))
end
end V3
namespace V3
open PySem.Spec PySem L2 PyProof.Rows RZ GxR
theorem neg_frd (x : Rat) : (-x).num = 0 - x.num ∧ ((-x).den : Int) = (x.den : Int) := by
  rw [Rat.neg_num, Rat.neg_den]
  exact ⟨by omega, rfl⟩
theorem shaped_nats (ds : List Nat) : SeqAt.shaped (.list (ds.map fun (k : Nat) => PyData.int (k : Int))) = true := by
  have h1 : ∀ qs : List Nat, PyData.canLayAll0 (qs.map fun (k : Nat) => PyData.int (k : Int)) = true := fun qs => by
    induction qs with
    | nil => rfl
    | cons a r ih => simp only [List.map_cons, PyData.canLayAll0, PyData.canLay0, ih, Bool.and_self]
  have h2 : ∀ qs : List Nat, PyData.depthAll (qs.map fun (k : Nat) => PyData.int (k : Int)) = 0 := fun qs => by
    induction qs with
    | nil => rfl
    | cons a r ih =>
      rw [List.map_cons, PyData.depthAll, ih]
      rfl
  unfold SeqAt.shaped
  rw [Bool.and_eq_true, decide_eq_true_eq, PyData.depth, h2]
  exact ⟨by rw [PyData.canLay0]; exact h1 ds, by omega⟩
/-- the places that are found bad -/
def plV (lo : Int) (bad : Nat → Bool) (n : Nat) : List V := ((List.range n).filter bad).map fun (k : Nat) => V.int (lo + (k : Int))
theorem plV_step {lo : Int} {bad : Nat → Bool} {H H' : Hp} {D : Addr} {i : Nat} (sm : Same H H') (hD : H D = none) (hd : H' D = some (.lst (plV lo bad i))) (hi : i < 900) (b : Bool) (eb : b = bad i) :
    if b = true then (∃ acc, H' D = some (.lst acc) ∧ acc.length < sizeLine ∧ Same H (upd H' D (.lst (acc ++ [V.int (lo + (i : Int))]))) ∧ (upd H' D (.lst (acc ++ [V.int (lo + (i : Int))]))) D = some (.lst (plV lo bad (i + 1)))) else (Same H H' ∧ H' D = some (.lst (plV lo bad (i + 1)))) := by
  subst eb
  unfold plV at hd ⊢
  rw [List.range_succ, List.filter_append]
  refine if2 (fun c => ?_) (fun c => ?_)
  · refine ⟨_, hd, small1000 ?_, same_updN sm hD, ?_⟩
    · have := List.length_filter_le bad (List.range i)
      rw [List.length_range] at this
      rw [List.length_map]
      omega
    · rw [upd_same, List.filter_cons_of_pos c, List.map_append]
      rfl
  · rw [List.filter_cons_of_neg (by rw [c]; simp)]
    refine ⟨sm, ?_⟩
    rw [List.filter_nil, List.append_nil]
    exact hd
def plD (lo : Int) (bad : Nat → Bool) (n : Nat) : PyData := .list (((List.range n).filter bad).map fun (k : Nat) => PyData.int (lo + (k : Int)))
theorem plV_dp {lo : Int} {bad : Nat → Bool} {n : Nat} {K : PySem.W.Frag} {H : Hp} {D : Addr} (hd : H D = some (.lst (plV lo bad n))) : Dp K H (.ref D) (plD lo bad n) := by
  have : ∀ js : List Nat, DpAll K H (js.map fun (k : Nat) => V.int (lo + (k : Int))) (js.map fun (k : Nat) => PyData.int (lo + (k : Int))) := fun js => by
    induction js with
    | nil => exact .nil
    | cons j r ih => exact .cons (.int _) ih
  exact .lst (SqL.of hd) (this _)
theorem plD_shaped (lo : Int) (bad : Nat → Bool) (n : Nat) : SeqAt.shaped (plD lo bad n) = true := by
  have h1 : ∀ qs : List Nat, PyData.canLayAll0 (qs.map fun (k : Nat) => PyData.int (lo + (k : Int))) = true := fun qs => by
    induction qs with
    | nil => rfl
    | cons a r ih => simp only [List.map_cons, PyData.canLayAll0, PyData.canLay0, ih, Bool.and_self]
  have h2 : ∀ qs : List Nat, PyData.depthAll (qs.map fun (k : Nat) => PyData.int (lo + (k : Int))) = 0 := fun qs => by
    induction qs with
    | nil => rfl
    | cons a r ih =>
      rw [List.map_cons, PyData.depthAll, ih]
      rfl
  unfold SeqAt.shaped plD
  rw [Bool.and_eq_true, decide_eq_true_eq, PyData.depth, h2]
  exact ⟨by rw [PyData.canLay0]; exact h1 _, by omega⟩
theorem plD_nil (lo : Int) (bad : Nat → Bool) (n : Nat) : PyData.eqv (plD lo bad n) (.list []) = (List.range n).all fun i => !bad i := by
  unfold plD
  rw [eqv_nil, Bool.eq_iff_iff, decide_eq_true_eq, List.map_eq_nil_iff, List.filter_eq_nil_iff, List.all_eq_true]
  simp
theorem all_le (f g : Nat → Rat) (n : Nat) : ((List.range n).all fun i => !decide (f i < g i)) = (List.range n).all fun i => decide (g i ≤ f i) := by
  congr 1
  funext i
  by_cases c : g i ≤ f i
  · have : ¬ f i < g i := Rat.not_lt.mpr c
    rw [decide_eq_true c, decide_eq_false this]
    rfl
  · have : f i < g i := Rat.not_le.mp c
    rw [decide_eq_false c, decide_eq_true this]
    rfl
theorem part_in {d : Int} {x y : Rat} (h0 : 0 ≤ d) (h3 : d < 3) (h : y ≤ x) : y ≤ y + Rat.divInt (1 + d) 4 * (x - y) ∧ y + Rat.divInt (1 + d) 4 * (x - y) ≤ x := by
  have hp : 0 ≤ Rat.divInt (1 + d) 4 ∧ 0 ≤ 1 - Rat.divInt (1 + d) 4 := by
    have : d = 0 ∨ d = 1 ∨ d = 2 := by omega
    rcases this with rfl | rfl | rfl <;> decide +kernel
  have hd : 0 ≤ x - y := by grind
  have m1 := Rat.mul_nonneg hp.1 hd
  have m2 := Rat.mul_nonneg hp.2 hd
  generalize Rat.divInt (1 + d) 4 = p at *
  constructor <;> grind
def badB (tops lows : List Rat) (i : Nat) : Bool := decide (gq tops i < gq lows i) || decide (gq lows i < gq tops (i + (tops.length - lows.length)))
theorem bad_nil (tops lows : List Rat) : decide ((((List.range lows.length).filter (badB tops lows)).map fun (k : Nat) => PyData.int (k : Int)) = []) = lacB tops lows := by
  rw [Bool.eq_iff_iff, decide_eq_true_eq, List.map_eq_nil_iff, List.filter_eq_nil_iff]
  unfold lacB
  rw [List.all_eq_true]
  constructor
  · intro h i hi
    have := h i hi
    unfold badB at this
    simpa using this
  · intro h i hi
    have := h i hi
    unfold badB
    simpa using this
section
variable {mg : Str → Option Value} {base : Heap} {K : PySem.W.Frag} {P : Program} {w : World}
abbrev s__law_between : Stmt := topS 66
abbrev N__law_between : List Str := ["well", "high", "low_end", "way", "part"]
theorem sc__law_between : FnScope N__law_between ["well", "high", "low_end"] (defScope s__law_between) := ⟨rfl, rfl, rfl, by decide +kernel, rfl, by decide +kernel, by decide +kernel⟩
def spLBetween (K : PySem.W.Frag) : Sp := fun vs H Q _ => ∃ (a : Addr) (v w : V) (x y : Rat) (k : Nat), vs = [.ref a, v, w] ∧ Well H a k ∧ k ≤ 900000 ∧ DpT K H v (frd x) ∧ DpT K H w (frd y) ∧ Nm x ∧ Nm y ∧
  ∀ H' v' q, But a H H' → Well H' a (k + 2) → DpT K H' v' (frd q) → Bq 38 q → (y ≤ x → y ≤ q ∧ q ≤ x) → Q v' H'
theorem ok_lbetween (T : Gs K mg) (D__law_draw : Df P w K mg base "_law_draw" 1 ["well", "limit"] spDraw) (D__law_cut : Df P w K mg base "_law_cut" 1 ["top", "under"] spFrac) (D__law_add : Df P w K mg base "_law_add" 2 ["one", "two"] (spR2 K (· + ·) fun _ => True))
    (D__law_sub : Df P w K mg base "_law_sub" 2 ["one", "two"] (spR2 K (· - ·) fun _ => True)) (D__law_mul : Df P w K mg base "_law_mul" 2 ["one", "two"] (spR2 K (· * ·) fun _ => True)) (F : At K mg "_law_between" s__law_between) :
    Df P w K mg base "_law_between" 3 ["well", "high", "low_end"] (spLBetween K) := by
  have sc := sc__law_between
  refine Df.mk' F sc (fun vs H Q E h => ?_) (fun _ _ _ _ _ _ us hl => match us, hl with | [_, _, _], _ => rfl) (fun f cdv A outer s H vs Q E hr h => ?_)
  · obtain ⟨a, v, w, x, y, k, rfl, _⟩ := h
    rfl
  · obtain ⟨a, v, w', x, y, k, rfl, hw, kl, dx, dy, bx, by_, q⟩ := h
    refine ⟨_, (pss_cons (ps_set (i := 3) sc.nd rfl (.inl rfl) (pe_fn D__law_draw (by decide) hr (pa_cons (pv 0) (pa_cons pe_int pa_nil)))) (pss_cons (ps_if (pt_cmpR op_lt (pv 3) pe_int (nomark _)) (pss_one (ps_ret (pe_ifExp (pt_cmpR op_eq (pv 3) pe_int (nomark _)) (pv 1) (pv 2)))) pss_nil) (pss_cons (ps_set (i := 4) sc.nd rfl (.inl rfl) (pe_fn D__law_cut (by decide) hr (pa_cons (pe_op op_add pe_int (pe_fn D__law_draw (by decide) hr (pa_cons (pv 0) (pa_cons pe_int pa_nil)))) (pa_cons pe_int pa_nil)))) (pss_one (ps_ret (pe_fn D__law_add (by decide) hr (pa_cons (pv 2) (pa_cons (pe_fn D__law_mul (by decide) hr (pa_cons (pv 4) (pa_cons (pe_fn D__law_sub (by decide) hr (pa_cons (pv 1) (pa_cons (pv 2) pa_nil))) pa_nil))) pa_nil)))))))), ?_⟩
    refine ⟨_, rfl, a, _, k, rfl, hw, by omega, by decide, by decide, fun H1 d1 b1 w1 d10 d1l => ?_⟩
    have dx1 := DpT.keep (b1.ktW hw) dx
    have dy1 := DpT.keep (b1.ktW hw) dy
    refine ⟨_, rfl, _, _, rfl, rfl, _, rfl, if2 (fun e => ?_) (fun e => ?_)⟩
    · refine ⟨_, rfl, rfl, _, rfl, if2 (fun e2 => ?_) (fun e2 => ?_)⟩
      · exact ⟨_, rfl, q _ _ x b1 (w1.mono (by omega)) dx1 (bx.bq.mono (by decide)) fun z => ⟨z, Rat.le_refl⟩⟩
      · exact ⟨_, rfl, q _ _ y b1 (w1.mono (by omega)) dy1 (by_.bq.mono (by decide)) fun z => ⟨Rat.le_refl, z⟩⟩
    · refine ⟨_, rfl, a, _, k + 1, rfl, w1, by omega, by decide, by decide, fun H2 d2 b2 w2 d20 d2l => ?_⟩
      refine ⟨_, _, rfl, rfl, _, _, rfl, by decide, by decide +kernel, fun H3 p3 s3 h3 => ?_⟩
      have bp : B2 2 3 (Rat.divInt (1 + d2) 4) := b2_div (by decide) (by omega) (by decide)
      have k13 := (b2.ktW w1).trans (Same.kt s3)
      have dx3 := DpT.keep k13 dx1
      have dy3 := DpT.keep k13 dy1
      refine ⟨_, rfl, _, rfl, _, rfl, _, rfl, _, _, x, y, rfl, dx3, dy3, bx.bq.mono (by decide), by_.bq.mono (by decide), .intro, fun H4 p4 s4 h4 => ?_⟩
      have bs : Bq 41 (x - y) := bx.bq.sub by_.bq (by decide)
      refine ⟨_, _, _, x - y, rfl, fqSame (fqO h3) s4, fqO h4, (bp.bq (c := 3) (by decide) (by decide)).mono (by decide), bs.mono (by decide), .intro, fun H5 p5 s5 h5 => ?_⟩
      have bm : Bq 44 (Rat.divInt (1 + d2) 4 * (x - y)) := (bp.bq (c := 3) (by decide) (by decide)).mul bs (by decide)
      refine ⟨_, _, y, _, rfl, fqSame dy3 (s4.trans s5), fqO h5, by_.bq.mono (by decide), bm.mono (by decide), .intro, fun H6 p6 s6 h6 => ?_⟩
      have s36 := s3.trans (s4.trans (s5.trans s6))
      exact q _ _ _ ((b1.trans b2).trans (Same.but s36)) ((w2.same s36).mono (by omega)) (fqO h6) (nm_between bx by_ bp) (part_in d20 d2l)
abbrev s__law_are_fracs : Stmt := topS 70
abbrev N__law_are_fracs : List Str := ["thing", "wide", "x"]
theorem sc__law_are_fracs : FnScope N__law_are_fracs ["thing", "wide"] (defScope s__law_are_fracs) := ⟨rfl, rfl, rfl, by decide +kernel, rfl, by decide +kernel, by decide +kernel⟩
def spAreFr (K : PySem.W.Frag) : Sp := fun vs H Q _ => ∃ (v : V) (n : Nat) (qs : List Rat), vs = [v, .int n] ∧ DpT K H v (rowQ qs) ∧ qs.length = n ∧ (∀ x ∈ qs, Bq 4000 x) ∧ ∀ H', Same H H' → Q (.bl true) H'
theorem ok_are_fracs (T : Gs K mg) (D__law_is_frac : Df P w K mg base "_law_is_frac" 4 ["thing"] (spLFrac K)) (F : At K mg "_law_are_fracs" s__law_are_fracs) : Df P w K mg base "_law_are_fracs" 5 ["thing", "wide"] (spAreFr K) := by
  have sc := sc__law_are_fracs
  refine Df.mk' F sc (fun vs H Q E h => ?_) (fun _ _ _ _ _ _ us hl => match us, hl with | [_, _], _ => rfl) (fun f cdv A outer s H vs Q E hr h => ?_)
  · obtain ⟨v, n, qs, rfl, _⟩ := h
    rfl
  · obtain ⟨v, n, qs, rfl, hv, ln, bq, q⟩ := h
    obtain ⟨p, xs, rfl, hp, ha⟩ := dtTupQ hv
    have hl : xs.length = qs.length := by rw [dtAll_len ha, List.length_map]
    refine ⟨_, (pss_one (ps_ret (pe_and (pe_callB call_isi (by rfl) T.isinstance (by decide +kernel) (pa_cons (pv 0) (pa_cons (pe_bltn (v := .ty "tuple") (by rfl) T.tuple_ (by decide +kernel) rfl) pa_nil))) (pe_and (pe_cmpR op_eq (pe_callB call_len_seq (by rfl) T.len PySem.boot_len (pa_cons (pv 0) pa_nil)) (pv 1) (nomark _)) (pe_one (pe_cmpR (op_eqD hr.units) (pe_lc (own := [("x", 2)]) (g := gName 2) rfl sc.nd (pi_tup (pv 0)) (blkOk_by (own := [("x", 2)]) (N := N__law_are_fracs) (sc := defScope s__law_are_fracs) (by decide +kernel)) (fun _ _ _ _ _ => (pg_name (i := 2) sc.nd rfl (.inl rfl))) (fun _ _ _ _ _ => (pts_one (pt_not (pt_val (pe_fn D__law_is_frac (by decide) hr (pa_cons (pv 2) pa_nil)))))) (fun _ _ _ _ _ => (pv 2))) (pe_lst pa_nil) (nomark _))))))), ?_⟩
    refine ⟨_, rfl, _, _, _, _, _, rfl, .ty _, tyT hp, rfl, _, rfl, ifT rfl ?_⟩
    refine ⟨_, rfl, _, _, rfl, .inr hp, _, rfl, rfl, _, rfl, ifT (by rw [hl, ln]; simp) ?_⟩
    refine ⟨_, rfl, p, rfl, ⟨_, hp⟩, fun D hD => lc_tup (K := K) (a := p) (xs := xs) (fun i H' => Same H H' ∧ H' D = some (.lst [])) ⟨same_upd hD, upd_same⟩ (fun i H' _ h => sameT h.1 hp) ?_ ?_⟩
    · rintro i x H' hi ⟨sm, hd⟩
      obtain ⟨t, ht, hdp⟩ := fqGetV ha hi
      refine ⟨rfl, ?_⟩
      refine ⟨_, rfl, _, t, rfl, fqSame hdp sm, bq t (List.mem_of_getElem? ht), fun H3 s3 => ?_⟩
      exact ⟨_, rfl, ifF rfl ⟨sm.trans s3, s3 _ _ hd⟩⟩
    · rintro H' ⟨sm, hd⟩
      refine ⟨by show 0 ≤ sizeLine; decide, fun e he => ?_⟩
      have s2 := same_upd (o := .lst []) he
      exact ⟨.list [], .list [], .lst (SqL.of (s2 _ _ hd)) .nil, .lst (SqL.of upd_same) .nil, rfl, rfl, q _ (sm.trans s2)⟩
abbrev s__law_is_laced : Stmt := topS 71
abbrev N__law_is_laced : List Str := ["tops", "lows", "far", "some", "at"]
theorem sc__law_is_laced : FnScope N__law_is_laced ["tops", "lows"] (defScope s__law_is_laced) := ⟨rfl, rfl, rfl, by decide +kernel, rfl, by decide +kernel, by decide +kernel⟩
/-- two rows, the second one not longer -/
structure TwoL (K : PySem.W.Frag) (H : Hp) (v w : V) (tops lows : List Rat) : Prop where
  dt : DpT K H v (rowQ tops)
  dl : DpT K H w (rowQ lows)
  bt : ∀ x ∈ tops, Bq 4000 x
  bl : ∀ x ∈ lows, Bq 4000 x
  l6 : tops.length ≤ 6
  le : lows.length ≤ tops.length
def spLLaced (K : PySem.W.Frag) : Sp := fun vs H Q _ => ∃ (v w : V) (tops lows : List Rat), vs = [v, w] ∧ TwoL K H v w tops lows ∧ ∀ H', Same H H' → Q (.bl (lacB tops lows)) H'
theorem ok_llaced (T : Gs K mg) (D__law_less : Df P w K mg base "_law_less" 1 ["one", "two"] (spR2b K fun x y => decide (x < y))) (F : At K mg "_law_is_laced" s__law_is_laced) : Df P w K mg base "_law_is_laced" 2 ["tops", "lows"] (spLLaced K) := by
  have sc := sc__law_is_laced
  refine Df.mk' F sc (fun vs H Q E h => ?_) (fun _ _ _ _ _ _ us hl => match us, hl with | [_, _], _ => rfl) (fun f cdv A outer s H vs Q E hr h => ?_)
  · obtain ⟨v, w, tops, lows, rfl, _⟩ := h
    rfl
  · obtain ⟨v, w', tops, lows, rfl, tw, q⟩ := h
    obtain ⟨p, xs, rfl, hp, hA⟩ := dtTupQ tw.dt
    obtain ⟨p', ys, rfl, hp', hB⟩ := dtTupQ tw.dl
    have lx : xs.length = tops.length := by rw [dtAll_len hA, List.length_map]
    have ly : ys.length = lows.length := by rw [dtAll_len hB, List.length_map]
    have le := tw.le
    have l6 := tw.l6
    refine ⟨_, (pss_cons (ps_set (i := 2) sc.nd rfl (.inr rfl) (pe_op op_sub (pe_callB call_len_seq (by rfl) T.len PySem.boot_len (pa_cons (pv 0) pa_nil)) (pe_callB call_len_seq (by rfl) T.len PySem.boot_len (pa_cons (pv 1) pa_nil)))) (pss_cons (ps_setLc (i := 3) (own := [("at", 4)]) (g := gName 4) rfl sc.nd rfl rfl (sw_true rfl rfl rfl (by decide +kernel)) (pi_range1 rfl T.range (pa_cons (pe_callB call_len_seq (by rfl) T.len PySem.boot_len (pa_cons (pv 1) pa_nil)) pa_nil)) (blkOk_by (own := [("at", 4)]) (N := N__law_is_laced) (sc := defScope s__law_is_laced) (by decide +kernel)) (fun _ _ _ _ _ => (pg_name (i := 4) sc.nd rfl (.inl rfl))) (fun _ _ _ _ _ => (pts_one (PW.pt (pw_or (pt_val (pe_fn D__law_less (by decide) hr (pa_cons (pe_ix (ixTK (K := K) rfl) (pv 0) (pv 4) (fun _ _ => rfl)) (pa_cons (pe_ix (ixTK (K := K) rfl) (pv 1) (pv 4) (fun _ _ => rfl)) pa_nil)))) (pw_or1 (pt_val (pe_fn D__law_less (by decide) hr (pa_cons (pe_ix (ixTK (K := K) rfl) (pv 1) (pv 4) (fun _ _ => rfl)) (pa_cons (pe_ix (ixTK (K := K) rfl) (pv 0) (pe_op op_add (pv 4) (pv 2)) (fun _ _ => rfl)) pa_nil))))))))) (fun _ _ _ _ _ => (pv 4))) (pss_one (ps_ret (pe_cmpR (op_eqD hr.units) (pv 3) (pe_lst pa_nil) (nomark _)))))), ?_⟩
    refine ⟨_, rfl, _, _, rfl, .inr hp, _, rfl, _, _, rfl, .inr hp', _, _, rfl, rfl, ?_⟩
    refine ⟨_, rfl, _, _, rfl, .inr hp', ?_⟩
    refine ⟨_, rfl, by omega, by omega, fun D hD => lc_range (lo := 0) (n := _) (fun i H' => Same H H' ∧ H' D = some (.lst (((List.range i).filter (badB tops lows)).map fun (k : Nat) => V.int (k : Int)))) ⟨same_upd hD, upd_same⟩ ?_ ?_⟩
    · rintro i H' hi ⟨sm, hd⟩
      have hi2 : i < lows.length := by omega
      obtain ⟨v1, hv1, d1⟩ := gqDt (i := i) hA (by omega)
      obtain ⟨v2, hv2, d2⟩ := gqDt (i := i) hB hi2
      obtain ⟨v3, hv3, d3⟩ := gqDt (i := i + (tops.length - lows.length)) hA (by omega)
      have b1 := tw.bt _ (gq_mem (show i < tops.length by omega))
      have b2 := tw.bl _ (gq_mem hi2)
      have b3 := tw.bt _ (gq_mem (show i + (tops.length - lows.length) < tops.length by omega))
      have fin : ∀ b : Bool, b = badB tops lows i → (if b = true then (∃ acc, H' D = some (.lst acc) ∧ acc.length < sizeLine ∧ Same H (upd H' D (.lst (acc ++ [V.int (0 + (i : Int))]))) ∧ (upd H' D (.lst (acc ++ [V.int (0 + (i : Int))]))) D = some (.lst (((List.range (i + 1)).filter (badB tops lows)).map fun (k : Nat) => V.int (k : Int)))) else (Same H H' ∧ H' D = some (.lst (((List.range (i + 1)).filter (badB tops lows)).map fun (k : Nat) => V.int (k : Int))))) := fun b eb => by
        subst eb
        rw [List.range_succ, List.filter_append]
        refine if2 (fun c => ?_) (fun c => ?_)
        · refine ⟨_, hd, small1000 ?_, same_updN sm hD, ?_⟩
          · have := List.length_filter_le (badB tops lows) (List.range i)
            rw [List.length_range] at this
            rw [List.length_map]
            omega
          · rw [upd_same, List.filter_cons_of_pos c, List.map_append]
            congr 2
            show _ = _ ++ [V.int (i : Int)]
            rw [Int.zero_add]
        · rw [List.filter_cons_of_neg (by rw [c]; simp)]
          refine ⟨sm, ?_⟩
          rw [List.filter_nil, List.append_nil]
          exact hd
      refine ⟨rfl, ?_⟩
      refine ⟨_, rfl, _, rfl, _, _, _, _, rfl, rfl, sameT sm hp, at_of (j := i) (by omega) hv1, _, rfl, _, rfl, _, _, _, _, rfl, rfl, sameT sm hp', at_of (j := i) (by omega) hv2, ?_⟩
      refine ⟨_, _, _, _, rfl, fqSame d1 sm, fqSame d2 sm, b1, b2, _, rfl, if2 (fun e => ?_) (fun e => ?_)⟩
      · dsimp only at e
        have := fin true (by unfold badB; rw [e, Bool.true_or])
        rw [if_pos rfl] at this
        exact ⟨_, rfl, this⟩
      · dsimp only at e
        refine ⟨_, rfl, _, rfl, _, _, _, _, rfl, rfl, sameT sm hp', at_of (j := i) (by omega) hv2, _, rfl, _, rfl, _, rfl, _, _, rfl, rfl, _, _, _, _, rfl, rfl, sameT sm hp, at_of (j := i + (tops.length - lows.length)) (by omega) hv3, ?_⟩
        refine ⟨_, _, _, _, rfl, fqSame d2 sm, fqSame d3 sm, b2, b3, _, rfl, ?_⟩
        have := fin _ (show decide (gq lows i < gq tops (i + (tops.length - lows.length))) = badB tops lows i by unfold badB; rw [e, Bool.false_or])
        refine if2 (fun c => ?_) (fun c => ?_)
        · rw [if_pos c] at this
          exact ⟨_, rfl, this⟩
        · dsimp only at c
          rw [if_neg (by rw [c]; simp)] at this
          exact this
    · rintro H' ⟨sm, hd⟩
      refine ⟨_, rfl, by show 0 ≤ sizeLine; decide, fun e he => ?_⟩
      have s2 := same_upd (o := .lst []) he
      have en : ((ys.length : Int)).toNat = lows.length := by omega
      rw [en] at hd
      refine ⟨.list (((List.range lows.length).filter (badB tops lows)).map fun (k : Nat) => PyData.int (k : Int)), .list [], .lst (SqL.of (s2 _ _ hd)) ?_, .lst (SqL.of upd_same) .nil, shaped_nats _, rfl, ?_⟩
      · have : ∀ js : List Nat, DpAll K (upd H' e (.lst [])) (js.map fun (k : Nat) => V.int (k : Int)) (js.map fun (k : Nat) => PyData.int (k : Int)) := fun js => by
          induction js with
          | nil => exact .nil
          | cons j r ih => exact .cons (.int _) ih
        exact this _
      · rw [eqv_nil, bad_nil]
        exact q _ (sm.trans s2)
end
end V3
namespace V3
open PySem.Spec PySem L2 PyProof.Rows RZ GxR
section
variable {mg : Str → Option Value} {base : Heap} {K : PySem.W.Frag} {P : Program} {w : World}
theorem mkP {H : Hp} {p : Addr} {o : HO} (h : H p = none) : ∃ G, upd H p o = G ∧ Same H G ∧ G p = some o := ⟨_, rfl, same_upd h, upd_same⟩
abbrev s__law_shaken : Stmt := topS 73
abbrev N__law_shaken : List Str := ["well", "some", "at", "new"]
theorem sc__law_shaken : FnScope N__law_shaken ["well", "some"] (defScope s__law_shaken) := ⟨rfl, rfl, rfl, by decide +kernel, rfl, by decide +kernel, by decide +kernel⟩
def spShaken (K : PySem.W.Frag) : Sp := fun vs H Q _ => ∃ (a : Addr) (v : V) (qs : List Rat) (k : Nat), vs = [.ref a, v] ∧ Well H a k ∧ k ≤ 600000 ∧ DpT K H v (rowQ qs) ∧ (∀ x ∈ qs, Bq 38 x) ∧ 1 ≤ qs.length ∧ qs.length ≤ 6 ∧
  ∀ H' v' ls, But a H H' → Well H' a (k + 6) → DpT K H' v' (rowQ ls) → Rw qs.length ls → (∀ x ∈ ls, Bq 49 x) → Q v' H'
theorem ok_shaken (T : Gs K mg) (D__law_draw : Df P w K mg base "_law_draw" 1 ["well", "limit"] spDraw) (D__law_pick : Df P w K mg base "_law_pick" 2 ["well", "some"] (spPick K)) (D__law_number : Df P w K mg base "_law_number" 2 ["well"] (spNumber K)) (D__law_add : Df P w K mg base "_law_add" 2 ["one", "two"] (spR2 K (· + ·) fun _ => True))
    (D__law_down : Df P w K mg base "_law_down" 2 ["some"] (spDown K)) (F : At K mg "_law_shaken" s__law_shaken) : Df P w K mg base "_law_shaken" 3 ["well", "some"] (spShaken K) := by
  have sc := sc__law_shaken
  refine Df.mk' F sc (fun vs H Q E h => ?_) (fun _ _ _ _ _ _ us hl => match us, hl with | [_, _], _ => rfl) (fun f cdv A outer s H vs Q E hr h => ?_)
  · obtain ⟨a, v, qs, k, rfl, _⟩ := h
    rfl
  · obtain ⟨a, v, qs, k, rfl, hw, kl, hv, bq, l1, l6, q⟩ := h
    obtain ⟨p, xs, rfl, hp, hA⟩ := dtTupQ hv
    have lx : xs.length = qs.length := by rw [dtAll_len hA, List.length_map]
    refine ⟨_, (pss_cons (ps_set (i := 2) sc.nd rfl (.inl rfl) (pe_fn D__law_draw (by decide) hr (pa_cons (pv 0) (pa_cons (pe_callB call_len_seq (by rfl) T.len PySem.boot_len (pa_cons (pv 1) pa_nil)) pa_nil)))) (pss_cons (ps_set (i := 3) sc.nd rfl (.inl rfl) (pe_fn D__law_number (by decide) hr (pa_cons (pv 0) pa_nil))) (pss_cons (ps_if (pt_cmpR op_eq (pe_fn D__law_draw (by decide) hr (pa_cons (pv 0) (pa_cons pe_int pa_nil))) pe_int (nomark _)) (pss_one (ps_set (i := 3) sc.nd rfl (.inl rfl) (pe_fn D__law_add (by decide) hr (pa_cons (pe_ix ix_tup (pv 1) (pv 2) (fun _ _ => rfl)) (pa_cons (pe_fn D__law_pick (by decide) hr (pa_cons (pv 0) (pa_cons (pe_tup (pa_cons (pe_tup (pa_cons pe_int (pa_cons pe_int pa_nil))) (pa_cons (pe_tup (pa_cons (pe_un un_neg pe_int) (pa_cons pe_int pa_nil))) (pa_cons (pe_tup (pa_cons pe_int (pa_cons pe_int pa_nil))) (pa_cons (pe_tup (pa_cons (pe_un un_neg pe_int) (pa_cons pe_int pa_nil))) (pa_cons (pe_tup (pa_cons pe_int (pa_cons pe_int pa_nil))) (pa_cons (pe_tup (pa_cons (pe_un un_neg pe_int) (pa_cons pe_int pa_nil))) pa_nil))))))) pa_nil))) pa_nil))))) pss_nil) (pss_one (ps_ret (pe_fn D__law_down (by decide) hr (pa_cons (pe_op op_catQ (pe_op op_catQ (pe_slice sl_Q (pv 1) po_none (po_some (pv 2))) (pe_tup (pa_cons (pv 3) pa_nil))) (pe_slice sl_Q (pv 1) (po_some (pe_op op_add (pv 2) pe_int)) po_none)) pa_nil))))))), ?_⟩
    refine ⟨_, rfl, _, rfl, _, _, rfl, .inr hp, a, _, k, rfl, hw, by omega, by omega, by omega, fun H1 d b1 w1 d0 dl => ?_⟩
    obtain ⟨i, rfl⟩ : ∃ i : Nat, d = (i : Int) := ⟨d.toNat, by omega⟩
    have hi : i < qs.length := by omega
    refine ⟨_, rfl, a, k + 1, rfl, w1, by omega, fun H2 nv nq b2 w2 dn bn => ?_⟩
    have k12 := (b1.ktW hw).trans (b2.ktW w1)
    refine ⟨_, rfl, a, _, k + 1 + 3, rfl, w2, by omega, by decide, by decide, fun H3 d3 b3 w3 d30 d3l => ?_⟩
    have k13 := k12.trans (b3.ktW w2)
    have dn3 := DpT.keep (b3.ktW w2) dn
    have hA3 := hA.keep k13
    have hp3 := k13.sqT hp
    have b13 := (b1.trans b2).trans b3
    obtain ⟨v1, hv1, d1⟩ := gqDt (i := i) hA3 hi
    have fin : ∀ (H4 : Hp) (v4 : V) (q4 : Rat), But a H H4 → Well H4 a (k + 6) → DpT K H4 (.ref p) (rowQ qs) → DpT K H4 v4 (frd q4) → Bq 49 q4 → tRet (tFn (spDown K) (tCons (tOp (rCatQ K) (tOp (rCatQ K) (tSl (rSlQ K) (tVar 1) tNoPart (tPart (tVar 2))) (tTup (tCons (tVar 3) tNil))) (tSl (rSlQ K) (tVar 1) (tPart (tOp (rI0 fun i j => V.int (i + j)) (tVar 2) (tC (.int 1)))) tNoPart)) tNil)) { nx := fun x H' => Q V.non H', rt := Q } [some (.ref a), some (.ref p), some (.int (i : Int)), some v4] H4 := fun H4 v4 q4 b4 w4 hv4 dv4 bq4 => by
      refine ⟨_, rfl, _, rfl, (i : Int), rfl, qs.map frd, hv4, fun H5 v5 s5 d5 => ?_⟩
      rw [cutP_to, ← List.map_take] at d5
      refine ⟨_, rfl, by show 1 ≤ sizeLine; decide, fun p6 hp6 => ?_⟩
      obtain ⟨H6, e6, s6, a6⟩ := mkP (o := .tup [v4]) hp6
      rw [e6]
      have d6 : DpT K H6 (.ref p6) (rowQ [q4]) := .tup (SqT.of a6) (.cons (DpT.keep (Same.kt (s5.trans s6)) dv4) .nil)
      refine ⟨(qs.take i).map frd, [q4].map frd, DpT.keep (Same.kt s6) d5, d6, by rw [List.length_map, List.length_map, List.length_take, List.length_singleton]; omega, fun H7 v7 s7 d7 => ?_⟩
      have s57 := s5.trans (s6.trans s7)
      refine ⟨_, rfl, _, rfl, _, _, rfl, rfl, (i : Int) + 1, rfl, qs.map frd, DpT.keep (Same.kt s57) hv4, fun H8 v8 s8 d8 => ?_⟩
      rw [cutP_from, ← List.map_drop] at d8
      refine ⟨_, _, DpT.keep (Same.kt s8) d7, d8, by rw [List.length_append, List.length_map, List.length_map, List.length_map, List.length_take, List.length_drop, List.length_singleton]; omega, fun H9 v9 s9 d9 => ?_⟩
      rw [← List.map_append, ← List.map_append] at d9
      obtain ⟨p9, zs, rfl, hp9, hC⟩ := dtTupQ d9
      have s49 := s57.trans (s8.trans s9)
      have hb : ∀ x ∈ qs.take i ++ [q4] ++ qs.drop (i + 1), Bq 49 x := fun x hx => by
        rcases List.mem_append.mp hx with h | h
        · (rcases List.mem_append.mp h with h | h)
          · exact (bq x (List.mem_of_mem_take h)).mono (by decide)
          · rw [List.mem_singleton.mp h]
            exact bq4
        · exact (bq x (List.mem_of_mem_drop h)).mono (by decide)
      have hlen : (qs.take i ++ [q4] ++ qs.drop (i + 1)).length = qs.length := by
        rw [List.length_append, List.length_append, List.length_take, List.length_drop, List.length_singleton]
        omega
      refine ⟨p9, zs, _, rfl, .inr hp9, hC, fun x hx => (hb x hx).mono (by decide), by omega, fun H10 p10 ys s10 hp10 hys => ?_⟩
      exact q H10 _ _ (b4.trans (Same.but (s49.trans s10))) (w4.same (s49.trans s10)) (.tup (SqT.of hp10) hys) ⟨by rw [downQ_len, hlen], downQ_srt _, fun x hx => (hb x (downQ_mem.mp hx)).mono (by decide)⟩ fun x hx => hb x (downQ_mem.mp hx)
    refine ⟨rfl, _, rfl, if2 (fun e => ?_) (fun e => ?_)⟩
    · refine ⟨_, rfl, _, rfl, _, _, _, _, rfl, rfl, hp3, at_of (j := i) rfl hv1, ?_⟩
      refine ⟨_, rfl, by show 2 ≤ sizeLine; decide, fun p1 h1 => ?_⟩
      obtain ⟨G1, e1, s1, a1⟩ := mkP (o := .tup [.int 1, .int 1]) h1
      rw [e1]
      refine ⟨1, rfl, by show 2 ≤ sizeLine; decide, fun p2 h2 => ?_⟩
      obtain ⟨G2, e2, s2, a2⟩ := mkP (o := .tup [.int (-1), .int 1]) h2
      rw [e2]
      refine ⟨by show 2 ≤ sizeLine; decide, fun p3 h3 => ?_⟩
      obtain ⟨G3, e3, s3, a3⟩ := mkP (o := .tup [.int 1, .int 2]) h3
      rw [e3]
      refine ⟨1, rfl, by show 2 ≤ sizeLine; decide, fun p4 h4 => ?_⟩
      obtain ⟨G4, e4, s4, a4⟩ := mkP (o := .tup [.int (-1), .int 3]) h4
      rw [e4]
      refine ⟨by show 2 ≤ sizeLine; decide, fun p5 h5 => ?_⟩
      obtain ⟨G5, e5, s5, a5⟩ := mkP (o := .tup [.int 1, .int 1000]) h5
      rw [e5]
      refine ⟨1, rfl, by show 2 ≤ sizeLine; decide, fun p6 h6 => ?_⟩
      obtain ⟨G6, e6, s6, a6⟩ := mkP (o := .tup [.int (-1), .int 1000]) h6
      rw [e6]
      refine ⟨by show 6 ≤ sizeLine; decide, fun p7 h7 => ?_⟩
      obtain ⟨G7, e7, s7, a7⟩ := mkP (o := .tup [.ref p1, .ref p2, .ref p3, .ref p4, .ref p5, .ref p6]) h7
      rw [e7]
      have s67 := s6.trans s7
      have s57 := s5.trans s67
      have s47 := s4.trans s57
      have s37 := s3.trans s47
      have s27 := s2.trans s37
      have s17 := s1.trans s27
      have all : ∀ x ∈ [V.ref p1, .ref p2, .ref p3, .ref p4, .ref p5, .ref p6], ∃ z, DpT K G7 x (frd z) ∧ Bq 10 z := fun x hx => by
        (simp only [List.mem_cons, List.not_mem_nil, or_false] at hx)
        rcases hx with rfl | rfl | rfl | rfl | rfl | rfl
        · exact ⟨Rat.divInt 1 1, fqI (s27 _ _ a1) (by decide +kernel) (by decide +kernel), ⟨by decide +kernel, by decide +kernel⟩⟩
        · exact ⟨Rat.divInt (-1) 1, fqI (s37 _ _ a2) (by decide +kernel) (by decide +kernel), ⟨by decide +kernel, by decide +kernel⟩⟩
        · exact ⟨Rat.divInt 1 2, fqI (s47 _ _ a3) (by decide +kernel) (by decide +kernel), ⟨by decide +kernel, by decide +kernel⟩⟩
        · exact ⟨Rat.divInt (-1) 3, fqI (s57 _ _ a4) (by decide +kernel) (by decide +kernel), ⟨by decide +kernel, by decide +kernel⟩⟩
        · exact ⟨Rat.divInt 1 1000, fqI (s67 _ _ a5) (by decide +kernel) (by decide +kernel), ⟨by decide +kernel, by decide +kernel⟩⟩
        · exact ⟨Rat.divInt (-1) 1000, fqI (s7 _ _ a6) (by decide +kernel) (by decide +kernel), ⟨by decide +kernel, by decide +kernel⟩⟩
      refine ⟨a, p7, _, k + 1 + 3 + 1, rfl, w3.same s17, by omega, SqT.of a7, by show 0 < 6; decide, by show 6 ≤ 1000; decide, fun H8 j x b8 w8 hx => ?_⟩
      obtain ⟨z, dz, bz⟩ := all x (List.mem_of_getElem? hx)
      have k8 := (Same.kt s17).trans (b8.ktW (w3.same s17))
      have bi := bq _ (gq_mem hi)
      refine ⟨_, _, gq qs i, z, rfl, DpT.keep k8 d1, DpT.keep (b8.ktW (w3.same s17)) dz, bi.mono (by decide), bz.mono (by decide), .intro, fun H9 p9 s9 h9 => ?_⟩
      exact fin H9 _ _ ((b13.trans (Same.but s17)).trans (b8.trans (Same.but s9))) ((w8.same s9).mono (by omega)) (.tup ((k8.trans (Same.kt s9)).sqT hp3) (hA3.keep (k8.trans (Same.kt s9)))) (fqO h9) (bi.add bz (by decide))
    · exact fin H3 nv nq b13 (w3.mono (by omega)) (.tup hp3 hA3) dn3 (bn.bq.mono (by decide))
end
end V3
namespace V3
open PySem.Spec PySem L2 PyProof.Rows RZ GxR
section
variable {mg : Str → Option Value} {base : Heap} {K : PySem.W.Frag} {P : Program} {w : World}
abbrev s__law_wide : Stmt := topS 65
abbrev N__law_wide : List Str := ["well", "most"]
theorem sc__law_wide : FnScope N__law_wide ["well", "most"] (defScope s__law_wide) := ⟨rfl, rfl, rfl, by decide +kernel, rfl, by decide +kernel, by decide +kernel⟩
def spWide (K : PySem.W.Frag) : Sp := fun vs H Q _ => ∃ (a : Addr) (k : Nat), vs = [.ref a, .int 5] ∧ Well H a k ∧ k ≤ 900000 ∧ ∀ H' (n : Nat), But a H H' → Well H' a (k + 1) → 1 ≤ n → n ≤ 5 → Q (.int n) H'
theorem ok_wide (T : Gs K mg) (D__law_pick : Df P w K mg base "_law_pick" 2 ["well", "some"] (spPick K)) (F : At K mg "_law_wide" s__law_wide) : Df P w K mg base "_law_wide" 3 ["well", "most"] (spWide K) := by
  have sc := sc__law_wide
  refine Df.mk' F sc (fun vs H Q E h => ?_) (fun _ _ _ _ _ _ us hl => match us, hl with | [_, _], _ => rfl) (fun f cdv A outer s H vs Q E hr h => ?_)
  · obtain ⟨a, k, rfl, _⟩ := h
    rfl
  · obtain ⟨a, k, rfl, hw, kl, q⟩ := h
    refine ⟨_, (pss_one (ps_ret (pe_callB (call_min2 rfl) (by rfl) T.min (by decide +kernel) (pa_cons (pv 1) (pa_cons (pe_fn D__law_pick (by decide) hr (pa_cons (pv 0) (pa_cons (pe_tup (pa_cons pe_int (pa_cons pe_int (pa_cons pe_int (pa_cons pe_int (pa_cons pe_int (pa_cons pe_int (pa_cons pe_int (pa_cons pe_int (pa_cons pe_int (pa_cons pe_int (pa_cons pe_int pa_nil)))))))))))) pa_nil))) pa_nil))))), ?_⟩
    refine ⟨_, rfl, _, rfl, by show 11 ≤ sizeLine; decide, fun p hp => ?_⟩
    obtain ⟨H1, e1, s1, a1⟩ := mkP (o := .tup [.int 2, .int 3, .int 2, .int 4, .int 3, .int 2, .int 1, .int 3, .int 5, .int 2, .int 6]) hp
    rw [e1]
    refine ⟨a, p, _, k, rfl, hw.same s1, by omega, SqT.of a1, by show 0 < 11; decide, by show 11 ≤ 1000; decide, fun H2 i x b2 w2 hx => ?_⟩
    have all : ∃ n : Nat, x = .int n ∧ 1 ≤ n ∧ n ≤ 6 := by
      have := List.mem_of_getElem? hx
      simp only [List.mem_cons, List.not_mem_nil, or_false] at this
      rcases this with rfl | rfl | rfl | rfl | rfl | rfl | rfl | rfl | rfl | rfl | rfl <;> exact ⟨_, rfl, by decide, by decide⟩
    obtain ⟨n, rfl, n1, n6⟩ := all
    have e : (if (n : Int) < 5 then (n : Int) else 5) = ((min n 5 : Nat) : Int) := by split <;> omega
    have qq := q H2 (min n 5) ((Same.but s1).trans b2) w2 (by omega) (by omega)
    refine ⟨_, _, rfl, ?_⟩
    show Q (V.int (if (n : Int) < 5 then (n : Int) else 5)) H2
    rw [e]
    exact qq
abbrev s__law_levels : Stmt := topS 77
abbrev N__law_levels : List Str := ["well", "tops", "lows"]
theorem sc__law_levels : FnScope N__law_levels ["well", "tops", "lows"] (defScope s__law_levels) := ⟨rfl, rfl, rfl, by decide +kernel, rfl, by decide +kernel, by decide +kernel⟩
def spLevels (K : PySem.W.Frag) : Sp := fun vs H Q _ => ∃ (a : Addr) (v w : V) (tops lows : List Rat) (k : Nat), vs = [.ref a, v, w] ∧ Well H a k ∧ k ≤ 900000 ∧ DpT K H v (rowQ tops) ∧ DpT K H w (rowQ lows) ∧ (∀ x ∈ tops, Bq 49 x) ∧ (∀ x ∈ lows, Bq 49 x) ∧ 1 ≤ tops.length ∧ tops.length ≤ 6 ∧ 1 ≤ lows.length ∧ lows.length ≤ 6 ∧
  ∀ H' p ys (ts : List Rat), But a H H' → Well H' a (k + 5) → H' p = some (.lst ys) → p ≠ a → DpTAll K H' ys (ts.map frd) → ts.length = 3 → (∀ x ∈ ts, Bq 49 x) → Q (.ref p) H'
theorem ok_levels (T : Gs K mg) (D__law_pick : Df P w K mg base "_law_pick" 2 ["well", "some"] (spPick K)) (D__law_number : Df P w K mg base "_law_number" 2 ["well"] (spNumber K)) (F : At K mg "_law_levels" s__law_levels) : Df P w K mg base "_law_levels" 3 ["well", "tops", "lows"] (spLevels K) := by
  have sc := sc__law_levels
  refine Df.mk' F sc (fun vs H Q E h => ?_) (fun _ _ _ _ _ _ us hl => match us, hl with | [_, _, _], _ => rfl) (fun f cdv A outer s H vs Q E hr h => ?_)
  · obtain ⟨a, v, w, t, l, k, rfl, _⟩ := h
    rfl
  · obtain ⟨a, v, w', tops, lows, k, rfl, hw, kl, dt, dl, bt, bl, t1, t6, l1, l6, q⟩ := h
    refine ⟨_, (pss_one (ps_ret (pe_lst (pa_cons (pe_fn D__law_number (by decide) hr (pa_cons (pv 0) pa_nil)) (pa_cons (pe_fn D__law_pick (by decide) hr (pa_cons (pv 0) (pa_cons (pv 1) pa_nil))) (pa_cons (pe_fn D__law_pick (by decide) hr (pa_cons (pv 0) (pa_cons (pv 2) pa_nil))) pa_nil)))))), ?_⟩
    refine ⟨_, rfl, a, k, rfl, hw, by omega, fun H1 v1 q1 b1 w1 d1 bq1 => ?_⟩
    have dt1 := DpT.keep (b1.ktW hw) dt
    have dl1 := DpT.keep (b1.ktW hw) dl
    obtain ⟨p2, xs, rfl, hp2, hA⟩ := dtTupQ dt1
    have lx : xs.length = tops.length := by rw [dtAll_len hA, List.length_map]
    refine ⟨_, rfl, _, rfl, a, p2, xs, k + 3, rfl, w1, by omega, hp2, by omega, by omega, fun H2 i2 x2 b2 w2 h2 => ?_⟩
    obtain ⟨q2, hq2, d2⟩ := fqGetV hA h2
    have k2 := b2.ktW w1
    have dl2 := DpT.keep k2 dl1
    obtain ⟨p3, ys, rfl, hp3, hB⟩ := dtTupQ dl2
    have ly : ys.length = lows.length := by rw [dtAll_len hB, List.length_map]
    refine ⟨_, rfl, _, rfl, a, p3, ys, k + 4, rfl, w2, by omega, hp3, by omega, by omega, fun H3 i3 x3 b3 w3 h3 => ?_⟩
    obtain ⟨q3, hq3, d3⟩ := fqGetV hB h3
    have k3 := b3.ktW w2
    refine ⟨by show 3 ≤ sizeLine; decide, fun p hp => ?_⟩
    have s4 := same_upd (o := .lst [v1, x2, x3]) hp
    have k4 := Same.kt s4
    refine q _ p _ [q1, q2, q3] ((b1.trans b2).trans (b3.trans (Same.but s4))) (w3.same s4) upd_same (fun z => ?_) (.cons (DpT.keep (k2.trans (k3.trans k4)) d1) (.cons (DpT.keep (k2.trans (k3.trans k4)) d2) (.cons (DpT.keep (k3.trans k4) d3) .nil))) rfl fun x hx => ?_
    · obtain ⟨xs, e⟩ := w3.lst
      rw [z, e] at hp
      cases hp
    · simp only [List.mem_cons, List.not_mem_nil, or_false] at hx
      rcases hx with rfl | rfl | rfl
      · exact bq1.bq.mono (by decide)
      · exact bt _ (List.mem_of_getElem? hq2)
      · exact bl _ (List.mem_of_getElem? hq3)
abbrev s__law_are_beside : Stmt := topS 74
abbrev N__law_are_beside : List Str := ["told", "lows", "x"]
theorem sc__law_are_beside : FnScope N__law_are_beside ["told", "lows"] (defScope s__law_are_beside) := ⟨rfl, rfl, rfl, by decide +kernel, rfl, by decide +kernel, by decide +kernel⟩
def spLBeside (K : PySem.W.Frag) : Sp := fun vs H Q _ => ∃ (v w : V) (rs lows : List Rat), vs = [v, w] ∧ DpT K H v (rowQ rs) ∧ DpT K H w (rowQ lows) ∧ rs.length = lows.length ∧ (∀ x ∈ rs, Bq 4000 x) ∧ (∀ x ∈ rs, 0 ≤ x) ∧ ∀ H', Same H H' → Q (.bl true) H'
theorem ok_lbeside (T : Gs K mg) (D__law_are_fracs : Df P w K mg base "_law_are_fracs" 5 ["thing", "wide"] (spAreFr K)) (F : At K mg "_law_are_beside" s__law_are_beside) : Df P w K mg base "_law_are_beside" 6 ["told", "lows"] (spLBeside K) := by
  have sc := sc__law_are_beside
  refine Df.mk' F sc (fun vs H Q E h => ?_) (fun _ _ _ _ _ _ us hl => match us, hl with | [_, _], _ => rfl) (fun f cdv A outer s H vs Q E hr h => ?_)
  · obtain ⟨v, w, rs, lows, rfl, _⟩ := h
    rfl
  · obtain ⟨v, w', rs, lows, rfl, dr, dl, le, bq, nn, q⟩ := h
    obtain ⟨p, xs, rfl, hp, hA⟩ := dtTupQ dr
    obtain ⟨p', ys, rfl, hp', hB⟩ := dtTupQ dl
    have ly : ys.length = lows.length := by rw [dtAll_len hB, List.length_map]
    refine ⟨_, (pss_one (ps_ret (pe_and (pe_fn D__law_are_fracs (by decide) hr (pa_cons (pv 0) (pa_cons (pe_callB call_len_seq (by rfl) T.len PySem.boot_len (pa_cons (pv 1) pa_nil)) pa_nil))) (pe_one (pe_cmpR (op_eqD hr.units) (pe_lc (own := [("x", 2)]) (g := gName 2) rfl sc.nd (pi_tup (pv 0)) (blkOk_by (own := [("x", 2)]) (N := N__law_are_beside) (sc := defScope s__law_are_beside) (by decide +kernel)) (fun _ _ _ _ _ => (pg_name (i := 2) sc.nd rfl (.inl rfl))) (fun _ _ _ _ _ => (pts_one (pt_cmpR op_lt (pe_ix (ixTK (K := K) rfl) (pv 2) pe_int (fun _ _ => rfl)) pe_int (nomark _)))) (fun _ _ _ _ _ => (pv 2))) (pe_lst pa_nil) (nomark _)))))), ?_⟩
    refine ⟨_, rfl, _, rfl, _, _, rfl, .inr hp', _, _, rs, rfl, dr, by omega, bq, fun H1 s1 => ⟨_, rfl, ifT rfl ?_⟩⟩
    have hp1 := sameT s1 hp
    refine ⟨_, rfl, p, rfl, ⟨_, hp1⟩, fun D hD => lc_tup (K := K) (a := p) (xs := xs) (fun i H' => Same H1 H' ∧ H' D = some (.lst [])) ⟨same_upd hD, upd_same⟩ (fun i H' _ h => sameT h.1 hp1) ?_ ?_⟩
    · rintro i x H' hi ⟨sm, hd⟩
      obtain ⟨t, ht, hdp⟩ := fqGetV hA hi
      obtain ⟨pt, rfl, hpt⟩ := fqT (fqSame (fqSame hdp s1) sm)
      refine ⟨rfl, ?_⟩
      refine ⟨_, rfl, _, _, _, _, rfl, rfl, hpt, at20, ?_⟩
      exact ⟨_, _, rfl, rfl, _, rfl, ifF (decide_eq_false (Int.not_lt.mpr (Rat.num_nonneg.mpr (nn t (List.mem_of_getElem? ht))))) ⟨sm, hd⟩⟩
    · rintro H' ⟨sm, hd⟩
      refine ⟨by show 0 ≤ sizeLine; decide, fun e he => ?_⟩
      have s2 := same_upd (o := .lst []) he
      exact ⟨.list [], .list [], .lst (SqL.of (s2 _ _ hd)) .nil, .lst (SqL.of upd_same) .nil, rfl, rfl, q _ (s1.trans (sm.trans s2))⟩
end
end V3
namespace V3
open PySem.Spec PySem L2 PyProof.Rows RZ GxR
theorem op_eqDK {X : Cx} {K : PySem.W.Frag} (h : X.K = K) (hu : X.A.units + 64 < cLine) : OpR X (compareOp .Eq) (rEqD K) := by
  subst h
  exact op_eqD hu
section
variable {mg : Str → Option Value} {base : Heap} {K : PySem.W.Frag} {P : Program} {w : World}
abbrev s__law_are_first : Stmt := topS 75
abbrev N__law_are_first : List Str := ["told", "lows", "some", "at"]
theorem sc__law_are_first : FnScope N__law_are_first ["told", "lows"] (defScope s__law_are_first) := ⟨rfl, rfl, rfl, by decide +kernel, rfl, by decide +kernel, by decide +kernel⟩
def spFirst (K : PySem.W.Frag) : Sp := fun vs H Q _ => ∃ (v w : V) (rs lows : List Rat), vs = [v, w] ∧ DpT K H v (rowQ rs) ∧ DpT K H w (rowQ lows) ∧ rs.length = lows.length ∧ lows.length ≤ 6 ∧ (∀ i, i + 1 < lows.length → gq lows (i + 1) = gq lows i → gq rs (i + 1) = 0) ∧ ∀ H', Same H H' → Q (.bl true) H'
theorem ok_first (T : Gs K mg) (F : At K mg "_law_are_first" s__law_are_first) : Df P w K mg base "_law_are_first" 1 ["told", "lows"] (spFirst K) := by
  have sc := sc__law_are_first
  refine Df.mk' F sc (fun vs H Q E h => ?_) (fun _ _ _ _ _ _ us hl => match us, hl with | [_, _], _ => rfl) (fun f cdv A outer s H vs Q E hr h => ?_)
  · obtain ⟨v, w, rs, lows, rfl, _⟩ := h
    rfl
  · obtain ⟨v, w', rs, lows, rfl, dr, dl, le, l6, hc, q⟩ := h
    obtain ⟨p, xs, rfl, hp, hA⟩ := dtTupQ dr
    obtain ⟨p', ys, rfl, hp', hB⟩ := dtTupQ dl
    have lx : xs.length = rs.length := by rw [dtAll_len hA, List.length_map]
    have ly : ys.length = lows.length := by rw [dtAll_len hB, List.length_map]
    refine ⟨_, (pss_cons (ps_setLc (i := 2) (own := [("at", 3)]) (g := gName 3) rfl sc.nd rfl rfl (sw_true rfl rfl rfl (by decide +kernel)) (pi_range2 rfl T.range (pa_cons pe_int (pa_cons (pe_callB call_len_seq (by rfl) T.len PySem.boot_len (pa_cons (pv 1) pa_nil)) pa_nil))) (blkOk_by (own := [("at", 3)]) (N := N__law_are_first) (sc := defScope s__law_are_first) (by decide +kernel)) (fun _ _ _ _ _ => (pg_name (i := 3) sc.nd rfl (.inl rfl))) (fun _ _ _ _ _ => (pts_one (PW.pt (pw_and (pt_cmpR (op_eqDK (K := K) rfl hr.units) (pe_ix (ixTK (K := K) rfl) (pv 1) (pv 3) (fun _ _ => rfl)) (pe_ix (ixTK (K := K) rfl) (pv 1) (pe_op op_sub (pv 3) pe_int) (fun _ _ => rfl)) (nomark _)) (pw_and1 (pt_cmpR op_ne (pe_ix (ixTK (K := K) rfl) (pe_ix (ixTK (K := K) rfl) (pv 0) (pv 3) (fun _ _ => rfl)) pe_int (fun _ _ => rfl)) pe_int (nomark _))))))) (fun _ _ _ _ _ => (pv 3))) (pss_one (ps_ret (pe_cmpR (op_eqD hr.units) (pv 2) (pe_lst pa_nil) (nomark _))))), ?_⟩
    refine ⟨_, rfl, _, _, rfl, .inr hp', 1, _, rfl, ⟨by decide, by decide, by omega, by omega⟩, fun D hD => lc_range (lo := 1) (n := _) (fun i H' => Same H H' ∧ H' D = some (.lst [])) ⟨same_upd hD, upd_same⟩ ?_ ?_⟩
    · rintro i H' hi ⟨sm, hd⟩
      have hi2 : i + 1 < lows.length := by omega
      obtain ⟨v1, hv1, d1⟩ := gqDt (i := i + 1) hB hi2
      obtain ⟨v2, hv2, d2⟩ := gqDt (i := i) hB (by omega)
      obtain ⟨v3, hv3, d3⟩ := gqDt (i := i + 1) hA (by omega)
      refine ⟨rfl, ?_⟩
      refine ⟨_, rfl, _, rfl, _, _, _, _, rfl, rfl, sameT sm hp', at_of (j := i + 1) (by omega) hv1, _, rfl, _, rfl, _, _, rfl, rfl, _, _, _, _, rfl, rfl, sameT sm hp', at_of (j := i) (by omega) hv2, ?_⟩
      refine ⟨_, _, (fqSame d1 sm).dp, (fqSame d2 sm).dp, shaped_frd _, shaped_frd _, _, rfl, ?_⟩
      rw [eqv_frd]
      refine if2 (fun c => ?_) (fun c => ?_)
      · have e1 : gq lows (i + 1) = gq lows i := of_decide_eq_true c
        have e2 := hc i hi2 e1
        rw [e2] at d3
        obtain ⟨pq, rfl, hpq⟩ := fqT (fqSame d3 sm)
        refine ⟨_, rfl, _, rfl, _, _, _, _, rfl, rfl, sameT sm hp, at_of (j := i + 1) (by omega) hv3, _, _, _, _, rfl, rfl, hpq, at20, ?_⟩
        exact ⟨rfl, _, rfl, ifF (by simp) ⟨sm, hd⟩⟩
      · exact ⟨sm, hd⟩
    · rintro H' ⟨sm, hd⟩
      refine ⟨_, rfl, by show 0 ≤ sizeLine; decide, fun e he => ?_⟩
      have s2 := same_upd (o := .lst []) he
      exact ⟨.list [], .list [], .lst (SqL.of (s2 _ _ hd)) .nil, .lst (SqL.of upd_same) .nil, rfl, rfl, q _ (sm.trans s2)⟩
abbrev s__law_lows : Stmt := topS 72
abbrev N__law_lows : List Str := ["well", "tops", "many_lows", "far", "found", "at"]
theorem sc__law_lows : FnScope N__law_lows ["well", "tops", "many_lows"] (defScope s__law_lows) := ⟨rfl, rfl, rfl, by decide +kernel, rfl, by decide +kernel, by decide +kernel⟩
def spLows (K : PySem.W.Frag) : Sp := fun vs H Q _ => ∃ (a : Addr) (v : V) (qs : List Rat) (m k : Nat), vs = [.ref a, v, .int m] ∧ Well H a k ∧ k ≤ 700000 ∧ DpT K H v (rowQ qs) ∧ (∀ x ∈ qs, Nm x) ∧ qs.length ≤ 6 ∧ m ≤ qs.length ∧
  ∀ H' v' ls, But a H H' → Well H' a (k + 12) → DpT K H' v' (rowQ ls) → Rw m ls → (∀ x ∈ ls, Bq 38 x) → Q v' H'
theorem ok_lows (T : Gs K mg) (D__law_between : Df P w K mg base "_law_between" 3 ["well", "high", "low_end"] (spLBetween K)) (D__law_down : Df P w K mg base "_law_down" 2 ["some"] (spDown K)) (F : At K mg "_law_lows" s__law_lows) :
    Df P w K mg base "_law_lows" 4 ["well", "tops", "many_lows"] (spLows K) := by
  have sc := sc__law_lows
  refine Df.mk' F sc (fun vs H Q E h => ?_) (fun _ _ _ _ _ _ us hl => match us, hl with | [_, _, _], _ => rfl) (fun f cdv A outer s H vs Q E hr h => ?_)
  · obtain ⟨a, v, qs, m, k, rfl, _⟩ := h
    rfl
  · obtain ⟨a, v, qs, m, k, rfl, hw, kl, hv, bq, l6, lm, q⟩ := h
    obtain ⟨p, xs, rfl, hp, hA⟩ := dtTupQ hv
    have lx : xs.length = qs.length := by rw [dtAll_len hA, List.length_map]
    refine ⟨_, (pss_cons (ps_par (i := 3) (j := 4) rfl sc.nd rfl rfl (by decide) rfl rfl (pa_cons (pe_op op_sub (pe_callB call_len_seq (by rfl) T.len PySem.boot_len (pa_cons (pv 1) pa_nil)) (pv 2)) (pa_cons (pe_lst pa_nil) pa_nil)) (by rfl)) (pss_cons (ps_for PassesOwn.never rfl (pi_range1 rfl T.range (pa_cons (pv 2) pa_nil)) (pg_name (i := 5) sc.nd rfl (.inl rfl)) (pss_one (ps_expr (pe_bm PySem.F.plainAttrs_list PySem.F.slot_list_append PySem.F.type_list_append mt_append (pv 4) (pa_cons (pe_fn D__law_between (by decide) hr (pa_cons (pv 0) (pa_cons (pe_ix ix_tup (pv 1) (pv 5) (fun _ _ => rfl)) (pa_cons (pe_ix ix_tup (pv 1) (pe_op op_add (pv 5) (pv 3)) (fun _ _ => rfl)) pa_nil)))) pa_nil))))) (pss_one (ps_ret (pe_fn D__law_down (by decide) hr (pa_cons (pv 4) pa_nil)))))), ?_⟩
    refine ⟨_, rfl, _, _, rfl, .inr hp, _, rfl, _, _, rfl, rfl, by show 0 ≤ sizeLine; decide, fun pf hpf => ?_⟩
    have hne := hw.ne hpf
    have s0 : Same H (upd H pf (.lst [])) := same_upd hpf
    refine ⟨_, _, rfl, ?_⟩
    refine ⟨_, rfl, _, rfl, by omega, by omega, for_range (lo := 0) (n := _) (fun i σ H' => ∃ (y : Option V) (zs : List V) (ls : List Rat), σ = [some (.ref a), some (.ref p), some (.int m), some (.int ((xs.length : Int) - (m : Int))), some (.ref pf), y] ∧ But a H H' ∧ Well H' a (k + 2 * i) ∧ H' pf = some (.lst zs) ∧
      DpTAll K H' zs (ls.map frd) ∧ ls.length = i ∧ ∀ x ∈ ls, Bq 38 x) ⟨_, [], [], rfl, Same.but s0, hw.same s0, upd_same, .nil, rfl, fun x hx => by cases hx⟩ ?_ ?_⟩
    · rintro i σ H1 hi ⟨y, zs, ls, rfl, b1, w1, hz, hzs, hll, hls⟩
      have hi2 : i < m := by omega
      have k1 := b1.ktW hw
      have hp1 := k1.sqT hp
      have hA1 := hA.keep k1
      obtain ⟨v1, hv1, d1⟩ := gqDt (i := i) hA1 (by omega)
      obtain ⟨v2, hv2, d2⟩ := gqDt (i := i + (qs.length - m)) hA1 (by omega)
      have lz : zs.length = i := by rw [dtAll_len hzs, List.length_map, hll]
      refine ⟨_, rfl, .inl ⟨rfl, _, SqL.of hz⟩, ?_⟩
      refine ⟨_, rfl, _, rfl, _, rfl, _, _, _, _, rfl, rfl, hp1, at_of (j := i) (by omega) hv1, _, rfl, _, rfl, _, rfl, _, _, rfl, rfl, _, _, _, _, rfl, rfl, hp1, at_of (j := i + (qs.length - m)) (by omega) hv2, ?_⟩
      refine ⟨a, _, _, _, _, k + 2 * i, rfl, w1, by omega, d1, d2, bq _ (gq_mem (by omega)), bq _ (gq_mem (by omega)), fun H2 v' z b2 w2 dz bz _ => ?_⟩
      have hz2 : H2 pf = some (.lst zs) := b2 _ _ (Ne.symm hne) hz
      refine ⟨pf, zs, _, rfl, rfl, hz2, small1000 (by omega), ?_⟩
      refine ⟨_, zs ++ [v'], ls ++ [z], rfl, (b1.trans b2).updN hpf, (w2.upd hne).mono (by omega), upd_same, ?_, by rw [List.length_append, hll]; rfl, fun x hx => ?_⟩
      · rw [List.map_append]
        exact dtAll_app ((hzs.keep (b2.ktW w1)).keep (kt_lst hz2)) (.cons (DpT.keep (kt_lst hz2) dz) .nil)
      · rcases List.mem_append.mp hx with h | h
        · exact hls x h
        · rw [List.mem_singleton.mp h]
          exact bz
    · rintro σ H1 ⟨y, zs, ls, rfl, b1, w1, hz, hzs, hll, hls⟩
      refine ⟨_, rfl, pf, zs, ls, rfl, .inl (SqL.of hz), hzs, fun x hx => (hls x hx).mono (by decide), by omega, fun H2 p2 ys s2 hp2 hys => ?_⟩
      refine q H2 _ (downQ ls) (b1.trans (Same.but s2)) ((w1.same s2).mono (by omega)) (.tup (SqT.of hp2) hys) ⟨by rw [downQ_len]; omega, downQ_srt ls, fun x hx => (hls x (downQ_mem.mp hx)).mono (by decide)⟩ fun x hx => hls x (downQ_mem.mp hx)
end
end V3
namespace V3
open PySem.Spec PySem L2 PyProof.Rows RZ GxR
theorem cA_take (t : Rat) : ∀ (l : List Rat) (i : Nat), i < l.length → cA t (l.take (i + 1)) = cA t (l.take i) + (if t < gq l i then 1 else 0)
  | [], _, hnil => by simp at hnil
  | x :: r, 0, _ => by
    show (if t < x then 1 else 0) + cA t (r.take 0) = cA t [] + (if t < x then 1 else 0)
    show (if t < x then (1 : Int) else 0) + 0 = 0 + (if t < x then 1 else 0)
    omega
  | x :: r, i + 1, h => by
    have k := cA_take t r i (by simpa using h)
    show (if t < x then 1 else 0) + cA t (r.take (i + 1)) = ((if t < x then 1 else 0) + cA t (r.take i)) + (if t < gq r i then 1 else 0)
    rw [k]
    omega
theorem cB_take (t : Rat) : ∀ (l : List Rat) (i : Nat), i < l.length → cB t (l.take (i + 1)) = cB t (l.take i) + (if gq l i < t then 1 else 0)
  | [], _, hnil => by simp at hnil
  | x :: r, 0, _ => by
    show (if x < t then 1 else 0) + cB t (r.take 0) = cB t [] + (if x < t then 1 else 0)
    show (if x < t then (1 : Int) else 0) + 0 = 0 + (if x < t then 1 else 0)
    omega
  | x :: r, i + 1, h => by
    have k := cB_take t r i (by simpa using h)
    show (if x < t then 1 else 0) + cB t (r.take (i + 1)) = ((if x < t then 1 else 0) + cB t (r.take i)) + (if gq r i < t then 1 else 0)
    rw [k]
    omega
section
variable {mg : Str → Option Value} {base : Heap} {K : PySem.W.Frag} {P : Program} {w : World}
abbrev s__law_around : Stmt := topS 58
abbrev N__law_around : List Str := ["some", "level", "above", "below", "x"]
theorem sc__law_around : FnScope N__law_around ["some", "level"] (defScope s__law_around) := ⟨rfl, rfl, rfl, by decide +kernel, rfl, by decide +kernel, by decide +kernel⟩
def spAround (K : PySem.W.Frag) : Sp := fun vs H Q _ => ∃ (v u : V) (qs : List Rat) (t : Rat), vs = [v, u] ∧ DpT K H v (rowQ qs) ∧ DpT K H u (frd t) ∧ qs.length ≤ 6 ∧ (∀ x ∈ qs, Bq 4000 x) ∧ Bq 4000 t ∧ ∀ H' p, Same H H' → SqT K H' p (triV (slanZ t qs)) → Q (.ref p) H'
theorem ok_around (T : Gs K mg) (D__law_less : Df P w K mg base "_law_less" 1 ["one", "two"] (spR2b K fun x y => decide (x < y))) (F : At K mg "_law_around" s__law_around) : Df P w K mg base "_law_around" 2 ["some", "level"] (spAround K) := by
  have sc := sc__law_around
  refine Df.mk' F sc (fun vs H Q E h => ?_) (fun _ _ _ _ _ _ us hl => match us, hl with | [_, _], _ => rfl) (fun f cdv A outer s H vs Q E hr h => ?_)
  · obtain ⟨v, u, qs, t, rfl, _⟩ := h
    rfl
  · obtain ⟨v, u, qs, t, rfl, dv, du, l6, bq, bt, q⟩ := h
    obtain ⟨p, xs, rfl, hp, hA⟩ := dtTupQ dv
    have lx : xs.length = qs.length := by rw [dtAll_len hA, List.length_map]
    refine ⟨_, (pss_cons (ps_set (i := 2) sc.nd rfl (.inl rfl) (pe_callB call_len_seq (by rfl) T.len PySem.boot_len (pa_cons (pe_lc (own := [("x", 4)]) (g := gName 4) rfl sc.nd (pi_tup (pv 0)) (blkOk_by (own := [("x", 4)]) (N := N__law_around) (sc := defScope s__law_around) (by decide +kernel)) (fun _ _ _ _ _ => (pg_name (i := 4) sc.nd rfl (.inl rfl))) (fun _ _ _ _ _ => (pts_one (pt_val (pe_fn D__law_less (by decide) hr (pa_cons (pv 1) (pa_cons (pv 4) pa_nil)))))) (fun _ _ _ _ _ => (pv 4))) pa_nil))) (pss_cons (ps_set (i := 3) sc.nd rfl (.inl rfl) (pe_callB call_len_seq (by rfl) T.len PySem.boot_len (pa_cons (pe_lc (own := [("x", 4)]) (g := gName 4) rfl sc.nd (pi_tup (pv 0)) (blkOk_by (own := [("x", 4)]) (N := N__law_around) (sc := defScope s__law_around) (by decide +kernel)) (fun _ _ _ _ _ => (pg_name (i := 4) sc.nd rfl (.inl rfl))) (fun _ _ _ _ _ => (pts_one (pt_val (pe_fn D__law_less (by decide) hr (pa_cons (pv 4) (pa_cons (pv 1) pa_nil)))))) (fun _ _ _ _ _ => (pv 4))) pa_nil))) (pss_one (ps_ret (pe_tup (pa_cons (pv 2) (pa_cons (pe_op op_sub (pe_op op_sub (pe_callB call_len_seq (by rfl) T.len PySem.boot_len (pa_cons (pv 0) pa_nil)) (pv 2)) (pv 3)) (pa_cons (pv 3) pa_nil)))))))), ?_⟩
    refine ⟨_, rfl, p, rfl, ⟨_, hp⟩, fun D hD => lc_tup (K := K) (a := p) (xs := xs) (fun i H' => Same H H' ∧ ∃ zs : List V, H' D = some (.lst zs) ∧ (zs.length : Int) = cA t (qs.take i) ∧ zs.length ≤ i) ⟨same_upd hD, [], upd_same, rfl, Nat.le_refl _⟩ (fun i H' _ h => sameT h.1 hp) ?_ ?_⟩
    · rintro i x H' hi ⟨sm, zs, hd, hl, hn⟩
      obtain ⟨x', hx', dx⟩ := fqGetV hA hi
      have il := (List.getElem?_eq_some_iff.mp hx').1
      have ct := cA_take t qs i il
      rw [gq_of hx'] at ct
      refine ⟨rfl, ?_⟩
      refine ⟨_, rfl, _, rfl, _, _, t, x', rfl, fqSame du sm, fqSame dx sm, bt, bq _ (List.mem_of_getElem? hx'), _, rfl, if2 (fun e => ?_) (fun e => ?_)⟩
      · rw [if_pos (of_decide_eq_true e)] at ct
        refine ⟨_, rfl, zs, hd, small1000 (by omega), same_updN sm hD, _, upd_same, ?_, ?_⟩
        · rw [List.length_append, List.length_singleton, ct]
          omega
        · (rw [List.length_append, List.length_singleton])
          omega
      · rw [if_neg (of_decide_eq_false e)] at ct
        exact ⟨sm, zs, hd, by omega, by omega⟩
    · rintro H1 ⟨s1, zs, hd, hl, hn⟩
      rw [lx, List.take_of_length_le (Nat.le_refl _)] at hl
      refine ⟨D, zs, rfl, .inl (SqL.of hd), ?_⟩
      rw [hl]
      have hp1 := sameT s1 hp
      refine ⟨_, rfl, p, rfl, ⟨_, hp1⟩, fun D2 hD2 => lc_tup (K := K) (a := p) (xs := xs) (fun i H' => Same H1 H' ∧ ∃ zs : List V, H' D2 = some (.lst zs) ∧ (zs.length : Int) = cB t (qs.take i) ∧ zs.length ≤ i) ⟨same_upd hD2, [], upd_same, rfl, Nat.le_refl _⟩ (fun i H' _ h => sameT h.1 hp1) ?_ ?_⟩
      · rintro i x H' hi ⟨sm, zs, hd, hl, hn⟩
        obtain ⟨x', hx', dx⟩ := fqGetV hA hi
        have il := (List.getElem?_eq_some_iff.mp hx').1
        have ct := cB_take t qs i il
        rw [gq_of hx'] at ct
        have s0 := s1.trans sm
        refine ⟨rfl, ?_⟩
        refine ⟨_, rfl, _, rfl, _, _, x', t, rfl, fqSame dx s0, fqSame du s0, bq _ (List.mem_of_getElem? hx'), bt, _, rfl, if2 (fun e => ?_) (fun e => ?_)⟩
        · rw [if_pos (of_decide_eq_true e)] at ct
          refine ⟨_, rfl, zs, hd, small1000 (by omega), same_updN sm hD2, _, upd_same, ?_, ?_⟩
          · rw [List.length_append, List.length_singleton, ct]
            omega
          · (rw [List.length_append, List.length_singleton])
            omega
        · rw [if_neg (of_decide_eq_false e)] at ct
          exact ⟨sm, zs, hd, by omega, by omega⟩
      · rintro H3 ⟨s3, zs, hd3, hl3, hn3⟩
        rw [lx, List.take_of_length_le (Nat.le_refl _)] at hl3
        refine ⟨D2, zs, rfl, .inl (SqL.of hd3), ?_⟩
        rw [hl3]
        refine ⟨_, rfl, _, rfl, p, xs, rfl, .inr (sameT s3 hp1), _, rfl, _, _, rfl, rfl, _, rfl, _, _, rfl, rfl, _, rfl, by show 3 ≤ sizeLine; decide, fun l hl' => ?_⟩
        rw [lx]
        exact q _ l (s1.trans (s3.trans (same_upd hl'))) (SqT.of upd_same)
end
end V3
namespace V3
open PySem.Spec PySem L2 PyProof.Rows RZ GxR
section
variable {mg : Str → Option Value} {base : Heap} {K : PySem.W.Frag} {P : Program} {w : World}
abbrev s__law_grown : Stmt := topS 59
abbrev N__law_grown : List Str := ["poly", "level", "found", "at"]
theorem sc__law_grown : FnScope N__law_grown ["poly", "level"] (defScope s__law_grown) := ⟨rfl, rfl, rfl, by decide +kernel, rfl, by decide +kernel, by decide +kernel⟩
def spGrown (K : PySem.W.Frag) : Sp := fun vs H Q _ => ∃ (p : Addr) (v : V) (xs : List V) (ps : List Rat) (x : Rat) (B a : Nat), vs = [.ref p, v] ∧ H p = some (.lst xs) ∧ DpTAll K H xs (ps.map frd) ∧ DpT K H v (frd x) ∧ Pol B ps ∧ Bq a x ∧ 0 < B ∧ 0 < a ∧ 2 * B + a ≤ 8900 ∧ ps.length ≤ 7 ∧
  ∀ H' l ys, Same H H' → H' l = some (.lst ys) → DpTAll K H' ys ((grP ps x).map frd) → Q (.ref l) H'
theorem ok_grown (T : Gs K mg) (D__law_sub : Df P w K mg base "_law_sub" 2 ["one", "two"] (spR2w K (· - ·))) (D__law_mul : Df P w K mg base "_law_mul" 2 ["one", "two"] (spR2w K (· * ·))) (F : At K mg "_law_grown" s__law_grown) : Df P w K mg base "_law_grown" 3 ["poly", "level"] (spGrown K) := by
  have sc := sc__law_grown
  refine Df.mk' F sc (fun vs H Q E h => ?_) (fun _ _ _ _ _ _ us hl => match us, hl with | [_, _], _ => rfl) (fun f cdv A outer s H vs Q E hr h => ?_)
  · obtain ⟨p, v, xs, ps, x, B, a, rfl, _⟩ := h
    rfl
  · obtain ⟨p, v, xs, ps, x, B, a, rfl, hp, hA, dv, pB, bx, B0, a0, sz, l7, q⟩ := h
    have lx : xs.length = ps.length := by rw [dtAll_len hA, List.length_map]
    refine ⟨_, (pss_cons (ps_set (i := 2) sc.nd rfl (.inl rfl) (pe_op op_cat (pe_lst (pa_cons (pe_tup (pa_cons pe_int (pa_cons pe_int pa_nil))) pa_nil)) (pe_callTy call_list_of (by rfl) T.list_ (by decide +kernel) (pa_cons (pv 0) pa_nil)))) (pss_cons (ps_for PassesOwn.never rfl (pi_range1 rfl T.range (pa_cons (pe_callB call_len_seq (by rfl) T.len PySem.boot_len (pa_cons (pv 0) pa_nil)) pa_nil)) (pg_name (i := 3) sc.nd rfl (.inl rfl)) (pss_one (ps_asg (pe_fn D__law_sub (by decide) hr (pa_cons (pe_ix ix_list (pv 2) (pv 3) (fun _ _ => rfl)) (pa_cons (pe_fn D__law_mul (by decide) hr (pa_cons (pv 1) (pa_cons (pe_ix ix_list (pv 0) (pv 3) (fun _ _ => rfl)) pa_nil))) pa_nil))) (pg_sub (pv 2) (pv 3) set_list)))) (pss_one (ps_ret (pv 2))))), ?_⟩
    refine ⟨by show 2 ≤ sizeLine; decide, fun p1 h1 => ?_⟩
    obtain ⟨G1, e1, s1, a1⟩ := mkP (o := .tup [.int 0, .int 1]) h1
    rw [e1]
    refine ⟨by show 1 ≤ sizeLine; decide, fun p2 h2 => ?_⟩
    obtain ⟨G2, e2, s2, a2⟩ := mkP (o := .lst [.ref p1]) h2
    rw [e2]
    refine ⟨_, rfl, p, xs, rfl, .inl (SqL.of (s2 _ _ (s1 _ _ hp))), fun p3 h3 => ?_⟩
    obtain ⟨G3, e3, s3, a3⟩ := mkP (o := .lst xs) h3
    rw [e3]
    refine ⟨p2, p3, [.ref p1], xs, rfl, rfl, s3 _ _ a2, a3, Nat.le_of_lt (small1000 (show [V.ref p1].length + xs.length ≤ 1000 by rw [List.length_singleton]; omega)), fun pf h4 => ?_⟩
    obtain ⟨G4, e4, s4, a4⟩ := mkP (o := .lst ([.ref p1] ++ xs)) h4
    rw [e4]
    have s14 := s1.trans (s2.trans (s3.trans s4))
    have pfn : H pf = none := by
      cases e : H pf with
      | none => rfl
      | some o =>
        rw [s3 _ _ (s2 _ _ (s1 _ _ e))] at h4
        cases h4
    have dz0 : DpT K G4 (.ref p1) (frd 0) := .tup (SqT.of ((s2.trans (s3.trans s4)) _ _ a1)) (.cons (.int _) (.cons (.int _) .nil))
    have bz : ∀ c ∈ (0 :: ps), Bq B c := fun c hc => by
      rcases List.mem_cons.mp hc with k | k
      · rw [k]
        exact ⟨Nat.two_pow_pos _, Nat.one_lt_two_pow (by omega)⟩
      · exact pB.bq c k
    refine ⟨_, rfl, p, xs, rfl, .inl (SqL.of (s14 _ _ hp)), _, rfl, by omega, by omega, for_range (lo := 0) (n := _) (fun i σ H' => ∃ (y : Option V) (zs : List V), σ = [some (.ref p), some v, some (.ref pf), y] ∧ Same H H' ∧ H' pf = some (.lst zs) ∧ DpTAll K H' zs ((mixS (0 :: ps) (ps.map (x * ·)) i).map frd))
      ⟨_, _, rfl, s14, a4, .cons dz0 (hA.keep (Same.kt s14))⟩ ?_ ?_⟩
    · rintro i σ H1 hi ⟨y, zs, rfl, sm, hz, hzs⟩
      have hi2 : i < ps.length := by omega
      have lm : (mixS (0 :: ps) (ps.map (x * ·)) i).length = ps.length + 1 := mix_len (by rw [List.length_cons]; omega)
      obtain ⟨v1, hv1, d1⟩ := gqDt (i := i) hzs (by omega)
      rw [mix_get (by rw [List.length_cons]; omega)] at d1
      obtain ⟨v2, hv2, d2⟩ := gqDt (i := i) (hA.keep (Same.kt sm)) hi2
      have lz : zs.length = ps.length + 1 := by rw [dtAll_len hzs, List.length_map, lm]
      have b1 := bz _ (gq_mem (show i < (0 :: ps).length by rw [List.length_cons]; omega))
      have b2 := pB.bq _ (gq_mem hi2)
      refine ⟨_, rfl, _, rfl, pf, zs, _, _, rfl, rfl, SqL.of hz, at_of (j := i) (by omega) hv1, ?_⟩
      refine ⟨_, rfl, _, rfl, _, rfl, p, xs, _, _, rfl, rfl, SqL.of (sm _ _ hp), at_of (j := i) (by omega) hv2, ?_⟩
      refine ⟨_, _, x, gq ps i, a, B, rfl, DpT.keep (Same.kt sm) dv, d2, bx, b2, a0, B0, by omega, fun H2 m2 t2 e2 => ?_⟩
      refine ⟨_, _, gq (0 :: ps) i, x * gq ps i, B, a + B, rfl, DpT.keep (Same.kt t2) d1, fqO e2, b1, bx.mul b2 (Nat.le_refl _), B0, by omega, by omega, fun H3 m3 t3 e3 => ?_⟩
      have t23 := t2.trans t3
      have hz3 := t23 _ _ hz
      refine ⟨_, rfl, _, rfl, pf, zs, _, i, rfl, rfl, hz3, ixNat (i := i) (by omega) (by omega), ?_⟩
      refine ⟨_, zs.set i (.ref m3), rfl, same_updN (sm.trans t23) pfn, upd_same, ?_⟩
      have ms := mix_set (p := 0 :: ps) (q := ps.map (x * ·)) (i := i) (by rw [List.length_cons]; omega) (by rw [List.length_map]; exact hi2)
      have gm : gq (ps.map (x * ·)) i = x * gq ps i := by
        refine gq_of ?_
        rw [List.getElem?_map, gq_get hi2]
        rfl
      rw [gm] at ms
      rw [← ms, List.map_set]
      exact dtAll_set _ ((hzs.keep (Same.kt t23)).keep (kt_lst hz3)) (DpT.keep (kt_lst hz3) (fqO e3))
    · rintro σ H1 ⟨y, zs, rfl, sm, hz, hzs⟩
      have en : ((xs.length : Int)).toNat = (ps.map (x * ·)).length := by rw [List.length_map]; omega
      rw [en, mix_end (by rw [List.length_map, List.length_cons]; omega)] at hzs
      exact ⟨_, rfl, q H1 pf zs sm hz hzs⟩
abbrev s__law_poly_less : Stmt := topS 61
abbrev N__law_poly_less : List Str := ["one", "by", "two", "found", "at"]
theorem sc__law_poly_less : FnScope N__law_poly_less ["one", "by", "two"] (defScope s__law_poly_less) := ⟨rfl, rfl, rfl, by decide +kernel, rfl, by decide +kernel, by decide +kernel⟩
def spPLess (K : PySem.W.Frag) : Sp := fun vs H Q _ => ∃ (p1 p2 : Addr) (v : V) (xs ys : List V) (ps qs : List Rat) (x : Rat) (B C a : Nat), vs = [.ref p1, v, .ref p2] ∧ H p1 = some (.lst xs) ∧ H p2 = some (.lst ys) ∧ DpTAll K H xs (ps.map frd) ∧ DpTAll K H ys (qs.map frd) ∧ DpT K H v (frd x) ∧ Pol B ps ∧ Pol C qs ∧ Bq a x ∧ 0 < B ∧ 0 < a ∧ B + C + a ≤ 8900 ∧ qs.length ≤ ps.length ∧ ps.length ≤ 7 ∧
  ∀ H' l ys, Same H H' → H' l = some (.lst ys) → DpTAll K H' ys ((lessP ps x qs).map frd) → Q (.ref l) H'
theorem ok_pless (T : Gs K mg) (D__law_sub : Df P w K mg base "_law_sub" 2 ["one", "two"] (spR2w K (· - ·))) (D__law_mul : Df P w K mg base "_law_mul" 2 ["one", "two"] (spR2w K (· * ·))) (F : At K mg "_law_poly_less" s__law_poly_less) : Df P w K mg base "_law_poly_less" 3 ["one", "by", "two"] (spPLess K) := by
  have sc := sc__law_poly_less
  refine Df.mk' F sc (fun vs H Q E h => ?_) (fun _ _ _ _ _ _ us hl => match us, hl with | [_, _, _], _ => rfl) (fun f cdv A outer s H vs Q E hr h => ?_)
  · obtain ⟨p1, p2, v, xs, ys, ps, qs, x, B, C, a, rfl, _⟩ := h
    rfl
  · obtain ⟨p1, p2, v, xs, ys, ps, qs, x, B, C, a, rfl, hp1, hp2, hA, hB, dv, pB, pC, bx, B0, a0, sz, lq, l7, q⟩ := h
    have lx : xs.length = ps.length := by rw [dtAll_len hA, List.length_map]
    have ly : ys.length = qs.length := by rw [dtAll_len hB, List.length_map]
    refine ⟨_, (pss_cons (ps_set (i := 3) sc.nd rfl (.inl rfl) (pe_callTy call_list_of (by rfl) T.list_ (by decide +kernel) (pa_cons (pv 0) pa_nil))) (pss_cons (ps_for PassesOwn.never rfl (pi_range1 rfl T.range (pa_cons (pe_callB call_len_seq (by rfl) T.len PySem.boot_len (pa_cons (pv 2) pa_nil)) pa_nil)) (pg_name (i := 4) sc.nd rfl (.inl rfl)) (pss_one (ps_asg (pe_fn D__law_sub (by decide) hr (pa_cons (pe_ix ix_list (pv 3) (pv 4) (fun _ _ => rfl)) (pa_cons (pe_fn D__law_mul (by decide) hr (pa_cons (pv 1) (pa_cons (pe_ix ix_list (pv 2) (pv 4) (fun _ _ => rfl)) pa_nil))) pa_nil))) (pg_sub (pv 3) (pv 4) set_list)))) (pss_one (ps_ret (pv 3))))), ?_⟩
    refine ⟨_, rfl, p1, xs, rfl, .inl (SqL.of hp1), fun pf h4 => ?_⟩
    obtain ⟨G4, e4, s4, a4⟩ := mkP (o := .lst xs) h4
    rw [e4]
    refine ⟨_, rfl, p2, ys, rfl, .inl (SqL.of (s4 _ _ hp2)), _, rfl, by omega, by omega, for_range (lo := 0) (n := _) (fun i σ H' => ∃ (y : Option V) (zs : List V), σ = [some (.ref p1), some v, some (.ref p2), some (.ref pf), y] ∧ Same H H' ∧ H' pf = some (.lst zs) ∧ DpTAll K H' zs ((mixS ps (qs.map (x * ·)) i).map frd))
      ⟨_, _, rfl, s4, a4, hA.keep (Same.kt s4)⟩ ?_ ?_⟩
    · rintro i σ H1 hi ⟨y, zs, rfl, sm, hz, hzs⟩
      have hi2 : i < qs.length := by omega
      have lm : (mixS ps (qs.map (x * ·)) i).length = ps.length := mix_len (by omega)
      obtain ⟨v1, hv1, d1⟩ := gqDt (i := i) hzs (by omega)
      rw [mix_get (by omega)] at d1
      obtain ⟨v2, hv2, d2⟩ := gqDt (i := i) (hB.keep (Same.kt sm)) hi2
      have lz : zs.length = ps.length := by rw [dtAll_len hzs, List.length_map, lm]
      have b1 := pB.bq _ (gq_mem (show i < ps.length by omega))
      have b2 := (pC.bq _ (gq_mem hi2)).mono (Nat.le_succ C)
      refine ⟨_, rfl, _, rfl, pf, zs, _, _, rfl, rfl, SqL.of hz, at_of (j := i) (by omega) hv1, ?_⟩
      refine ⟨_, rfl, _, rfl, _, rfl, p2, ys, _, _, rfl, rfl, SqL.of (sm _ _ hp2), at_of (j := i) (by omega) hv2, ?_⟩
      refine ⟨_, _, x, gq qs i, a, C + 1, rfl, DpT.keep (Same.kt sm) dv, d2, bx, b2, a0, by omega, by omega, fun H2 m2 t2 e2 => ?_⟩
      refine ⟨_, _, gq ps i, x * gq qs i, B, a + C, rfl, DpT.keep (Same.kt t2) d1, fqO e2, b1, bx.mul (pC.bq _ (gq_mem hi2)) (Nat.le_refl _), B0, by omega, by omega, fun H3 m3 t3 e3 => ?_⟩
      have t23 := t2.trans t3
      have hz3 := t23 _ _ hz
      refine ⟨_, rfl, _, rfl, pf, zs, _, i, rfl, rfl, hz3, ixNat (i := i) (by omega) (by omega), ?_⟩
      refine ⟨_, zs.set i (.ref m3), rfl, same_updN (sm.trans t23) h4, upd_same, ?_⟩
      have ms := mix_set (p := ps) (q := qs.map (x * ·)) (i := i) (by omega) (by rw [List.length_map]; exact hi2)
      have gm : gq (qs.map (x * ·)) i = x * gq qs i := by
        refine gq_of ?_
        rw [List.getElem?_map, gq_get hi2]
        rfl
      rw [gm] at ms
      rw [← ms, List.map_set]
      exact dtAll_set _ ((hzs.keep (Same.kt t23)).keep (kt_lst hz3)) (DpT.keep (kt_lst hz3) (fqO e3))
    · rintro σ H1 ⟨y, zs, rfl, sm, hz, hzs⟩
      have en : ((ys.length : Int)).toNat = (qs.map (x * ·)).length := by rw [List.length_map]; omega
      rw [en, mix_end (by rw [List.length_map]; omega)] at hzs
      exact ⟨_, rfl, q H1 pf zs sm hz hzs⟩
abbrev s__law_of_zeros : Stmt := topS 60
abbrev N__law_of_zeros : List Str := ["some", "found", "each"]
theorem sc__law_of_zeros : FnScope N__law_of_zeros ["some"] (defScope s__law_of_zeros) := ⟨rfl, rfl, rfl, by decide +kernel, rfl, by decide +kernel, by decide +kernel⟩
def spOfZ (K : PySem.W.Frag) : Sp := fun vs H Q _ => ∃ (v : V) (zs : List Rat) (a : Nat), vs = [v] ∧ DpT K H v (rowQ zs) ∧ (∀ z ∈ zs, Bq a z) ∧ 0 < a ∧ a ≤ 700 ∧ zs.length ≤ 6 ∧
  ∀ H' l ys, Same H H' → H' l = some (.lst ys) → DpTAll K H' ys ((ofZ zs).map frd) → Q (.ref l) H'
theorem ok_ofz (T : Gs K mg) (D__law_grown : Df P w K mg base "_law_grown" 3 ["poly", "level"] (spGrown K)) (F : At K mg "_law_of_zeros" s__law_of_zeros) : Df P w K mg base "_law_of_zeros" 4 ["some"] (spOfZ K) := by
  have sc := sc__law_of_zeros
  refine Df.mk' F sc (fun vs H Q E h => ?_) (fun _ _ _ _ _ _ us hl => match us, hl with | [_], _ => rfl) (fun f cdv A outer s H vs Q E hr h => ?_)
  · obtain ⟨v, zs, a, rfl, _⟩ := h
    rfl
  · obtain ⟨v, zs, a, rfl, dv, bz, a0, a1, l6, q⟩ := h
    obtain ⟨p, xs, rfl, hp, hA⟩ := dtTupQ dv
    have lx : xs.length = zs.length := by rw [dtAll_len hA, List.length_map]
    refine ⟨_, (pss_cons (ps_set (i := 1) sc.nd rfl (.inl rfl) (pe_lst (pa_cons (pe_tup (pa_cons pe_int (pa_cons pe_int pa_nil))) pa_nil))) (pss_cons (ps_for PassesOwn.never rfl (pi_tup (pv 0)) (pg_name (i := 2) sc.nd rfl (.inl rfl)) (pss_one (ps_set (i := 1) sc.nd rfl (.inl rfl) (pe_fn D__law_grown (by decide) hr (pa_cons (pv 1) (pa_cons (pv 2) pa_nil)))))) (pss_one (ps_ret (pv 1))))), ?_⟩
    refine ⟨by show 2 ≤ sizeLine; decide, fun p1 h1 => ?_⟩
    obtain ⟨G1, e1, s1, q1⟩ := mkP (o := .tup [.int 1, .int 1]) h1
    rw [e1]
    refine ⟨by show 1 ≤ sizeLine; decide, fun p2 h2 => ?_⟩
    obtain ⟨G2, e2, s2, q2⟩ := mkP (o := .lst [.ref p1]) h2
    rw [e2]
    have s12 := s1.trans s2
    have dz1 : DpT K G2 (.ref p1) (frd 1) := .tup (SqT.of (s2 _ _ q1)) (.cons (.int _) (.cons (.int _) .nil))
    refine ⟨_, rfl, p, rfl, ⟨_, sameT s12 hp⟩, for_tup (K := K) (a := p) (xs := xs) (fun i σ H' => ∃ (l : Addr) (y : Option V) (ys : List V), σ = [some (.ref p), some (.ref l), y] ∧ Same H H' ∧ H' l = some (.lst ys) ∧ DpTAll K H' ys ((ofZ (zs.take i)).map frd))
      ⟨p2, _, _, rfl, s12, q2, .cons dz1 .nil⟩ (fun i σ H' _ ⟨_, _, _, _, sm', _⟩ => sameT sm' hp) ?_ ?_⟩
    · rintro i x σ H' hi ⟨l, y, ys, rfl, sm, hl, dl⟩
      obtain ⟨x', hx', dx⟩ := fqGetV hA hi
      have il := (List.getElem?_eq_some_iff.mp hx').1
      have bx := bz _ (List.mem_of_getElem? hx')
      have pl := pol_Z (a := a) (zs := zs.take i) fun z hz => bz z (List.mem_of_mem_take hz)
      have ll : (zs.take i).length = i := by rw [List.length_take]; omega
      rw [ll] at pl
      have im : i * (a + 1) ≤ 5 * (a + 1) := Nat.mul_le_mul_right _ (by omega)
      refine ⟨_, rfl, _, rfl, l, _, ys, ofZ (zs.take i), x', 1 + i * (a + 1), a, rfl, hl, dl, fqSame dx sm, pl, bx, by omega, a0, by omega, by rw [ofZ_len, ll]; omega, fun H3 l3 ys3 s3 h3 d3 => ?_⟩
      refine ⟨l3, _, ys3, rfl, sm.trans s3, h3, ?_⟩
      have e : ofZ (zs.take (i + 1)) = grP (ofZ (zs.take i)) x' := by
        unfold ofZ
        rw [List.take_succ, hx', List.foldl_append]
        rfl
      rw [e]
      exact d3
    · rintro σ H' ⟨l, y, ys, rfl, sm, hl, dl⟩
      rw [lx, List.take_of_length_le (Nat.le_refl _)] at dl
      exact ⟨_, rfl, q H' l ys sm hl dl⟩
end
end V3
namespace V3
open PySem.Spec PySem L2 PyProof.Rows RZ GxR
theorem eqv_list (qs : List Rat) : PyData.eqv (.list (qs.map frd)) (.list (qs.map frd)) = true := by
  have h : ∀ qs : List Rat, PyData.eqvAll (qs.map frd) (qs.map frd) = true := fun qs => by
    induction qs with
    | nil => rfl
    | cons a r ih =>
      have e := eqv_frd a a
      rw [decide_eq_true rfl] at e
      show (PyData.eqv (frd a) (frd a) && PyData.eqvAll (r.map frd) (r.map frd)) = true
      rw [e, ih]
      rfl
  exact h qs
section
variable {mg : Str → Option Value} {base : Heap} {K : PySem.W.Frag} {P : Program} {w : World}
abbrev s__law_bent_poly : Stmt := topS 62
abbrev N__law_bent_poly : List Str := ["slant", "beside", "end", "by", "found", "at"]
theorem sc__law_bent_poly : FnScope N__law_bent_poly ["slant", "beside", "end", "by"] (defScope s__law_bent_poly) := ⟨rfl, rfl, rfl, by decide +kernel, rfl, by decide +kernel, by decide +kernel⟩
def spBent (K : PySem.W.Frag) : Sp := fun vs H Q _ => ∃ (v u o t : V) (qs rs : List Rat) (e : Rat) (a s g : Nat), vs = [v, u, o, t] ∧ DpT K H v (rowQ qs) ∧ DpT K H u (rowQ rs) ∧ DpT K H o (frd e) ∧ DpT K H t (frd 1) ∧ qs.length = rs.length ∧ qs.length ≤ 5 ∧ (∀ x ∈ qs, Bq a x) ∧ (∀ x ∈ rs, Bq s x) ∧ Bq g e ∧ a ≤ g ∧ 0 < a ∧ g ≤ 700 ∧ 0 < s ∧ 1 + 6 * (g + 1) + 5 * (2 + 4 * (a + 1) + s) ≤ 8900 ∧
  ∀ H' l ys, Same H H' → H' l = some (.lst ys) → DpTAll K H' ys ((bentGo [] qs rs (ofZ (qs ++ [e]))).map frd) → Q (.ref l) H'
theorem ok_bent (T : Gs K mg) (D__law_of_zeros : Df P w K mg base "_law_of_zeros" 4 ["some"] (spOfZ K)) (D__law_mul : Df P w K mg base "_law_mul" 2 ["one", "two"] (spR2w K (· * ·))) (D__law_poly_less : Df P w K mg base "_law_poly_less" 3 ["one", "by", "two"] (spPLess K)) (F : At K mg "_law_bent_poly" s__law_bent_poly) : Df P w K mg base "_law_bent_poly" 5 ["slant", "beside", "end", "by"] (spBent K) := by
  have sc := sc__law_bent_poly
  refine Df.mk' F sc (fun vs H Q E h => ?_) (fun _ _ _ _ _ _ us hl => match us, hl with | [_, _, _, _], _ => rfl) (fun f cdv A outer s H vs Q E hr h => ?_)
  · obtain ⟨v, u, o, t, qs, rs, e, a, s, g, rfl, _⟩ := h
    rfl
  · obtain ⟨v, u, o, t, qs, rs, e, a, b, g, rfl, dv, du, dz, dt, le, l6, bq, br, bg, ag, a0, g7, b0, sz, q⟩ := h
    obtain ⟨p, xs, rfl, hp, hA⟩ := dtTupQ dv
    obtain ⟨p2, ys, rfl, hp2, hB⟩ := dtTupQ du
    have lx : xs.length = qs.length := by rw [dtAll_len hA, List.length_map]
    have ly : ys.length = rs.length := by rw [dtAll_len hB, List.length_map]
    refine ⟨_, (pss_cons (ps_set (i := 4) sc.nd rfl (.inl rfl) (pe_fn D__law_of_zeros (by decide) hr (pa_cons (pe_ifExp (pt_cmpR op_isN (pv 2) pe_non (nomark _)) (pv 0) (pe_op op_catQ (pv 0) (pe_tup (pa_cons (pv 2) pa_nil)))) pa_nil))) (pss_cons (ps_for PassesOwn.never rfl (pi_range1 rfl T.range (pa_cons (pe_callB call_len_seq (by rfl) T.len PySem.boot_len (pa_cons (pv 0) pa_nil)) pa_nil)) (pg_name (i := 5) sc.nd rfl (.inl rfl)) (pss_one (ps_if (pt_cmpR op_ne (pe_ix ix_tup (pe_ix ix_tup (pv 1) (pv 5) (fun _ _ => rfl)) pe_int (fun _ _ => rfl)) pe_int (nomark _)) (pss_one (ps_set (i := 4) sc.nd rfl (.inl rfl) (pe_fn D__law_poly_less (by decide) hr (pa_cons (pv 4) (pa_cons (pe_fn D__law_mul (by decide) hr (pa_cons (pv 3) (pa_cons (pe_ix ix_tup (pv 1) (pv 5) (fun _ _ => rfl)) pa_nil))) (pa_cons (pe_fn D__law_of_zeros (by decide) hr (pa_cons (pe_op op_catQ (pe_slice sl_Q (pv 0) po_none (po_some (pv 5))) (pe_slice sl_Q (pv 0) (po_some (pe_op op_add (pv 5) pe_int)) po_none)) pa_nil)) pa_nil)))))) pss_nil))) (pss_one (ps_ret (pv 4))))), ?_⟩
    obtain ⟨po, rfl, hpo⟩ := fqT dz
    refine ⟨_, rfl, rfl, _, rfl, ifF rfl ?_⟩
    refine ⟨_, rfl, _, rfl, by show 1 ≤ sizeLine; decide, fun pt hpt => ?_⟩
    obtain ⟨G1, e1, s0, a01⟩ := mkP (o := .tup [.ref po]) hpt
    rw [e1]
    have dE : DpT K G1 (.ref pt) (rowQ [e]) := .tup (SqT.of a01) (.cons (DpT.keep (Same.kt s0) dz) .nil)
    refine ⟨qs.map frd, [e].map frd, DpT.keep (Same.kt s0) dv, dE, by rw [List.length_map, List.length_map, List.length_singleton]; omega, fun G2 vc sc2 dc => ?_⟩
    rw [← List.map_append] at dc
    have bqe : ∀ x ∈ qs ++ [e], Bq g x := fun x hx => by
      rcases List.mem_append.mp hx with h | h
      · exact (bq x h).mono ag
      · rw [List.mem_singleton.mp h]
        exact bg
    have lqe : (qs ++ [e]).length = qs.length + 1 := by rw [List.length_append, List.length_singleton]
    refine ⟨vc, qs ++ [e], g, rfl, dc, bqe, by omega, g7, by omega, fun H1 l1 ys1 s1' h1 d1 => ?_⟩
    have s1 := s0.trans (sc2.trans s1')
    have pz := pol_Z (a := g) (zs := qs ++ [e]) bqe
    have im0 : (qs ++ [e]).length * (g + 1) ≤ 6 * (g + 1) := Nat.mul_le_mul_right _ (by omega)
    refine ⟨_, rfl, p, xs, rfl, .inr (sameT s1 hp), _, rfl, by omega, by omega, for_range (lo := 0) (n := _) (fun i σ H' => ∃ (l : Addr) (y : Option V) (zs : List V) (fs : List Rat), σ = [some (.ref p), some (.ref p2), some (.ref po), some t, some (.ref l), y] ∧ Same H H' ∧ H' l = some (.lst zs) ∧ DpTAll K H' zs (fs.map frd) ∧
      fs.length = qs.length + 2 ∧ Pol (1 + 6 * (g + 1) + i * (2 + 4 * (a + 1) + b)) fs ∧ bentGo [] qs rs (ofZ (qs ++ [e])) = bentGo (qs.take i) (qs.drop i) (rs.drop i) fs)
      ⟨l1, _, ys1, ofZ (qs ++ [e]), rfl, s1, h1, d1, by rw [ofZ_len, lqe], pz.mono (by omega), rfl⟩ ?_ ?_⟩
    · rintro i σ H2 hi ⟨l, y, zs, fs, rfl, sm, hz, hzs, fl, pf, eb⟩
      have hi2 : i < qs.length := by omega
      have hi3 : i < rs.length := by omega
      obtain ⟨v2, hv2, d2⟩ := gqDt (i := i) (hB.keep (Same.kt sm)) hi3
      have hp2' := sameT sm hp2
      have dq : qs.drop i = gq qs i :: qs.drop (i + 1) := by
        rw [List.drop_eq_getElem_cons hi2]
        congr 1
        exact (gq_of (List.getElem?_eq_getElem hi2)).symm
      have dr : rs.drop i = gq rs i :: rs.drop (i + 1) := by
        rw [List.drop_eq_getElem_cons hi3]
        congr 1
        exact (gq_of (List.getElem?_eq_getElem hi3)).symm
      have tq : qs.take i ++ [gq qs i] = qs.take (i + 1) := by
        rw [List.take_succ, gq_get hi2]
        rfl
      have st : bentGo (qs.take i) (qs.drop i) (rs.drop i) fs = bentGo (qs.take (i + 1)) (qs.drop (i + 1)) (rs.drop (i + 1)) (if gq rs i ≠ 0 then lessP fs (gq rs i) (ofZ (qs.take i ++ qs.drop (i + 1))) else fs) := by
        rw [dq, dr, ← tq]
        rfl
      rw [st] at eb
      have bc := br _ (gq_mem hi3)
      have im : i * (2 + 4 * (a + 1) + b) ≤ 4 * (2 + 4 * (a + 1) + b) := Nat.mul_le_mul_right _ (by omega)
      have em : (i + 1) * (2 + 4 * (a + 1) + b) = i * (2 + 4 * (a + 1) + b) + (2 + 4 * (a + 1) + b) := Nat.succ_mul _ _
      obtain ⟨pc, rfl, hpc⟩ := fqT d2
      refine ⟨_, rfl, _, rfl, _, _, _, _, rfl, rfl, hp2', at_of (j := i) (by omega) hv2, _, _, _, _, rfl, rfl, hpc, at20, ?_⟩
      refine ⟨rfl, _, rfl, if2 (fun e => ?_) (fun e => ?_)⟩
      · have c0 : gq rs i ≠ 0 := fun z => by
          rw [z] at e
          simp at e
        rw [if_pos c0] at eb
        refine ⟨_, rfl, _, rfl, _, rfl, _, rfl, _, _, _, _, rfl, rfl, hp2', at_of (j := i) (by omega) hv2, ?_⟩
        refine ⟨t, .ref pc, 1, gq rs i, 1, b, rfl, DpT.keep (Same.kt sm) dt, d2, ⟨by decide, by decide⟩, bc, by decide, b0, by omega, fun H3 m3 s3 h3 => ?_⟩
        have e1 : (1 : Rat) * gq rs i = gq rs i := Rat.one_mul _
        have d3 : DpT K H3 (.ref m3) (frd (gq rs i)) := by
          have : DpT K H3 (.ref m3) (frd ((1 : Rat) * gq rs i)) := fqO (K := K) h3
          rw [e1] at this
          exact this
        have s03 := sm.trans s3
        have dvq : DpT K H3 (.ref p) (rowQ qs) := DpT.keep (Same.kt s03) dv
        refine ⟨_, rfl, _, rfl, (0 : Int) + (i : Int), rfl, qs.map frd, dvq, fun H5 v5 s5 d5 => ?_⟩
        rw [Int.zero_add, cutP_to, ← List.map_take] at d5
        refine ⟨_, rfl, _, rfl, _, _, rfl, rfl, (0 : Int) + (i : Int) + 1, rfl, qs.map frd, DpT.keep (Same.kt s5) dvq, fun H8 v8 s8 d8 => ?_⟩
        rw [Int.zero_add, cutP_from, ← List.map_drop] at d8
        refine ⟨_, _, DpT.keep (Same.kt s8) d5, d8, by rw [List.length_map, List.length_map, List.length_take, List.length_drop]; omega, fun H9 v9 s9 d9 => ?_⟩
        rw [← List.map_append] at d9
        have lr : (qs.take i ++ qs.drop (i + 1)).length + 1 = qs.length := by
          rw [List.length_append, List.length_take, List.length_drop]
          omega
        have bw : ∀ z ∈ qs.take i ++ qs.drop (i + 1), Bq a z := fun z hz => by
          rcases List.mem_append.mp hz with h | h
          · exact bq z (List.mem_of_mem_take h)
          · exact bq z (List.mem_of_mem_drop h)
        have pw1 := (pol_Z (a := a) bw).mono (show _ ≤ 1 + 4 * (a + 1) from by
          have : (qs.take i ++ qs.drop (i + 1)).length * (a + 1) ≤ 4 * (a + 1) := Nat.mul_le_mul_right _ (by omega)
          omega)
        refine ⟨v9, _, a, rfl, d9, bw, a0, by omega, by omega, fun H10 l10 ys10 s10 h10 d10 => ?_⟩
        have s58 := s5.trans (s8.trans (s9.trans s10))
        have s0 := s03.trans s58
        refine ⟨l, l10, .ref m3, zs, ys10, fs, _, gq rs i, _, 1 + 4 * (a + 1), b, rfl, (s3.trans s58) _ _ hz, h10, hzs.keep (Same.kt (s3.trans s58)), d10, DpT.keep (Same.kt s58) d3, pf, pw1, bc, by omega, b0, by omega, by rw [ofZ_len]; omega, by omega, fun H11 l11 ys11 s11 h11 d11 => ?_⟩
        exact ⟨l11, _, ys11, _, rfl, s0.trans s11, h11, d11, by rw [less_len]; exact fl, (pol_less pf pw1 bc).mono (by omega), eb⟩
      · have c0 : ¬ (gq rs i ≠ 0) := fun z => z (by simpa using e)
        rw [if_neg c0] at eb
        exact ⟨l, _, zs, fs, rfl, sm, hz, hzs, fl, pf.mono (by omega), eb⟩
    · rintro σ H2 ⟨l, y, zs, fs, rfl, sm, hz, hzs, fl, pf, eb⟩
      have en : ((xs.length : Int)).toNat = qs.length := by omega
      rw [en, List.drop_of_length_le (Nat.le_refl _)] at eb
      rw [eb] at q
      exact ⟨_, rfl, q H2 l zs sm hz hzs⟩
end
end V3
namespace V3
open PySem.Spec PySem L2 PyProof.Rows RZ GxR
theorem dtTwo {K : PySem.W.Frag} {H : Hp} {us : List V} {d1 d2 : PyData} (h : DpTAll K H us [d1, d2]) : ∃ v1 v2, us = [v1, v2] ∧ DpT K H v1 d1 ∧ DpT K H v2 d2 := by
  cases h with
  | cons a h2 =>
    cases h2 with
    | cons b h3 =>
      cases h3
      exact ⟨_, _, rfl, a, b⟩
section
variable {mg : Str → Option Value} {base : Heap} {K : PySem.W.Frag} {P : Program} {w : World}
abbrev s__law_is_arrow : Stmt := topS 76
abbrev N__law_is_arrow : List Str := ["told", "tops", "lows"]
theorem sc__law_is_arrow : FnScope N__law_is_arrow ["told", "tops", "lows"] (defScope s__law_is_arrow) := ⟨rfl, rfl, rfl, by decide +kernel, rfl, by decide +kernel, by decide +kernel⟩
abbrev szA (a b : Nat) : Nat := 5 * (a + b + 1) + 1 + ((5 - 1) * (b + b + 1) + 1) + (b + a + 1)
def spIsArrow (K : PySem.W.Frag) : Sp := fun vs H Q _ => ∃ (u v w : V) (tops lows : List Rat) (z : Rat) (a b g : Nat), vs = [u, v, w] ∧ DpT K H u (.tuple [rowQ (arC tops lows z), frd (sR (tops ++ [z]) - sR lows)]) ∧ DpT K H v (rowQ (tops ++ [z])) ∧ DpT K H w (rowQ lows) ∧ Rsd tops lows none ∧ (∀ x ∈ lows, z ≤ x) ∧ lows.length ≤ 5 ∧ (∀ x ∈ tops, Bq a x) ∧ Bq a z ∧ (∀ x ∈ lows, Bq b x) ∧ Bq g (sR (tops ++ [z]) - sR lows) ∧
  0 < a ∧ a ≤ 100 ∧ 0 < b ∧ b ≤ g ∧ g ≤ 700 ∧ szA a b ≤ 4000 ∧ 1 + 6 * (g + 1) + 5 * (2 + 4 * (b + 1) + szA a b) ≤ 8900 ∧
  ∀ H', Same H H' → Q (.bl true) H'
theorem ok_isarrow (T : Gs K mg) (D__law_are_beside : Df P w K mg base "_law_are_beside" 6 ["told", "lows"] (spLBeside K)) (D__law_is_frac : Df P w K mg base "_law_is_frac" 4 ["thing"] (spLFrac K)) (D__law_bent_poly : Df P w K mg base "_law_bent_poly" 5 ["slant", "beside", "end", "by"] (spBent K)) (D__law_of_zeros : Df P w K mg base "_law_of_zeros" 4 ["some"] (spOfZ K)) (F : At K mg "_law_is_arrow" s__law_is_arrow) : Df P w K mg base "_law_is_arrow" 7 ["told", "tops", "lows"] (spIsArrow K) := by
  have sc := sc__law_is_arrow
  refine Df.mk' F sc (fun vs H Q E h => ?_) (fun _ _ _ _ _ _ us hl => match us, hl with | [_, _, _], _ => rfl) (fun f cdv A outer s H vs Q E hr h => ?_)
  · obtain ⟨u, v, w, tops, lows, z, a, b, g, rfl, _⟩ := h
    rfl
  · obtain ⟨u, v, w', tops, lows, z, a, b, g, rfl, du, dv, dw, rs, zl, l5, bt, bz, bl, bg, a0, a1, b0, b1, g7, z4, sz, q⟩ := h
    have ta := ar_all rs zl bt bz bl l5
    have tl : (arC tops lows z).length = lows.length := ar_len z
    obtain ⟨pu, us, rfl, hpu, hU⟩ := dtTup du
    obtain ⟨va, ve, rfl, da, de⟩ := dtTwo hU
    refine ⟨_, (pss_cons (ps_if (PW.pt (pw_or (pt_not (pt_val (pe_callB call_isi (by rfl) T.isinstance (by decide +kernel) (pa_cons (pv 0) (pa_cons (pe_bltn (v := .ty "tuple") (by rfl) T.tuple_ (by decide +kernel) rfl) pa_nil))))) (pw_or (pt_cmpR op_ne (pe_callB call_len_seq (by rfl) T.len PySem.boot_len (pa_cons (pv 0) pa_nil)) pe_int (nomark _)) (pw_or1 (pt_not (pt_val (pe_fn D__law_are_beside (by decide) hr (pa_cons (pe_ix ix_tup (pv 0) pe_int (fun _ _ => rfl)) (pa_cons (pv 2) pa_nil))))))))) (pss_one (ps_ret pe_bl)) pss_nil) (pss_one (ps_ret (pe_and (pe_fn D__law_is_frac (by decide) hr (pa_cons (pe_ix ix_tup (pv 0) pe_int (fun _ _ => rfl)) pa_nil)) (pe_one (pe_cmpR (op_eqD hr.units) (pe_fn D__law_bent_poly (by decide) hr (pa_cons (pv 2) (pa_cons (pe_ix ix_tup (pv 0) pe_int (fun _ _ => rfl)) (pa_cons (pe_ix ix_tup (pv 0) pe_int (fun _ _ => rfl)) (pa_cons (pe_tup (pa_cons pe_int (pa_cons pe_int pa_nil))) pa_nil))))) (pe_fn D__law_of_zeros (by decide) hr (pa_cons (pv 1) pa_nil)) (nomark _))))))), ?_⟩
    refine ⟨_, rfl, _, _, _, _, _, rfl, .ty _, tyT hpu, rfl, _, rfl, ifF rfl ?_⟩
    refine ⟨_, rfl, _, _, rfl, .inr hpu, rfl, _, rfl, ifF rfl ?_⟩
    refine ⟨_, rfl, _, _, _, _, rfl, rfl, hpu, at20, _, rfl, va, w', _, lows, rfl, da, dw, tl, fun x hx => ((ta x hx).2).mono z4, fun x hx => (ta x hx).1, fun H1 s1 => ⟨_, rfl, ifF rfl ?_⟩⟩
    have k1 := Same.kt s1
    refine ⟨_, rfl, _, _, _, _, rfl, rfl, k1.sqT hpu, at21, ve, _, rfl, DpT.keep k1 de, bg.mono (by omega), fun H2 s2 => ⟨_, rfl, ifT rfl ?_⟩⟩
    have k2 := k1.trans (Same.kt s2)
    refine ⟨_, rfl, _, rfl, _, _, _, _, rfl, rfl, k2.sqT hpu, at20, _, rfl, _, _, _, _, rfl, rfl, k2.sqT hpu, at21, by show 2 ≤ sizeLine; decide, fun p1 h1 => ?_⟩
    obtain ⟨G1, e1, s3, a2⟩ := mkP (o := .tup [.int 1, .int 1]) h1
    rw [e1]
    have k3 := k2.trans (Same.kt s3)
    have dO : DpT K G1 (.ref p1) (frd 1) := .tup (SqT.of a2) (.cons (.int _) (.cons (.int _) .nil))
    refine ⟨w', va, ve, .ref p1, lows, _, _, b, szA a b, g, rfl, DpT.keep k3 dw, DpT.keep k3 da, DpT.keep k3 de, dO, tl.symm, l5, bl, fun x hx => (ta x hx).2, bg, b1, b0, g7, by show 0 < 5 * (a + b + 1) + 1 + ((5 - 1) * (b + b + 1) + 1) + (b + a + 1); omega, sz, fun H4 l4 ys4 s4 h4 d4 => ?_⟩
    have k4 := k3.trans (Same.kt s4)
    have btz : ∀ x ∈ tops ++ [z], Bq a x := fun x hx => by
      rcases List.mem_append.mp hx with h | h
      · exact bt x h
      · rw [List.mem_singleton.mp h]
        exact bz
    refine ⟨_, rfl, v, tops ++ [z], a, rfl, DpT.keep k4 dv, btz, a0, by omega, by rw [List.length_append, List.length_singleton, rs.len]; omega, fun H5 l5' ys5 s5 h5 d5 => ?_⟩
    refine ⟨_, _, .lst (SqL.of (s5 _ _ h4)) (d4.keep (Same.kt s5)).dp, .lst (SqL.of h5) d5.dp, shaped_frds _, shaped_frds _, ?_⟩
    rw [arrow_poly rs rfl, eqv_list]
    exact q H5 (s1.trans (s2.trans (s3.trans (s4.trans s5))))
end
end V3
set_option maxHeartbeats 16000000
namespace V3
open PySem.Spec PySem L2 PyProof.Rows RZ GxR
/-- all but the well and the tables stands -/
def BW (a : Addr) (TT : List Addr) (H H' : Hp) : Prop := ∀ b o, b ≠ a → b ∉ TT → H b = some o → H' b = some o
theorem BW.trans {a : Addr} {TT : List Addr} {H H1 H2 : Hp} (x : BW a TT H H1) (y : BW a TT H1 H2) : BW a TT H H2 := fun b o h1 h2 e => y b o h1 h2 (x b o h1 h2 e)
theorem But.bw {a : Addr} {TT : List Addr} {H H' : Hp} (x : But a H H') : BW a TT H H' := fun b o h1 _ e => x b o h1 e
theorem B3.bw {a : Addr} {TT : List Addr} {H H' : Hp} (x : B3 TT H H') : BW a TT H H' := fun b o _ h2 e => x b o h2 e
theorem Same.bw {a : Addr} {TT : List Addr} {H H' : Hp} (x : Same H H') : BW a TT H H' := fun b o _ _ e => x b o e
/-- the well and the tables -/
structure Sd (a : Addr) (TT : List Addr) (k : Nat) (H : Hp) : Prop where
  w : Well H a k
  t : Tabs TT H
section
variable {a : Addr} {TT : List Addr} {k k' : Nat} {H H' : Hp}
theorem Sd.same (d : Sd a TT k H) (s : Same H H') : Sd a TT k H' := ⟨d.w.same s, d.t.same s⟩
theorem Sd.na (d : Sd a TT k H) {p : Addr} (hp : p ∈ TT) : p ≠ a := fun e => by
  obtain ⟨ps, hq, _⟩ := d.t p hp
  obtain ⟨xs, hx⟩ := d.w.lst
  rw [e, hx] at hq
  cases hq
theorem Sd.but (d : Sd a TT k H) (b : But a H H') (w : Well H' a k') : Sd a TT k' H' := ⟨w, fun p hp => by
  obtain ⟨ps, hq, x⟩ := d.t p hp
  exact ⟨ps, b _ _ (d.na hp) hq, x⟩⟩
theorem Sd.b3 (d : Sd a TT k H) (b : B3 TT H H') (t : Tabs TT H') : Sd a TT k H' := ⟨by
  obtain ⟨x, y, z, e, r⟩ := d.w
  exact ⟨x, y, z, b _ _ (fun h => d.na h rfl) e, r⟩, t⟩
theorem Sd.mono (d : Sd a TT k H) (h : k ≤ k') : Sd a TT k' H := ⟨d.w.mono h, d.t⟩
/-- a place beside the well and the tables -/
structure Off (a : Addr) (TT : List Addr) (D : Addr) : Prop where
  w : D ≠ a
  t : D ∉ TT
theorem Sd.off (d : Sd a TT k H) {D : Addr} (h : H D = none) : Off a TT D := ⟨Ne.symm (d.w.ne h), fun hp => by
  obtain ⟨ps, hq, _⟩ := d.t D hp
  rw [h] at hq
  cases hq⟩
theorem BW.at (b : BW a TT H H') {D : Addr} {o : HO} (f : Off a TT D) (e : H D = some o) : H' D = some o := b D o f.w f.t e
theorem Sd.kt (d : Sd a TT k H) (b : BW a TT H H') : KeepT H H' := by
  refine ⟨fun c xs e => b c _ (fun z => ?_) (fun z => ?_) e, fun c o u e => b c _ (fun z => ?_) (fun z => ?_) e⟩
  · obtain ⟨xs, hx⟩ := d.w.lst
    rw [z, hx] at e
    cases e
  · obtain ⟨ps, hq, _⟩ := d.t c z
    rw [e] at hq
    cases hq
  · obtain ⟨xs, hx⟩ := d.w.lst
    rw [z, hx] at e
    cases e
  · obtain ⟨ps, hq, _⟩ := d.t c z
    rw [e] at hq
    cases hq
theorem Sd.offL (d : Sd a TT k H) {D : Addr} {xs : List V} (e : H D = some (.lst xs)) (n : a ≠ D) : Off a TT D := ⟨Ne.symm n, fun hp => by
  obtain ⟨ps, hq, _⟩ := d.t D hp
  rw [e] at hq
  cases hq⟩
end
theorem sR_bq {a : Nat} : ∀ {l : List Rat}, (∀ x ∈ l, Bq a x) → Bq (l.length * (a + 1) + 1) (sR l)
  | [], _ => by
    show Bq (0 * (a + 1) + 1) (0 : Rat)
    rw [Nat.zero_mul]
    exact ⟨by decide, by decide⟩
  | x :: r, h => by
    have k := sR_bq (l := r) fun y hy => h y (List.mem_cons_of_mem _ hy)
    have e : (r.length + 1) * (a + 1) = r.length * (a + 1) + (a + 1) := Nat.succ_mul _ _
    show Bq ((r.length + 1) * (a + 1) + 1) (x + sR r)
    exact (h x List.mem_cons_self).add k (by omega)
theorem awZ_right {tops lows : List Rat} {z : Rat} (h : Rsd tops lows none) (hz : ∀ x ∈ lows, z ≤ x) (ht : ∀ x ∈ tops, z ≤ x) (t : Rat) : awZ (sR (tops ++ [z]) - sR lows) t lows (arC tops lows z) = slanZ t (tops ++ [z]) := by
  obtain ⟨c1, c2⟩ := arrow_right h hz ht t
  have al : (arC tops lows z).length = lows.length := ar_len z
  have tb := tieB_iff t lows (arC tops lows z) al.symm
  have hl : (((tops ++ [z]).length : Nat) : Int) = (lows.length : Int) + 1 := by
    rw [List.length_append, List.length_singleton, h.len]
    rfl
  have cs : sR (tdC tops lows) + sR lows = sR tops := change_sum h
  have ee : sR (tops ++ [z]) - sR lows = z + sR (tdC tops lows) := by
    rw [sR_app, ← cs]
    grind
  rw [ee]
  unfold awZ
  by_cases c : tieB t lows (arC tops lows z) = true
  · obtain ⟨e1, e2⟩ := c1 (tb.mp c)
    rw [if_pos c]
    unfold slanZ
    rw [e1, e2, hl]
    simp [moreZ, addAt]
    omega
  · obtain ⟨f1, f2, f3⟩ := c2 (fun q => c (tb.mpr q))
    rw [if_neg c]
    unfold slanZ
    generalize hS : (z + sR (tdC tops lows) - t) - qB t lows (arC tops lows z) = S at *
    by_cases p : 0 < S
    · obtain ⟨e1, e2⟩ := f1 p
      have e3 : sideZ S.num = 0 := if_pos (numPos.mpr p)
      rw [e3, e1, e2, hl]
      simp [moreZ, addAt]
      omega
    · have np : ¬ 0 < S.num := fun q => p (numPos.mp q)
      by_cases n : S < 0
      · obtain ⟨e1, e2⟩ := f2 n
        have nn : S.num < 0 := by
          have q : S.num ≠ 0 := fun q => by
            have := Rat.num_eq_zero.mp q
            grind
          omega
        have e3 : sideZ S.num = 2 := by
          unfold sideZ
          rw [if_neg np, if_pos nn]
        rw [e3, e1, e2, hl]
        simp [moreZ, addAt]
        omega
      · have q : S = 0 := by grind
        obtain ⟨e1, e2⟩ := f3 q
        have e3 : sideZ S.num = 1 := by
          rw [q]
          rfl
        rw [e3, e1, e2, hl]
        simp [moreZ, addAt]
        omega
section
variable {mg : Str → Option Value} {base : Heap} {K : PySem.W.Frag} {P : Program} {w : World}
abbrev s__law_right : Stmt := topS 78
abbrev N__law_right : List Str := ["well", "wide", "tops", "lows", "told", "again", "level"]
theorem sc__law_right : FnScope N__law_right ["well"] (defScope s__law_right) := ⟨rfl, rfl, rfl, by decide +kernel, rfl, by decide +kernel, by decide +kernel⟩
theorem ok_right_c (T : Gs K mg) {TT : List Addr} (D__law_levels : Df P w K mg base "_law_levels" 3 ["well", "tops", "lows"] (spLevels K)) (D__law_same : Df P w K mg base "_law_same" 3 ["told", "due"] (spSame K 2)) (D_arrow_counts : Df P w K mg base "arrow_counts" 7 ["along", "squares", "last", "number"] (spArCounts K TT))
    (D__law_around : Df P w K mg base "_law_around" 2 ["some", "level"] (spAround K))
    {f : Addr} {cdv : Value} {A : Around} {outer : List Env} {s0 : Shared} {H0 : Hp} {E : XK} (hr : Room 8 (A.deeper (envOfC "_law_right" (defScope s__law_right) s0.heap.objs.size f cdv))) :
    ∃ t, PSs (cxOf CX0 P w K mg base N__law_right "_law_right" (defScope s__law_right) f cdv A outer s0 H0 E).nox ((defBody s__law_right).drop 7) t ∧
      ∀ (Q : VK) (Hs : Hp) (a : Addr) (k : Nat) (vl vt v4 : V) (y1 y5 y6 : Option V) (tops lows : List Rat) (z : Rat), Sd a TT k Hs → k ≤ 100 → DpT K Hs vt (rowQ (tops ++ [z])) → DpT K Hs vl (rowQ lows) → DpT K Hs v4 (.tuple [rowQ (arC tops lows z), frd (sR (tops ++ [z]) - sR lows)]) → Rsd tops lows none → (∀ x ∈ lows, z ≤ x) → (∀ x ∈ tops, z ≤ x) → (∀ x ∈ tops ++ [z], Bq 20 x) → (∀ x ∈ lows, Bq 49 x) → 1 ≤ lows.length → lows.length ≤ 5 →
        (∀ H', BW a TT Hs H' → Tabs TT H' → Q (.bl true) H') →
        t { nx := fun _ H' => Q .non H', rt := Q } [some (.ref a), y1, some vt, some vl, some v4, y5, y6] Hs := by
  have sc := sc__law_right
  refine ⟨_, (pss_cons (ps_for PassesOwn.never rfl (pi_list (pe_fn D__law_levels (by decide) hr (pa_cons (pv 0) (pa_cons (pv 2) (pa_cons (pv 3) pa_nil))))) (pg_name (i := 6) sc.nd rfl (.inl rfl)) (pss_one (ps_if (pt_not (pt_val (pe_fn D__law_same (by decide) hr (pa_cons (pe_fn D_arrow_counts (by decide) hr (pa_cons (pv 3) (pa_cons (pe_ix ix_tup (pv 4) pe_int (fun _ _ => rfl)) (pa_cons (pe_ix ix_tup (pv 4) pe_int (fun _ _ => rfl)) (pa_cons (pv 6) pa_nil))))) (pa_cons (pe_fn D__law_around (by decide) hr (pa_cons (pv 2) (pa_cons (pv 6) pa_nil))) pa_nil))))) (pss_one (ps_ret pe_bl)) pss_nil))) (pss_one (ps_ret pe_bl))), ?_⟩
  intro Q Hs a k vl vt v4 y1 y5 y6 tops lows z sd kl dt dl d4 rs zl zt bt bl l1 l5 q
  have lt := rs.len
  obtain ⟨pl, xl, rfl, hpl, hL⟩ := dtTupQ dl
  obtain ⟨p4, x4, rfl, hp4, h4⟩ := dtTup d4
  obtain ⟨va, ve, rfl, da, de⟩ := dtTwo h4
  obtain ⟨pa4, xa, rfl, hpa, hA⟩ := dtTupQ da
  have lq : (tops ++ [z]).length = lows.length + 1 := by rw [List.length_append, List.length_singleton, lt]
  refine ⟨_, rfl, _, rfl, _, rfl, a, vt, .ref pl, tops ++ [z], lows, k, rfl, sd.w, by omega, dt, dl, fun x hx => (bt x hx).mono (by decide), bl, by omega, by omega, by omega, by omega, fun H1 p ys ts b1 w1 hp pa dys l3 bts => ?_⟩
  have sd1 := sd.but b1 w1
  have op := sd1.offL hp (Ne.symm pa)
  have bta : ∀ x ∈ tops, Bq 20 x := fun x hx => bt x (List.mem_append_left _ hx)
  have bz : Bq 20 z := bt z (List.mem_append_right _ List.mem_cons_self)
  have ta := ar_all rs zl bta bz bl l5
  have al : (arC tops lows z).length = lows.length := ar_len z
  have be : Bq 379 (sR (tops ++ [z]) - sR lows) := by
    have h1 := sR_bq bt
    have h2 := sR_bq bl
    have m1 : (tops ++ [z]).length * (20 + 1) ≤ 6 * 21 := Nat.mul_le_mul_right _ (by omega)
    have m2 : lows.length * (49 + 1) ≤ 5 * 50 := Nat.mul_le_mul_right _ (by omega)
    exact (h1.mono (show _ ≤ 127 by omega)).sub (h2.mono (show _ ≤ 251 by omega)) (by decide)
  refine ⟨p, rfl, ⟨_, SqL.of hp⟩, for_list (K := K) (a := p) (xs := ys) (fun i σ H' => (∃ y6, σ = [some (.ref a), y1, some vt, some (.ref pl), some (.ref p4), y5, y6]) ∧ Tabs TT H' ∧ BW a TT H1 H') ⟨⟨_, rfl⟩, sd1.t, fun _ _ _ _ e => e⟩ (fun i σ H' _ h => SqL.of (h.2.2.at op hp)) ?_ ?_⟩
  · rintro i x σ H2 hi ⟨⟨y, rfl⟩, t2, b2⟩
    obtain ⟨lv, hlv, dlv⟩ := fqGetV dys hi
    have blv := bts _ (List.mem_of_getElem? hlv)
    have k2 := (sd.kt (But.bw (TT := TT) b1)).trans (sd1.kt b2)
    have dlv2 := DpT.keep (sd1.kt b2) dlv
    have hp42 := k2.sqT hp4
    refine ⟨_, rfl, _, rfl, _, _, _, _, rfl, rfl, hp42, at20, _, rfl, _, _, _, _, rfl, rfl, hp42, at21, _, rfl, pl, pa4, ve, x, xl, xa, lows, arC tops lows z, _, lv, 49, szA 20 49, 49, 379, rfl, k2.sqT hpl, hL.keep k2, k2.sqT hpa, hA.keep k2, l1, l5, al, fun y hy => (ta y hy).1, DpT.keep k2 de, dlv2, bl, fun y hy => (ta y hy).2, blv, be, by decide, by decide, by decide, by decide, by decide, t2, fun H4 l4 b4 t4 hl4 => ?_⟩
    rw [awZ_right rs zl zt] at hl4
    have k4 := k2.trans (b4.kt t2)
    refine ⟨_, rfl, _, rfl, vt, x, tops ++ [z], lv, rfl, DpT.keep k4 dt, DpT.keep (b4.kt t2) dlv2, by omega, fun y hy => (bt y hy).mono (by decide), blv.mono (by decide), fun H5 p5 s5 h5 => ?_⟩
    refine ⟨.ref l4, .ref p5, .tuple [.int (slanZ lv (tops ++ [z])).1, .int (slanZ lv (tops ++ [z])).2.1, .int (slanZ lv (tops ++ [z])).2.2], rfl, (DpT.tup ((Same.kt s5).sqT hl4) (.cons (.int _) (.cons (.int _) (.cons (.int _) .nil)))).dp, (DpT.tup h5 (.cons (.int _) (.cons (.int _) (.cons (.int _) .nil)))).dp, .tup (by show 3 ≤ 1000; decide) (fun d hd => ?_), fun H6 s6 => ⟨_, rfl, ifF rfl ?_⟩⟩
    · simp only [List.mem_cons, List.not_mem_nil, or_false] at hd
      rcases hd with rfl | rfl | rfl <;> exact .int _ _
    · exact ⟨⟨_, rfl⟩, t4.same (s5.trans s6), b2.trans ((B3.bw b4).trans (Same.bw (s5.trans s6)))⟩
  · rintro σ H2 ⟨⟨y, rfl⟩, t2, b2⟩
    exact q H2 ((But.bw b1).trans b2) t2
end
end V3
namespace V3
open PySem.Spec PySem L2 PyProof.Rows RZ GxR
section
variable {mg : Str → Option Value} {base : Heap} {K : PySem.W.Frag} {P : Program} {w : World}
theorem ok_right_b (T : Gs K mg) {TT : List Addr} (D__law_is_laced : Df P w K mg base "_law_is_laced" 2 ["tops", "lows"] (spLLaced K)) (D__law_is_arrow : Df P w K mg base "_law_is_arrow" 7 ["told", "tops", "lows"] (spIsArrow K)) (D__law_are_first : Df P w K mg base "_law_are_first" 1 ["told", "lows"] (spFirst K)) (D__law_same5 : Df P w K mg base "_law_same" 5 ["told", "due"] (spSame K 4)) (D_arrow_of : Df P w K mg base "arrow_of" 6 ["roots", "others"] (spArrow K TT)) (DK_arrow_of : DfK P w K mg base "arrow_of" 6 "roots" "others" (spArrow K TT))
    (D__law_levels : Df P w K mg base "_law_levels" 3 ["well", "tops", "lows"] (spLevels K)) (D__law_same : Df P w K mg base "_law_same" 3 ["told", "due"] (spSame K 2)) (D_arrow_counts : Df P w K mg base "arrow_counts" 7 ["along", "squares", "last", "number"] (spArCounts K TT)) (D__law_around : Df P w K mg base "_law_around" 2 ["some", "level"] (spAround K))
    {f : Addr} {cdv : Value} {A : Around} {outer : List Env} {s0 : Shared} {H0 : Hp} {E : XK} (hr : Room 8 (A.deeper (envOfC "_law_right" (defScope s__law_right) s0.heap.objs.size f cdv))) :
    ∃ t, PSs (cxOf CX0 P w K mg base N__law_right "_law_right" (defScope s__law_right) f cdv A outer s0 H0 E).nox ((defBody s__law_right).drop 4) t ∧
      ∀ (Q : VK) (Hs : Hp) (a : Addr) (k : Nat) (vl vt : V) (y1 y4 y5 y6 : Option V) (ts lows : List Rat), Sd a TT k Hs → k ≤ 100 → DpT K Hs vt (rowQ ts) → DpT K Hs vl (rowQ lows) → Rw ts.length ts → Rw lows.length lows → ts.length = lows.length + 1 → (∀ x ∈ ts, Bq 20 x) → (∀ x ∈ lows, Bq 49 x) → 1 ≤ lows.length → lows.length ≤ 5 →
        (∀ H', BW a TT Hs H' → Tabs TT H' → Q (.bl true) H') →
        t { nx := fun _ H' => Q .non H', rt := Q } [some (.ref a), y1, some vt, some vl, y4, y5, y6] Hs := by
  have sc := sc__law_right
  obtain ⟨tc, pc, hc⟩ := ok_right_c T D__law_levels D__law_same D_arrow_counts D__law_around (outer := outer) (H0 := H0) (E := E) hr
  refine ⟨_, (pss_cons (ps_par (i := 4) (j := 5) rfl sc.nd rfl rfl (by decide) rfl rfl (pa_cons (pe_fn D_arrow_of (by decide) hr (pa_cons (pv 2) (pa_cons (pv 3) pa_nil))) (pa_cons (pe_fnK DK_arrow_of (by decide) hr (pk_cons (pv 3) (pk_cons (pv 2) pk_nil))) pa_nil)) (by rfl)) (pss_cons (ps_if (pt_not (pt_val (pe_fn D__law_is_laced (by decide) hr (pa_cons (pv 2) (pa_cons (pv 3) pa_nil))))) (pss_one (ps_ret (pe_and (pe_cmpR op_isN (pv 4) pe_non (nomark _)) (pe_one (pe_cmpR op_isN (pv 5) pe_non (nomark _)))))) pss_nil) (pss_cons (ps_if (PW.pt (pw_or (pt_not (pt_val (pe_fn D__law_is_arrow (by decide) hr (pa_cons (pv 4) (pa_cons (pv 2) (pa_cons (pv 3) pa_nil)))))) (pw_or (pt_not (pt_val (pe_fn D__law_are_first (by decide) hr (pa_cons (pe_ix ix_tup (pv 4) pe_int (fun _ _ => rfl)) (pa_cons (pv 3) pa_nil))))) (pw_or1 (pt_not (pt_val (pe_fn D__law_same5 (by decide) hr (pa_cons (pv 5) (pa_cons (pv 4) pa_nil))))))))) (pss_one (ps_ret pe_bl)) pss_nil) pc))), ?_⟩
  intro Q Hs a k vl vt y1 y4 y5 y6 ts lows sd kl dt dl rwt rwl le bt bl l1 l5 q
  refine ⟨_, rfl, _, rfl, vt, vl, ts, lows, rfl, dt, dl, rwt, rwl, le, l1, by omega, sd.t, fun H1 v4 b1' tt1 d4 => ?_⟩
  have k1 := b1'.kt sd.t
  refine ⟨_, rfl, _, rfl, vt, vl, ts, lows, rfl, DpT.keep k1 dt, DpT.keep k1 dl, rwt, rwl, le, l1, by omega, tt1, fun H2 v5 b2' tt2 d5 => ?_⟩
  have k12 := b2'.kt tt1
  have k2 := k1.trans k12
  have d4 := DpT.keep k12 d4
  have sd2 := (sd.b3 b1' tt1).b3 b2' tt2
  have bw2 : BW a TT Hs H2 := (B3.bw b1').trans (B3.bw b2')
  refine ⟨_, _, rfl, ?_⟩
  refine ⟨_, rfl, _, rfl, vt, vl, ts, lows, rfl, ⟨DpT.keep k2 dt, DpT.keep k2 dl, fun x hx => (bt x hx).mono (by decide), fun x hx => (bl x hx).mono (by decide), by omega, by omega⟩, fun H3 s3 => ⟨_, rfl, if2 (fun e => ?_) (fun e => ?_)⟩⟩
  · have e1 : lacB ts lows = false := by simpa using e
    have ce : arD ts lows = .none := by
      unfold arD
      rw [if_neg (by rw [e1]; decide)]
    rw [ce] at d4 d5
    cases d4
    cases d5
    have qq := q H3 (bw2.trans (Same.bw s3)) (tt2.same s3)
    refine ⟨_, rfl, rfl, _, rfl, ifT rfl ?_⟩
    refine ⟨_, rfl, rfl, ?_⟩
    show Q (V.bl (decide (V.non = V.non))) H3
    rw [decide_eq_true rfl]
    exact qq
  · have e1 : lacB ts lows = true := by simpa using e
    have ce : arD ts lows = .tuple [rowQ (arQ ts lows), frd (sR ts - sR lows)] := if_pos e1
    rw [ce] at d4 d5
    obtain ⟨tops, z, rfl, rs, zl, zt⟩ := lac_split le l1 rwl.srt e1
    rw [arQ_app rs.len] at d4 d5
    have bta : ∀ x ∈ tops, Bq 20 x := fun x hx => bt x (List.mem_append_left _ hx)
    have bz : Bq 20 z := bt z (List.mem_append_right _ List.mem_cons_self)
    have lq : (tops ++ [z]).length = lows.length + 1 := le
    have be : Bq 379 (sR (tops ++ [z]) - sR lows) := by
      have h1 := sR_bq bt
      have h2 := sR_bq bl
      have m1 : (tops ++ [z]).length * (20 + 1) ≤ 6 * 21 := Nat.mul_le_mul_right _ (by omega)
      have m2 : lows.length * (49 + 1) ≤ 5 * 50 := Nat.mul_le_mul_right _ (by omega)
      exact (h1.mono (show _ ≤ 127 by omega)).sub (h2.mono (show _ ≤ 251 by omega)) (by decide)
    have k3 := k2.trans (Same.kt s3)
    have d4 := DpT.keep (Same.kt s3) d4
    have d5 := DpT.keep (Same.kt s3) d5
    have al : (arC tops lows z).length = lows.length := ar_len z
    refine ⟨_, rfl, _, rfl, _, rfl, v4, vt, vl, tops, lows, z, 20, 49, 379, rfl, d4, DpT.keep k3 dt, DpT.keep k3 dl, rs, zl, l5, bta, bz, bl, be, by decide, by decide, by decide, by decide, by decide, by decide, by decide, fun H4 s4 => ⟨_, rfl, ifF rfl ?_⟩⟩
    have k4 := Same.kt s4
    obtain ⟨p4, x4, rfl, hp4, h4⟩ := dtTup d4
    obtain ⟨va, ve, rfl, da, de⟩ := dtTwo h4
    refine ⟨_, rfl, _, _, _, _, rfl, rfl, k4.sqT hp4, at20, _, rfl, va, vl, _, lows, rfl, DpT.keep k4 da, DpT.keep (k3.trans k4) dl, al, by omega, fun i hi e => ar_first hi e, fun H5 s5 => ⟨_, rfl, ifF rfl ?_⟩⟩
    have k5 := k4.trans (Same.kt s5)
    refine ⟨_, rfl, _, rfl, v5, .ref p4, .tuple [rowQ (arC tops lows z), frd (sR (tops ++ [z]) - sR lows)], rfl, (DpT.keep k5 d5).dp, (DpT.keep k5 d4).dp, .tup (by show 2 ≤ 1000; decide) (fun d hd => ?_), fun H6 s6 => ⟨_, rfl, ifF rfl ?_⟩⟩
    · simp only [List.mem_cons, List.not_mem_nil, or_false] at hd
      rcases hd with rfl | rfl
      · exact lay_row (by omega) 0
      · exact lay_fr _ _
    · have s36 := s3.trans (s4.trans (s5.trans s6))
      have k6 := k2.trans (Same.kt s36)
      refine hc Q H6 a k vl vt (.ref p4) _ _ _ tops lows z (sd2.same s36) kl (DpT.keep k6 dt) (DpT.keep k6 dl) (DpT.keep (k5.trans (Same.kt s6)) d4) rs zl zt bt bl l1 l5 fun H' b' t' => ?_
      exact q H' (bw2.trans ((Same.bw s36).trans b')) t'
end
end V3
namespace V3
open PySem.Spec PySem L2 PyProof.Rows RZ GxR
section
variable {mg : Str → Option Value} {base : Heap} {K : PySem.W.Frag} {P : Program} {w : World}
def spRight (TT : List Addr) : Sp := fun vs H Q _ => ∃ a : Addr, vs = [.ref a] ∧ Well H a 0 ∧ Tabs TT H ∧ ∀ H', BW a TT H H' → Tabs TT H' → Q (.bl true) H'
theorem ok_right (T : Gs K mg) {TT : List Addr} (D__law_draw : Df P w K mg base "_law_draw" 1 ["well", "limit"] spDraw) (D__law_wide : Df P w K mg base "_law_wide" 3 ["well", "most"] (spWide K)) (D__law_tops : Df P w K mg base "_law_tops" 3 ["well", "wide"] (spTops K)) (D__law_lows : Df P w K mg base "_law_lows" 4 ["well", "tops", "many_lows"] (spLows K)) (D__law_shaken : Df P w K mg base "_law_shaken" 3 ["well", "some"] (spShaken K))
    (D__law_is_laced : Df P w K mg base "_law_is_laced" 2 ["tops", "lows"] (spLLaced K)) (D__law_is_arrow : Df P w K mg base "_law_is_arrow" 7 ["told", "tops", "lows"] (spIsArrow K)) (D__law_are_first : Df P w K mg base "_law_are_first" 1 ["told", "lows"] (spFirst K)) (D__law_same5 : Df P w K mg base "_law_same" 5 ["told", "due"] (spSame K 4)) (D_arrow_of : Df P w K mg base "arrow_of" 6 ["roots", "others"] (spArrow K TT)) (DK_arrow_of : DfK P w K mg base "arrow_of" 6 "roots" "others" (spArrow K TT))
    (D__law_levels : Df P w K mg base "_law_levels" 3 ["well", "tops", "lows"] (spLevels K)) (D__law_same : Df P w K mg base "_law_same" 3 ["told", "due"] (spSame K 2)) (D_arrow_counts : Df P w K mg base "arrow_counts" 7 ["along", "squares", "last", "number"] (spArCounts K TT)) (D__law_around : Df P w K mg base "_law_around" 2 ["some", "level"] (spAround K))
    (F : At K mg "_law_right" s__law_right) : Df P w K mg base "_law_right" 9 ["well"] (spRight TT) := by
  have sc := sc__law_right
  refine Df.mk' F sc (fun vs H Q E h => ?_) (fun _ _ _ _ _ _ us hl => match us, hl with | [_], _ => rfl) (fun f cdv A outer s H vs Q E hr h => ?_)
  · obtain ⟨a, rfl, _⟩ := h
    rfl
  · obtain ⟨a, rfl, hw, tab, q⟩ := h
    obtain ⟨tb, pb, hb⟩ := ok_right_b T D__law_is_laced D__law_is_arrow D__law_are_first D__law_same5 D_arrow_of DK_arrow_of D__law_levels D__law_same D_arrow_counts D__law_around (outer := outer) (H0 := H) (E := E) hr
    refine ⟨_, (pss_cons (ps_set (i := 1) sc.nd rfl (.inl rfl) (pe_fn D__law_wide (by decide) hr (pa_cons (pv 0) (pa_cons pe_int pa_nil)))) (pss_cons (ps_set (i := 2) sc.nd rfl (.inl rfl) (pe_fn D__law_tops (by decide) hr (pa_cons (pv 0) (pa_cons (pe_op op_add (pv 1) pe_int) pa_nil)))) (pss_cons (ps_set (i := 3) sc.nd rfl (.inl rfl) (pe_fn D__law_lows (by decide) hr (pa_cons (pv 0) (pa_cons (pv 2) (pa_cons (pv 1) pa_nil))))) (pss_cons (ps_if (pt_cmpR op_eq (pe_fn D__law_draw (by decide) hr (pa_cons (pv 0) (pa_cons pe_int pa_nil))) pe_int (nomark _)) (pss_one (ps_set (i := 3) sc.nd rfl (.inl rfl) (pe_fn D__law_shaken (by decide) hr (pa_cons (pv 0) (pa_cons (pv 3) pa_nil))))) pss_nil) pb)))), ?_⟩
    have sd0 : Sd a TT 0 H := ⟨hw, tab⟩
    refine ⟨_, rfl, a, 0, rfl, hw, by omega, fun H1 n b1 w1 n1 n5 => ?_⟩
    have sd1 := sd0.but b1 w1
    refine ⟨_, rfl, _, rfl, _, _, rfl, rfl, a, n + 1, 1, by rw [Int.natCast_add]; rfl, w1, by omega, by omega, fun H2 vt tops b2 w2 dt rt bt => ?_⟩
    have sd2 := sd1.but b2 w2
    have lt := rt.len
    refine ⟨_, rfl, _, rfl, _, rfl, a, vt, tops, n, 25, rfl, w2, by omega, dt, bt, by omega, by omega, fun H3 vl lows b3 w3 dl rl bl => ?_⟩
    have sd3 := sd2.but b3 w3
    have k3 := b3.ktW w2
    have dt3 := DpT.keep k3 dt
    have ll := rl.len
    have hb3 : BW a TT H H3 := (But.bw b1).trans ((But.bw b2).trans (But.bw b3))
    refine ⟨_, rfl, a, _, 37, rfl, w3, by omega, by decide, by decide, fun H4 d4 b4 w4 d40 d4l => ?_⟩
    have sd4 := sd3.but b4 w4
    have k4 := b4.ktW w3
    have dl4 := DpT.keep k4 dl
    have dt4 := DpT.keep k4 dt3
    have hb4 := hb3.trans (But.bw (TT := TT) b4)
    have rwt : Rw tops.length tops := ⟨rfl, rt.srt, rt.bq⟩
    refine ⟨rfl, _, rfl, if2 (fun ee => ?_) (fun ee => ?_)⟩
    · refine ⟨_, rfl, _, rfl, a, vl, lows, 38, rfl, w4, by omega, dl4, bl, by omega, by omega, fun H5 v5 ls b5 w5 d5 r5 b5q => ?_⟩
      have l5 := r5.len
      exact hb Q H5 a _ v5 vt _ _ _ _ tops ls (sd4.but b5 w5) (by omega) (DpT.keep (b5.ktW w4) dt4) d5 rwt ⟨rfl, r5.srt, r5.bq⟩ (by omega) (fun x hx => (bt x hx).bq) b5q (by omega) (by omega) fun H' b' t' => q H' ((hb4.trans (But.bw b5)).trans b') t'
    · exact hb Q H4 a _ vl vt _ _ _ _ tops lows sd4 (by omega) dt4 dl4 rwt ⟨rfl, rl.srt, rl.bq⟩ (by omega) (fun x hx => (bt x hx).bq) (fun x hx => (bl x hx).mono (by decide)) (by omega) (by omega) fun H' b' t' => q H' (hb4.trans b') t'
abbrev s_law : Stmt := topS 79
abbrev N_law : List Str := ["script", "turn"]
theorem sc_law : FnScope N_law ["script"] (defScope s_law) := ⟨rfl, rfl, rfl, by decide +kernel, rfl, by decide +kernel, by decide +kernel⟩
def spLaw (K : PySem.W.Frag) (TT : List Addr) : Sp := fun vs H Q _ => ∃ (la : Addr) (ks : List Int), vs = [.ref la] ∧ SqL K H la (ks.map V.int) ∧ Tabs TT H ∧ ∀ H1, Q (.bl true) H1
end
end V3
set_option maxHeartbeats 8000000
namespace V3
open PySem.Spec PySem L2 PyProof.Rows RZ GxR
section
variable {mg : Str → Option Value} {base : Heap} {K : PySem.W.Frag} {P : Program} {w : World}
theorem Tabs.no {TT : List Addr} {H : Hp} {p : Addr} (t : Tabs TT H) (h : H p = none) : p ∉ TT := fun hp => by
  obtain ⟨ps, hq, _⟩ := t p hp
  rw [h] at hq
  cases hq
theorem Tabs.seq {TT : List Addr} {H H' : Hp} {a : Addr} {xs : List V} (t : Tabs TT H) (b : B3 TT H H') (h : SqL K H a xs) : SqL K H' a xs := by
  (rcases h with (h | ⟨o, h⟩) | h)
  · exact .inl (.inl (b _ _ (fun hp => by
      obtain ⟨ps, hq, _⟩ := t a hp
      rw [h] at hq
      cases hq) h))
  · exact .inl (.inr ⟨o, b _ _ (fun hp => by
      obtain ⟨ps, hq, _⟩ := t a hp
      rw [h] at hq
      cases hq) h⟩)
  · exact .inr h
theorem ok_law (T : Gs K mg) {TT : List Addr} (D__law_well : Df P w K mg base "_law_well" 1 ["script", "turn", "start"] (spWell K)) (D__law_right : Df P w K mg base "_law_right" 9 ["well"] (spRight TT)) (F : At K mg "law" s_law) : Df P w K mg base "law" 10 ["script"] (spLaw K TT) := by
  have sc := sc_law
  refine Df.mk' F sc (fun vs H Q E h => ?_) (fun _ _ _ _ _ _ us hl => match us, hl with | [_], _ => rfl) (fun f cdv A outer s0 H vs Q E hr h => ?_)
  · obtain ⟨a, ns, rfl, _⟩ := h
    rfl
  · obtain ⟨a, ns, rfl, ha, tab, q⟩ := h
    refine ⟨_, (pss_one (ps_ret (pe_callB (cr_all rfl) (by rfl) T.all (by decide +kernel) (pa_cons (pe_lc (own := [("turn", 1)]) (g := gName 1) rfl sc.nd (pi_range1 rfl T.range (pa_cons (pe_callB (call_max2 rfl) (by rfl) T.max (by decide +kernel) (pa_cons pe_int (pa_cons (pe_callB (call_min2 rfl) (by rfl) T.min (by decide +kernel) (pa_cons (pe_callB call_len_seq (by rfl) T.len PySem.boot_len (pa_cons (pv 0) pa_nil)) (pa_cons pe_int pa_nil))) pa_nil))) pa_nil)) (blkOk_by (own := [("turn", 1)]) (N := N_law) (sc := defScope s_law) (by decide +kernel)) (fun _ _ _ _ _ => (pg_name (i := 1) sc.nd rfl (.inl rfl))) (fun _ _ _ _ _ => pts_nil) (fun _ _ _ _ _ => (pe_fn D__law_right (by decide) hr (pa_cons (pe_fn D__law_well (by decide) hr (pa_cons (pv 0) (pa_cons (pv 1) (pa_cons pe_int pa_nil)))) pa_nil)))) pa_nil)))), ?_⟩
    refine ⟨_, rfl, _, _, rfl, .inl ha, _, _, rfl, _, _, rfl, ?_⟩
    have bd : ∀ n : Int, (if (if n > 2 then 2 else n) > 1 then (if n > 2 then 2 else n) else 1) ≤ 3 ∧ 0 ≤ (if (if n > 2 then 2 else n) > 1 then (if n > 2 then 2 else n) else (1 : Int)) := fun n => by
      constructor <;> repeat' split <;> omega
    have bdn : ∀ n : Int, (if (if 2 < n then 2 else n) > 1 then (if 2 < n then 2 else n) else 1) ≤ 3 ∧ 0 ≤ (if (if 2 < n then 2 else n) > 1 then (if 2 < n then 2 else n) else (1 : Int)) := bd
    refine ⟨_, rfl, ?_, ?_, fun D hD => lc_range (lo := 0) (n := _) (fun i H' => B3 TT H H' ∧ Tabs TT H' ∧ ∃ bs : List Bool, H' D = some (.lst (bs.map V.bl)) ∧ bs.length = i ∧ bs.all id = true)
      ⟨Same.b3 (same_upd hD), tab.same (same_upd hD), [], upd_same, rfl, rfl⟩ ?_ ?_⟩
    · split <;> omega
    · split <;> (try split) <;> omega
    · rintro i H1 hi ⟨b1, t1, bs, hbs, hbl, hba⟩
      have hi2 : i < 1000 := by
        revert hi
        split <;> (try split) <;> omega
      refine ⟨rfl, yesIf ?_⟩
      refine ⟨_, rfl, _, rfl, a, ns, i, 1017, by rw [Int.zero_add], tab.seq b1 ha, fun H2 p s2 hp w2 => ?_⟩
      refine ⟨p, rfl, w2, t1.same s2, fun H3 b3 t3 => ?_⟩
      have dp : D ≠ p := fun z => by
        rw [← z, hbs] at hp
        cases hp
      have nD : D ∉ TT := tab.no hD
      have hbs3 := b3 _ _ dp nD (s2 _ _ hbs)
      refine ⟨_, hbs3, small1000 (by rw [List.length_map]; omega), ?_, fun p2 hp2 => ?_, bs ++ [true], ?_, by rw [List.length_append, hbl]; rfl, by rw [List.all_append, hba]; rfl⟩
      · intro bb o nb e
        rw [upd_ne (ne_of_none e hD)]
        have e1 := b1 _ _ nb e
        exact b3 _ _ (ne_of_none e1 hp) nb (s2 _ _ e1)
      · obtain ⟨ps, hq, x⟩ := t3 p2 hp2
        have ne : p2 ≠ D := fun z => nD (by rw [← z]; exact hp2)
        exact ⟨ps, by rw [upd_ne ne]; exact hq, x⟩
      · rw [upd_same, List.map_append]
        rfl
    · rintro H1 ⟨b1, t1, bs, hbs, hbl, hba⟩
      refine ⟨D, bs, rfl, SqL.of hbs, ?_⟩
      rw [hba]
      exact q H1
end
end V3
set_option maxHeartbeats 0
namespace V3
open PySem PySem.Spec PyProof.Rows L2 RZ GxR
def loose0 : List Str := ["RootError", "InvalidFraction", "InvalidRow", "InvalidRoots", "InvalidSquares", "NOUGHT", "ONE", "fraction", "plus", "minus", "times", "over", "opposite_of", "is_above", "MOST_ROWS", "MOST_ROOTS", "is_whole", "is_tuple_of", "is_fraction", "first_unlike_fraction", "check_fraction", "check_row", "check_row_up_to", "check_squares", "check_roots", "check_roots_of", "ABOVE", "AT", "BELOW", "side_of"]
def loose1 : List Str := ["with_more", "are_laced", "arrow_of", "check_one_fewer", "squares_beside", "left_of", "product_beside", "check_beside", "arrow_counts", "counts_along_slant", "is_tied", "sum_over", "_law_well", "_law_draw", "_law_pick", "_law_cut", "_law_add", "_law_sub", "_law_mul", "_law_less", "_law_down", "_law_around", "_law_grown", "_law_of_zeros", "_law_poly_less", "_law_bent_poly", "_law_number", "_law_tops", "_law_wide", "_law_between"]
def loose2 : List Str := ["_law_same", "_law_is_whole", "_law_is_frac", "_law_are_fracs", "_law_is_laced", "_law_lows", "_law_shaken", "_law_are_beside", "_law_are_first", "_law_is_arrow", "_law_levels", "_law_right"]
def loose : List Str := loose0 ++ loose1 ++ loose2
def dN (x : Str) (st : Stmt) : He.DefD := ⟨(x, none), x, x, defArgs st, defBody st, defScope st, [], []⟩
def fn0 : List He.DefD := [dN "fraction" (topS 10), dN "plus" (topS 11), dN "minus" (topS 12), dN "times" (topS 13), dN "over" (topS 14), dN "opposite_of" (topS 15), dN "is_above" (topS 16), dN "is_whole" (topS 20), dN "is_tuple_of" (topS 21), dN "is_fraction" (topS 22), dN "first_unlike_fraction" (topS 23), dN "check_fraction" (topS 24), dN "check_row" (topS 25), dN "check_row_up_to" (topS 26), dN "check_squares" (topS 27), dN "check_roots" (topS 28), dN "check_roots_of" (topS 29), dN "side_of" (topS 34), dN "with_more" (topS 35), dN "are_laced" (topS 37), dN "arrow_of" (topS 38), dN "check_one_fewer" (topS 39), dN "squares_beside" (topS 40), dN "left_of" (topS 41), dN "product_beside" (topS 42), dN "check_beside" (topS 43), dN "arrow_counts" (topS 44), dN "counts_along_slant" (topS 45), dN "is_tied" (topS 46), dN "sum_over" (topS 47)]
def fa0 : List He.Fa := [.glo "fraction", .glo "plus", .glo "minus", .glo "times", .glo "over", .glo "opposite_of", .glo "is_above", .glo "is_whole", .glo "is_tuple_of", .glo "is_fraction", .glo "first_unlike_fraction", .glo "check_fraction", .glo "check_row", .glo "check_row_up_to", .glo "check_squares", .glo "check_roots", .glo "check_roots_of", .glo "side_of", .glo "with_more", .glo "are_laced", .glo "arrow_of", .glo "check_one_fewer", .glo "squares_beside", .glo "left_of", .glo "product_beside", .glo "check_beside", .glo "arrow_counts", .glo "counts_along_slant", .glo "is_tied", .glo "sum_over"]
def fn1 : List He.DefD := [dN "_law_well" (topS 49), dN "_law_draw" (topS 50), dN "_law_pick" (topS 51), dN "_law_cut" (topS 52), dN "_law_add" (topS 53), dN "_law_sub" (topS 54), dN "_law_mul" (topS 55), dN "_law_less" (topS 56), dN "_law_down" (topS 57), dN "_law_around" (topS 58), dN "_law_grown" (topS 59), dN "_law_of_zeros" (topS 60), dN "_law_poly_less" (topS 61), dN "_law_bent_poly" (topS 62), dN "_law_number" (topS 63), dN "_law_tops" (topS 64), dN "_law_wide" (topS 65), dN "_law_between" (topS 66), dN "_law_same" (topS 67), dN "_law_is_whole" (topS 68), dN "_law_is_frac" (topS 69), dN "_law_are_fracs" (topS 70), dN "_law_is_laced" (topS 71), dN "_law_lows" (topS 72), dN "_law_shaken" (topS 73), dN "_law_are_beside" (topS 74), dN "_law_are_first" (topS 75), dN "_law_is_arrow" (topS 76), dN "_law_levels" (topS 77), dN "_law_right" (topS 78), dN "law" (topS 79)]
def fa1 : List He.Fa := [.glo "_law_well", .glo "_law_draw", .glo "_law_pick", .glo "_law_cut", .glo "_law_add", .glo "_law_sub", .glo "_law_mul", .glo "_law_less", .glo "_law_down", .glo "_law_around", .glo "_law_grown", .glo "_law_of_zeros", .glo "_law_poly_less", .glo "_law_bent_poly", .glo "_law_number", .glo "_law_tops", .glo "_law_wide", .glo "_law_between", .glo "_law_same", .glo "_law_is_whole", .glo "_law_is_frac", .glo "_law_are_fracs", .glo "_law_is_laced", .glo "_law_lows", .glo "_law_shaken", .glo "_law_are_beside", .glo "_law_are_first", .glo "_law_is_arrow", .glo "_law_levels", .glo "_law_right", .glo "law"]
def fa2 : List He.Fa := [.free "type", .free "int", .free "tuple", .free "list", .free "str", .free "bool", .free "len", .free "range", .free "abs", .free "isinstance", .free "all", .free "any", .free "sum", .free "enumerate", .free "zip", .free "divmod", .free "max", .free "min", .int "MOST_ROWS" 5, .int "MOST_ROOTS" 6, .int "ABOVE" 0, .int "AT" 1, .int "BELOW" 2]
def fnA : List He.DefD := fn0 ++ fn1
def faA : List He.Fa := fa0 ++ (fa1 ++ fa2)
def tfA : List He.Defn := [("with_more", none), ("counts_along_slant", none), ("is_tied", none), ("are_laced", none), ("arrow_of", none)]
/-- a name of the module holds a pair of whole numbers -/
def pairIn (K : PySem.W.Frag) (p : Addr) (a b : Int) : Bool := (match K.lookup p with
  | some ⟨.type "tuple", _, .seq its _, _⟩ => (match its.toList with
    | [.int i _, .int j _] => decide (i = a) && decide (j = b)
    | _ => false)
  | _ => false)
def tupIn (K : PySem.W.Frag) (x : Str) (a b : Int) : Bool := (match PySem.W.nsIn K mainGlobals x with
  | some (some (.ref p)) => pairIn K p a b
  | _ => false)
theorem tupIn_ok {K : PySem.W.Frag} {x : Str} {a b : Int} (h : tupIn K x a b = true) : ∃ p, PySem.W.nsIn K mainGlobals x = some (some (.ref p)) ∧ ∀ H, SqT K H p [.int a, .int b] := by
  unfold tupIn at h
  split at h
  · rename_i p hp
    refine ⟨p, hp, fun H => ?_⟩
    unfold pairIn at h
    split at h
    · rename_i od its n osl hl
      split at h
      · rename_i i ti j tj hi
        obtain ⟨h1, h2⟩ := He.ba h
        have e1 : i = a := of_decide_eq_true h1
        have e2 : j = b := of_decide_eq_true h2
        subst e1 e2
        have hz : its.size = 2 := by
          have := congrArg List.length hi
          simpa using this
        refine .inr ⟨_, its, n, hl, rfl, rfl, by rw [hz]; show 2 ≤ sizeLine; decide, ?_⟩
        rw [hi]
        exact .cons ⟨ti, rfl⟩ (.cons ⟨tj, rfl⟩ .nil)
      · cases h
    · cases h
  · cases h
def exA (K : PySem.W.Frag) : Bool := (He.eqO (PySem.W.nsIn K mainGlobals "gcd") (some (some (.builtin "math.gcd"))) && (tupIn K "NOUGHT" (0) (1) && (tupIn K "ONE" (1) (1) && true)))
abbrev RR : PySem.W.OpenRow := PySem.W.OpenLaw.row PySem.Challenge.rw_rootsabove_k24_whole_arrows_there_and_ba
abbrev hkR : PySem.W.Hook := He.hookX 2 faA fnA [] tfA exA
def obR (s : PySem.W.SharedT) : He.AlX := He.obsX 2 faA fnA [] tfA exA (HandSHeadRun.getT s)
theorem obR_eq (s : PySem.W.SharedT) : obR s = hkR.obs s.abs := He.obsX_eq (HandSHeadRun.getT_eq s)
abbrev qR : Program := PySem.W.view RR.prog [0, 79]
section
open HandSHeadRun PySem.W PySem
theorem runA (w : World) : (wholeF (fun p => stepQ (denQ tabQ) p w) fenceQ 20000 RR.prog).map (fun x => (looksF RR.prog x.1.heap x.2.abs, seenQ qR loose (importedModules RR.prog.main.body) (fun s => xlAt qR [] s && recOk RR.toRowW.records s) x.2.abs)) = some (true, openGood qR loose) := by
  kernel_rfl
theorem runC (w : World) : (wholeF (fun p => stepQ (denQ tabQ) p w) fenceQ 20000 RR.prog).map (fun x => obR x.2) = some (hkR.val w) := by
  kernel_rfl
theorem runR (w : World) : RunEqI RR qR hkR obR 20000 loose w := by
  have h1 := runA w
  have h2 := runC w
  delta RunEqI
  generalize wholeF (fun p => stepQ (denQ tabQ) p w) fenceQ 20000 RR.prog = o at h1 h2 ⊢
  cases o with
  | none => cases h1
  | some x =>
    have e1 := congrArg Prod.fst (Option.some.inj h1)
    have e2 := congrArg Prod.snd (Option.some.inj h1)
    have e3 := Option.some.inj h2
    exact congrArg some (Prod.ext e1 (Prod.ext e2 e3))
end
end V3
namespace V3
open PySem PySem.Spec PyProof.Rows L2 RZ GxR
section
variable {w : World} {K : PySem.W.Frag} {h : Heap} {mg : Str → Option Value}
theorem atR (X : K.In h) (G : h.Ns mainGlobals mg) (c : He.SaysD faA fnA K) (i : Nat) (x : Str) (st : Stmt) (h1 : fnA[i]? = some (dN x st)) (h2 : faA[i]? = some (.glo x)) : At K mg x st := by
  obtain ⟨fd, F⟩ := c.def_ i (d := dN x st) h1
  have g := He.glo_ok X G (c.fact i (f := .glo x) h2)
  obtain ⟨oc, od, dV, kV, doc, pm, an, cdv, ct, osl, e, lk, cd, dv, kv⟩ := F.ex
  rcases dv with ⟨_, e2⟩ | ⟨e2, _⟩
  · subst e2
    exact ⟨⟨_, _, g, ⟨⟨oc, od, kV, doc, pm, an, cdv, ct, osl, e, lk, cd⟩, F.kp⟩⟩⟩
  · exact absurd rfl e2
theorem atCR (X : K.In h) (G : h.Ns mainGlobals mg) (c : He.SaysD faA fnA K) (i : Nat) (x : Str) (st : Stmt) (h1 : fnA[i]? = some (dN x st)) (h2 : faA[i]? = some (.glo x)) : AtC K mg x st (He.cT K (x, none)).1 := by
  obtain ⟨fd, F⟩ := c.def_ i (d := dN x st) h1
  have g := He.glo_ok X G (c.fact i (f := .glo x) h2)
  obtain ⟨oc, od, dV, kV, doc, pm, an, cdv, ct, osl, e, lk, cd, dv, kv⟩ := F.ex
  obtain ⟨cc, rfl⟩ := He.codeIn_ref cd
  have ec : He.codeOf K (x, none) = cc := He.codeOf_eq lk (by rw [e])
  rcases dv with ⟨_, e2⟩ | ⟨e2, _⟩
  · subst e2
    subst e
    have e3 : (He.cT K (x, none)).1 = cc := ec
    rw [e3]
    exact ⟨⟨_, oc, od, kV, doc, pm, an, ct, osl, g, lk, cd, F.kp⟩⟩
  · exact absurd rfl e2
theorem gsR (X : K.In h) (G : h.Ns mainGlobals mg) (c : He.SaysD faA fnA K) (ex : exA K = true) : Gs K mg := by
  obtain ⟨e1, ex⟩ := He.ba ex
  obtain ⟨e2, ex⟩ := He.ba ex
  obtain ⟨e3, ex⟩ := He.ba ex
  obtain ⟨p1, g1, t1⟩ := tupIn_ok e2
  obtain ⟨p2, g2, t2⟩ := tupIn_ok e3
  refine ⟨PySem.W.mg_of X G (He.eqO_ok e1), ⟨p1, PySem.W.mg_of X G g1, t1⟩, ⟨p2, PySem.W.mg_of X G g2, t2⟩, He.int_ok X G (c.fact 79 (f := .int "MOST_ROWS" 5) rfl), He.int_ok X G (c.fact 80 (f := .int "MOST_ROOTS" 6) rfl), He.int_ok X G (c.fact 81 (f := .int "ABOVE" 0) rfl), He.int_ok X G (c.fact 82 (f := .int "AT" 1) rfl), He.int_ok X G (c.fact 83 (f := .int "BELOW" 2) rfl), He.free_ok X G (c.fact 61 (f := .free "type") rfl), He.free_ok X G (c.fact 62 (f := .free "int") rfl), He.free_ok X G (c.fact 63 (f := .free "tuple") rfl), He.free_ok X G (c.fact 64 (f := .free "list") rfl), He.free_ok X G (c.fact 65 (f := .free "str") rfl), He.free_ok X G (c.fact 66 (f := .free "bool") rfl), He.free_ok X G (c.fact 67 (f := .free "len") rfl), He.free_ok X G (c.fact 68 (f := .free "range") rfl), He.free_ok X G (c.fact 69 (f := .free "abs") rfl), He.free_ok X G (c.fact 70 (f := .free "isinstance") rfl), He.free_ok X G (c.fact 71 (f := .free "all") rfl), He.free_ok X G (c.fact 72 (f := .free "any") rfl), He.free_ok X G (c.fact 73 (f := .free "sum") rfl), He.free_ok X G (c.fact 74 (f := .free "enumerate") rfl), He.free_ok X G (c.fact 75 (f := .free "zip") rfl), He.free_ok X G (c.fact 76 (f := .free "divmod") rfl), He.free_ok X G (c.fact 77 (f := .free "max") rfl), He.free_ok X G (c.fact 78 (f := .free "min") rfl)⟩
end
def tabsA (K : PySem.W.Frag) : List Addr := (tfA.map (He.cT K)).map Prod.snd
theorem lawR {P : Program} {w : World} {K : PySem.W.Frag} {h base : Heap} {mg : Str → Option Value} (X : K.In h) (G : h.Ns mainGlobals mg) (c : He.SaysD faA fnA K) (ex : exA K = true)
    (TB : ∀ p ∈ tfA.map (He.cT K), TabB base mg p.1 p.2) : Df P w K mg base "law" 10 ["script"] (spLaw K (tabsA K)) := by
  have T := gsR X G c ex
  have TB1 : TabB base mg (He.cT K ("with_more", none)).1 (He.cT K ("with_more", none)).2 := TB _ List.mem_cons_self
  have m1 : (He.cT K ("with_more", none)).2 ∈ tabsA K := List.mem_cons_self
  have TB2 : TabB base mg (He.cT K ("counts_along_slant", none)).1 (He.cT K ("counts_along_slant", none)).2 := TB _ (List.mem_cons_of_mem _ List.mem_cons_self)
  have m2 : (He.cT K ("counts_along_slant", none)).2 ∈ tabsA K := (List.mem_cons_of_mem _ List.mem_cons_self)
  have TB3 : TabB base mg (He.cT K ("is_tied", none)).1 (He.cT K ("is_tied", none)).2 := TB _ (List.mem_cons_of_mem _ (List.mem_cons_of_mem _ List.mem_cons_self))
  have m3 : (He.cT K ("is_tied", none)).2 ∈ tabsA K := (List.mem_cons_of_mem _ (List.mem_cons_of_mem _ List.mem_cons_self))
  have TB4 : TabB base mg (He.cT K ("are_laced", none)).1 (He.cT K ("are_laced", none)).2 := TB _ (List.mem_cons_of_mem _ (List.mem_cons_of_mem _ (List.mem_cons_of_mem _ List.mem_cons_self)))
  have m4 : (He.cT K ("are_laced", none)).2 ∈ tabsA K := (List.mem_cons_of_mem _ (List.mem_cons_of_mem _ (List.mem_cons_of_mem _ List.mem_cons_self)))
  have TB5 : TabB base mg (He.cT K ("arrow_of", none)).1 (He.cT K ("arrow_of", none)).2 := TB _ (List.mem_cons_of_mem _ (List.mem_cons_of_mem _ (List.mem_cons_of_mem _ (List.mem_cons_of_mem _ List.mem_cons_self))))
  have m5 : (He.cT K ("arrow_of", none)).2 ∈ tabsA K := (List.mem_cons_of_mem _ (List.mem_cons_of_mem _ (List.mem_cons_of_mem _ (List.mem_cons_of_mem _ List.mem_cons_self))))
  have d_fraction := ok_fraction (P := P) (w := w) (base := base) (K := K) T (atR X G c 0 "fraction" (topS 10) rfl rfl)
  have w_plus := ok_plus (P := P) (w := w) (base := base) (K := K) d_fraction (atR X G c 1 "plus" (topS 11) rfl rfl)
  have d_plus := w_plus.imp w_of
  have w_minus := ok_minus (P := P) (w := w) (base := base) (K := K) d_fraction (atR X G c 2 "minus" (topS 12) rfl rfl)
  have d_minus := w_minus.imp w_of
  have w_times := ok_times (P := P) (w := w) (base := base) (K := K) d_fraction (atR X G c 3 "times" (topS 13) rfl rfl)
  have d_times := w_times.imp w_of
  have w_over := ok_over (P := P) (w := w) (base := base) (K := K) d_fraction (atR X G c 4 "over" (topS 14) rfl rfl)
  have d_over := w_over.imp q_of
  have d_opposite_of := ok_opposite_of (P := P) (w := w) (base := base) (K := K)  (atR X G c 5 "opposite_of" (topS 15) rfl rfl)
  have d_is_above := ok_is_above (P := P) (w := w) (base := base) (K := K)  (atR X G c 6 "is_above" (topS 16) rfl rfl)
  have d_is_whole := ok_is_whole (P := P) (w := w) (base := base) (K := K) T (atR X G c 7 "is_whole" (topS 20) rfl rfl)
  have d_is_tuple_of := ok_is_tuple_of (P := P) (w := w) (base := base) (K := K) T (atR X G c 8 "is_tuple_of" (topS 21) rfl rfl)
  have d_is_fraction := ok_is_fraction (P := P) (w := w) (base := base) (K := K) T d_is_whole d_is_tuple_of (atR X G c 9 "is_fraction" (topS 22) rfl rfl)
  have d_check_roots_of := ok_check_roots_of (P := P) (w := w) (base := base) (K := K) T d_is_fraction d_is_above (atR X G c 16 "check_roots_of" (topS 29) rfl rfl)
  have d_check_roots := ok_check_roots (P := P) (w := w) (base := base) (K := K) T d_check_roots_of (atR X G c 15 "check_roots" (topS 28) rfl rfl)
  have d_check_one_fewer := ok_check_one_fewer (P := P) (w := w) (base := base) (K := K) T d_check_roots d_check_roots_of (atR X G c 21 "check_one_fewer" (topS 39) rfl rfl)
  have d_side_of := ok_side_of (P := P) (w := w) (base := base) (K := K) T (atR X G c 17 "side_of" (topS 34) rfl rfl)
  have d_product_beside := ok_product_beside (P := P) (w := w) (base := base) (K := K) T d_times d_minus (atR X G c 24 "product_beside" (topS 42) rfl rfl)
  have d_left_of := ok_left_of (P := P) (w := w) (base := base) (K := K) T (atR X G c 23 "left_of" (topS 41) rfl rfl)
  have d_squares_beside := ok_squares_beside (P := P) (w := w) (base := base) (K := K) T d_left_of d_over d_product_beside (atR X G c 22 "squares_beside" (topS 40) rfl rfl)
  have d_check_fraction := ok_check_fraction (P := P) (w := w) (base := base) (K := K) T d_is_fraction (atR X G c 11 "check_fraction" (topS 24) rfl rfl)
  have d_first_unlike_fraction := ok_first_unlike_fraction (P := P) (w := w) (base := base) (K := K) T d_is_fraction (atR X G c 10 "first_unlike_fraction" (topS 23) rfl rfl)
  have d_check_row := ok_check_row (P := P) (w := w) (base := base) (K := K) T d_is_tuple_of d_first_unlike_fraction (atR X G c 12 "check_row" (topS 25) rfl rfl)
  have d_check_squares := ok_check_squares (P := P) (w := w) (base := base) (K := K) T d_is_tuple_of d_is_fraction (atR X G c 14 "check_squares" (topS 27) rfl rfl)
  have d_check_row_up_to := ok_check_row_up_to (P := P) (w := w) (base := base) (K := K) T d_check_row (atR X G c 13 "check_row_up_to" (topS 26) rfl rfl)
  have d_check_beside := ok_check_beside (P := P) (w := w) (base := base) (K := K) T d_check_row_up_to d_check_squares (atR X G c 25 "check_beside" (topS 43) rfl rfl)
  have d_with_more := ok_with_more (P := P) (w := w) (base := base) (K := K) T TB1 (atCR X G c 18 "with_more" (topS 35) rfl rfl)
  have d_counts_along_slant := ok_counts_along_slant (P := P) (w := w) (base := base) (K := K) T TB2 d_is_above (atCR X G c 27 "counts_along_slant" (topS 45) rfl rfl)
  have d_is_tied := ok_is_tied (P := P) (w := w) (base := base) (K := K) T TB3 (atCR X G c 28 "is_tied" (topS 46) rfl rfl)
  have d_are_laced := ok_are_laced (P := P) (w := w) (base := base) (K := K) T TB4 d_is_above (atCR X G c 19 "are_laced" (topS 37) rfl rfl)
  have d_arrow_of := ok_arrow_of (P := P) (w := w) (base := base) (K := K) T m4 m5 TB5 d_check_one_fewer d_are_laced d_opposite_of d_squares_beside w_plus w_minus (atCR X G c 20 "arrow_of" (topS 38) rfl rfl)
  have k_arrow_of := d_arrow_of.kw (atR X G c 20 "arrow_of" (topS 38) rfl rfl) (fun _ _ _ _ _ _ _ _ => rfl)
  have d_sum_over := ok_sum_over (P := P) (w := w) (base := base) (K := K) T w_plus w_over w_minus (atR X G c 29 "sum_over" (topS 47) rfl rfl)
  have d_arrow_counts := ok_arrow_counts (P := P) (w := w) (base := base) (K := K) T m2 m3 m1 d_check_beside d_check_fraction d_counts_along_slant d_is_tied d_with_more d_side_of w_minus d_sum_over (atR X G c 26 "arrow_counts" (topS 44) rfl rfl)
  have d__law_draw := ok_draw (P := P) (w := w) (base := base) (K := K) T (atR X G c 31 "_law_draw" (topS 50) rfl rfl)
  have d__law_well := ok_well (P := P) (w := w) (base := base) (K := K) T (atR X G c 30 "_law_well" (topS 49) rfl rfl)
  have d__law_pick := ok_pick (P := P) (w := w) (base := base) (K := K) T d__law_draw (atR X G c 32 "_law_pick" (topS 51) rfl rfl)
  have d__law_cut := ok_cut (P := P) (w := w) (base := base) (K := K) T (atR X G c 33 "_law_cut" (topS 52) rfl rfl)
  have w_ladd := ok_law_add (P := P) (w := w) (base := base) (K := K) d__law_cut (atR X G c 34 "_law_add" (topS 53) rfl rfl)
  have d__law_add := w_ladd.imp w_of
  have w_lsub := ok_law_sub (P := P) (w := w) (base := base) (K := K) d__law_cut (atR X G c 35 "_law_sub" (topS 54) rfl rfl)
  have d__law_sub := w_lsub.imp w_of
  have w_lmul := ok_law_mul (P := P) (w := w) (base := base) (K := K) d__law_cut (atR X G c 36 "_law_mul" (topS 55) rfl rfl)
  have d__law_mul := w_lmul.imp w_of
  have d__law_less := ok_law_less (P := P) (w := w) (base := base) (K := K)  (atR X G c 37 "_law_less" (topS 56) rfl rfl)
  have d__law_down := ok_down (P := P) (w := w) (base := base) (K := K) T d__law_less (atR X G c 38 "_law_down" (topS 57) rfl rfl)
  have d__law_number := ok_number (P := P) (w := w) (base := base) (K := K) T d__law_draw d__law_cut (atR X G c 44 "_law_number" (topS 63) rfl rfl)
  have d__law_tops := ok_tops (P := P) (w := w) (base := base) (K := K) T d__law_draw d__law_number d__law_down (atR X G c 45 "_law_tops" (topS 64) rfl rfl)
  have d__law_same : ∀ n : Nat, Df P w K mg base "_law_same" (n + 1) ["told", "due"] (spSame K n) := ok_same T (atR X G c 48 "_law_same" (topS 67) rfl rfl)
  have d__law_is_whole := ok_lwhole (P := P) (w := w) (base := base) (K := K) T (atR X G c 49 "_law_is_whole" (topS 68) rfl rfl)
  have d__law_is_frac := ok_lfrac (P := P) (w := w) (base := base) (K := K) T d__law_is_whole d__law_cut (d__law_same 2) (atR X G c 50 "_law_is_frac" (topS 69) rfl rfl)
  have d__law_between := ok_lbetween (P := P) (w := w) (base := base) (K := K) T d__law_draw d__law_cut d__law_add d__law_sub d__law_mul (atR X G c 47 "_law_between" (topS 66) rfl rfl)
  have d__law_are_fracs := ok_are_fracs (P := P) (w := w) (base := base) (K := K) T d__law_is_frac (atR X G c 51 "_law_are_fracs" (topS 70) rfl rfl)
  have d__law_is_laced := ok_llaced (P := P) (w := w) (base := base) (K := K) T d__law_less (atR X G c 52 "_law_is_laced" (topS 71) rfl rfl)
  have d__law_shaken := ok_shaken (P := P) (w := w) (base := base) (K := K) T d__law_draw d__law_pick d__law_number d__law_add d__law_down (atR X G c 54 "_law_shaken" (topS 73) rfl rfl)
  have d__law_wide := ok_wide (P := P) (w := w) (base := base) (K := K) T d__law_pick (atR X G c 46 "_law_wide" (topS 65) rfl rfl)
  have d__law_levels := ok_levels (P := P) (w := w) (base := base) (K := K) T d__law_pick d__law_number (atR X G c 58 "_law_levels" (topS 77) rfl rfl)
  have d__law_are_beside := ok_lbeside (P := P) (w := w) (base := base) (K := K) T d__law_are_fracs (atR X G c 55 "_law_are_beside" (topS 74) rfl rfl)
  have d__law_are_first := ok_first (P := P) (w := w) (base := base) (K := K) T (atR X G c 56 "_law_are_first" (topS 75) rfl rfl)
  have d__law_lows := ok_lows (P := P) (w := w) (base := base) (K := K) T d__law_between d__law_down (atR X G c 53 "_law_lows" (topS 72) rfl rfl)
  have d__law_around := ok_around (P := P) (w := w) (base := base) (K := K) T d__law_less (atR X G c 39 "_law_around" (topS 58) rfl rfl)
  have d__law_grown := ok_grown (P := P) (w := w) (base := base) (K := K) T w_lsub w_lmul (atR X G c 40 "_law_grown" (topS 59) rfl rfl)
  have d__law_poly_less := ok_pless (P := P) (w := w) (base := base) (K := K) T w_lsub w_lmul (atR X G c 42 "_law_poly_less" (topS 61) rfl rfl)
  have d__law_of_zeros := ok_ofz (P := P) (w := w) (base := base) (K := K) T d__law_grown (atR X G c 41 "_law_of_zeros" (topS 60) rfl rfl)
  have d__law_bent_poly := ok_bent (P := P) (w := w) (base := base) (K := K) T d__law_of_zeros w_lmul d__law_poly_less (atR X G c 43 "_law_bent_poly" (topS 62) rfl rfl)
  have d__law_is_arrow := ok_isarrow (P := P) (w := w) (base := base) (K := K) T d__law_are_beside d__law_is_frac d__law_bent_poly d__law_of_zeros (atR X G c 57 "_law_is_arrow" (topS 76) rfl rfl)
  have d__law_right := ok_right (P := P) (w := w) (base := base) (K := K) T d__law_draw d__law_wide d__law_tops d__law_lows d__law_shaken d__law_is_laced d__law_is_arrow d__law_are_first (d__law_same 4) d_arrow_of k_arrow_of d__law_levels (d__law_same 2) d_arrow_counts d__law_around (atR X G c 59 "_law_right" (topS 78) rfl rfl)
  exact ok_law T d__law_well d__law_right (atR X G c 60 "law" (topS 79) rfl rfl)
theorem factsR {w : World} {K : PySem.W.Frag} {h : Heap} {mg : Str → Option Value} {fa : Addr} (X : K.In h) (G : h.Ns mainGlobals mg) (hfa : mg ("law" : Str) = some (.ref fa)) (c : He.SaysX faA fnA [] tfA exA w h K) :
    LamX.LawAtS PySem.Challenge.rw_rootsabove_k24_whole_arrows_there_and_ba w K CX0 10 63 "script" mg fa h := by
  have cd := c.t.d
  have aL := atR X G cd 60 "law" (topS 79) rfl rfl
  obtain ⟨f, fd, g, F⟩ := aL.ex
  rw [hfa] at g
  cases g
  obtain ⟨oc, od, kV, doc, pm, an, cdv, ct, osl, e, lk, _⟩ := id F.ex
  refine ⟨fd, tfA.map (He.cT K), spLaw K (tabsA K), fun p hp => ?_, fun p hp => ?_, fun p hp => ?_, fun s u => ?_, fun H a ns hl _ hT hS => ?_, fun base kb gb TB => ?_⟩
  · obtain ⟨d, hd, rfl⟩ := List.mem_map.mp hp
    exact c.empty d hd
  · obtain ⟨d, hd, rfl⟩ := List.mem_map.mp hp
    exact c.out d hd
  · obtain ⟨d, hd, rfl⟩ := List.mem_map.mp hp
    exact PySem.W.codeHd_of_K X (c.hd d hd)
  · subst e
    exact .of_eq rfl
  · refine ⟨a, ns, rfl, hS, fun p hp => ?_, fun _ => rfl⟩
    obtain ⟨d, hd, rfl⟩ := List.mem_map.mp hp
    exact ⟨#[], hT d hd, trivial⟩
  · obtain ⟨f', fd', g', kp, b, G', oc', od', osl', lk'⟩ := (lawR (P := PySem.Challenge.rw_rootsabove_k24_whole_arrows_there_and_ba.prog) (w := w) (base := base) X G cd c.more (fun p hp => ⟨(TB p hp).code, (TB p hp).bm, (TB p hp).gP⟩)).ex
    rw [hfa] at g'
    cases g'
    rw [lk] at lk'
    cases lk'
    exact G'
end V3
open PySem.W PySem PyProof.Rows PySem.Calls
theorem PySem.Challenge.cw_rootsabove_k24_whole_arrows_there_and_ba_holds : PySem.Challenge.rw_rootsabove_k24_whole_arrows_there_and_ba.Holds := by
  w_on; o_law
  refine HandSHeadRun.head_imp (r := V3.RR) (q := V3.qR) (H := V3.hkR) (ob := V3.obR) (M := 20000) (loose := V3.loose) (d := HandSHeadRun.topDef V3.RR.prog 79) (kwd := []) V3.obR_eq V3.runR (by kernel_rfl) (by kernel_rfl) (by kernel_rfl) (by rfl) (by first | assumption | decide +kernel) (by decide +kernel) ⟨rfl, rfl, rfl, rfl, rfl, by decide +kernel⟩ ?hw ?hc
  case hw => w_witness2
  case hc =>
    refine LamX.walk_ofTsE (l := PySem.Challenge.rw_rootsabove_k24_whole_arrows_there_and_ba) (n := 63) (k := 10) (x := "script") (CX := fun _ => L2.CX0) rfl (by decide) (by kernel_rfl) ⟨rfl, by decide, by decide⟩ ?F (fun _ _ _ _ _ z => z)
    intro w mg fa h Y G hmg0
    obtain ⟨K, KX, c⟩ := Y
    have hlaw : mg ("law" : PySem.Str) = some (.ref fa) := by
      have e : (HandSHeadRun.topDef V3.RR.prog 79).name = ("law" : PySem.Str) := by kernel_rfl
      rw [← e]
      exact hmg0
    exact ⟨K, KX, V3.factsR KX G hlaw c⟩
