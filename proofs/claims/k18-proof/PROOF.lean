import PyProof.Rows.All
import Wide.All
import OpenK.AllK
import Wide.FinOn
import PySem.Challenge.RW_rootsabove_k18_whole_surely_within
import HandS.ForMost
import HandS.Wide
import HandS.WideBits
import HandS.Gcd
import HandS.More
import HandS.IsInst
import HandS.Zip
import HandS.SortKw
import HandS.NoneIn
import HandS.Style
import KE.GoesEnum
import HandS.AnyAll
import HandS.Conv
import KE.KEqDeep
import HandS.GenOver
import HandS.Comp
import HandS.Words
import HandS.Dict
import HandS.TupAny
import HandS.RaiseMore
import PyProof.NeKinds
import HandS.EndTab
import HandS.HeadWalk
import PyProof.Rows.NestShow
import PyProof.SumAny
import PyProof.TupleOfGen
import KE.DataFind
import HandS.SetFor
import HandS.Deep
import PyProof.WalksS
import PyProof.WalkInts
import PyProof.SeqI3
import KE.KStar
import KE.KStateDown
import HandS.Defaults
import HandS.Head0
import HandS.Head1
import HandS.Head2
import HandS.Head3
import HandS.HeadEnd
import HandS.HeadHook1
import HandS.HeadHook2
import HandS.HeadHook3
import HandS.HeadHook4
import HandS.NestedK
set_option Elab.async false
set_option linter.all false
set_option maxRecDepth 100000
set_option maxHeartbeats 2100000
/-! Words of this verifier's own over the hand layer: data that lasts, a def by its name, enumerate of a tuple, lcm. -/
namespace V3
open PySem.Spec PySem L2 PyProof.Rows

/-! ### what stands, stands -/
theorem sameT {K : PySem.W.Frag} {H H' : Hp} {a : Addr} {xs : List V} (e : Same H H') (h : SqT K H a xs) : SqT K H' a xs := by
  (rcases h with (h | ⟨o, h⟩) | h)
  · exact .inl (.inl (e _ _ h))
  · (exact .inl (.inr ⟨o, e _ _ h⟩))
  · exact .inr h
theorem same_upd {o : HO} {p : Addr} {H : Hp} (new : H p = none) : Same H (upd H p o) := fun at_ it stood => by
  rw [upd_ne (ne_of_none stood new)]
  exact stood
mutual
theorem Dp.same {K : PySem.W.Frag} {H H' : Hp} (e : Same H H') : ∀ {v : V} {d : PyData}, Dp K H v d → Dp K H' v d
  | _, _, .non => .non
  | _, _, .bl b => .bl b
  | _, _, .int i => .int i
  | _, _, .str x => .str x
  | _, _, .lst h a => .lst (e.seq h) (DpAll.same e a)
  | _, _, .tup h a => .tup (sameT e h) (DpAll.same e a)
theorem DpAll.same {K : PySem.W.Frag} {H H' : Hp} (e : Same H H') : ∀ {vs : List V} {ds : List PyData}, DpAll K H vs ds → DpAll K H' vs ds
  | _, _, .nil => .nil
  | _, _, .cons a b => .cons (Dp.same e a) (DpAll.same e b)
end

/-! ### a def by its name -/
structure At (K : PySem.W.Frag) (mg : Str → Option Value) (x : Str) (st : Stmt) : Prop where
  ex : ∃ (f : Addr) (fd : FuncData), mg x = some (.ref f) ∧ Fun K x x st f fd
structure Df (P : Program) (w : World) (K : PySem.W.Frag) (mg : Str → Option Value) (base : Heap) (x : Str) (k : Nat) (ps : List Str) (sp : Sp) : Prop where
  ex : ∃ (f : Addr) (fd : FuncData), mg x = some (.ref f) ∧ PySem.W.keepIn K (.ref f) = true ∧ Binds K fd ps [] ∧ FnOk P w K mg base CX0 k f fd ps sp ∧ ∃ (oc : Value) (od : Option Addr) (osl : Array (Option Value)), K.lookup f = some ⟨oc, od, .func fd, osl⟩
def tFn (sp : Sp) (t : TA) : TE := fun σ H Q => t σ H fun vs H1 => sp vs H1 Q E0
section
variable {X : Cx}
theorem pe_fn {x : Str} {p pos : Pos} {e : Expr} {es : List Expr} {t : TA} {k k0 : Nat} {ps : List Str} {sp : Sp} (D : Df X.prog X.w X.K X.mg X.base x k ps sp) (hk : k ≤ k0) (hr : Room k0 X.A) (ha : PA X (e :: es) t)
    (hg : Gl X x := by rfl) (hdb : (x == ("__debug__" : Str)) = false := by decide) (he : starEach (e :: es) X.env = (false, eval e X.env) :: starEach es X.env := by rfl) (hpl : (backTo pos (starEach es X.env)).any (·.1) = false := by rfl) :
    PE X (.Call (.Name x p) (e :: es) [] pos) (tFn sp t) := by
  obtain ⟨f, fd, g, kp, b, G, _⟩ := D.ex
  have h := pe_call (pos := pos) (p := p) G (hr.mono hk) hg g kp b .nil pass0 ha hdb he hpl
  refine ⟨fun pins s σ H Q I q => h.run pins s σ H Q I ?_⟩
  show t σ H fun vs H1 => sp (vs ++ []) H1 Q E0
  have e0 : (fun vs H1 => sp (vs ++ []) H1 Q E0) = fun vs H1 => sp vs H1 Q E0 := by
    funext vs H1
    rw [List.append_nil]
  rw [e0]
  exact q
end
section
variable {mg : Str → Option Value} {base : Heap} {K : PySem.W.Frag} {P : Program} {w : World}
theorem Df.mk' {x : Str} {st : Stmt} {N ps : List Str} {k : Nat} {sp : Sp} (F : At K mg x st) (S : FnScope N ps (defScope st)) (len : ∀ vs H Q E, sp vs H Q E → vs.length = ps.length)
    (hb : ∀ (kV doc pm : Value) (an : Option Addr) (cdv ct : Value) (us : List Value), us.length = ps.length → bindArgs (PySem.W.fnOf x x (defArgs st) (defBody st) (defScope st) .none kV doc pm an cdv ct) ⟨us, []⟩ = pure (ps.zip us))
    (hbody : ∀ (f : Addr) (cdv : Value) (A : Around) (outer : List Env) (s : Shared) (H : Hp) (vs : List V) (Q : VK) (E : XK), Room k (A.deeper (envOfC x (defScope st) s.heap.objs.size f cdv)) → sp vs H Q E →
      ∃ t, PSs (cxOf CX0 P w K mg base N x (defScope st) f cdv A outer s H E).nox (defBody st) t ∧ t { nx := fun _ H' => Q .non H', rt := Q } (start N vs) H) : Df P w K mg base x (k + 1) ps sp := by
  obtain ⟨f, fd, g, F⟩ := F.ex
  refine ⟨f, fd, g, F.kp, F.binds hb, F.ok S len fun cdv A outer s H vs Q E hr h => hbody f cdv A outer s H vs Q E hr h, ?_⟩
  obtain ⟨oc, od, kV, doc, pm, an, cdv, ct, osl, e, lk, _⟩ := F.ex
  exact ⟨oc, od, osl, lk⟩
theorem Df.mono {x : Str} {ps : List Str} {j k : Nat} {sp : Sp} (D : Df P w K mg base x j ps sp) (h : j ≤ k) : Df P w K mg base x k ps sp := by
  obtain ⟨f, fd, g, kp, b, G, l⟩ := D.ex
  exact ⟨f, fd, g, kp, b, G.mono h, l⟩
theorem Df.imp {x : Str} {ps : List Str} {k : Nat} {sp sp' : Sp} (D : Df P w K mg base x k ps sp) (h : ∀ vs H Q E, sp' vs H Q E → sp vs H Q E) : Df P w K mg base x k ps sp' := by
  obtain ⟨f, fd, g, kp, b, G, l⟩ := D.ex
  exact ⟨f, fd, g, kp, b, G.imp h, l⟩
end

/-! ### two keywords, the last parameter first -/
structure DfK (P : Program) (w : World) (K : PySem.W.Frag) (mg : Str → Option Value) (base : Heap) (x : Str) (k : Nat) (p1 p2 : Str) (sp : Sp) : Prop where
  ex : ∃ (f : Addr) (fd : FuncData), mg x = some (.ref f) ∧ PySem.W.keepIn K (.ref f) = true ∧ KBinds K fd [p1, p2] [p2, p1] (fun us ws => us ++ us ++ us ++ ws.reverse) (fun us ws => us ++ us ++ us ++ ws.reverse) ∧ FnOk P w K mg base CX0 k f fd [p1, p2] sp
theorem Vals.rev : ∀ {zs : List V} {ws : List Value}, Vals zs ws → Vals zs.reverse ws.reverse := fun {zs ws} h => by
  induction h with
  | nil => exact .nil
  | cons a b ih =>
    (rw [List.reverse_cons, List.reverse_cons])
    exact ih.append (.cons a .nil)
theorem Df.kw {P : Program} {w : World} {K : PySem.W.Frag} {mg : Str → Option Value} {base : Heap} {x p1 p2 : Str} {st : Stmt} {k : Nat} {sp : Sp} (D : Df P w K mg base x k [p1, p2] sp) (F : At K mg x st)
    (hb : ∀ (kV doc pm : Value) (an : Option Addr) (cdv ct : Value) (u1 u2 : Value), bindArgs (PySem.W.fnOf x x (defArgs st) (defBody st) (defScope st) .none kV doc pm an cdv ct) ⟨[], [(p2, u2), (p1, u1)]⟩ = pure [(p1, u1), (p2, u2)]) : DfK P w K mg base x k p1 p2 sp := by
  obtain ⟨f, fd, g, kp, b, G, oc, od, osl, lk⟩ := D.ex
  obtain ⟨f', fd', g', F'⟩ := F.ex
  rw [g] at g'
  cases g'
  obtain ⟨oc', od', kV, doc, pm, an, cdv, ct, osl', e, lk', _⟩ := F'.ex
  rw [lk] at lk'
  cases lk'
  refine ⟨f, fd, g, kp, ⟨fun s us ws hk hl => ?_, fun r1 r2 => ((r1.append r1).append r1).append (Vals.rev r2)⟩, G⟩
  simp only [List.length_append, List.length_reverse, List.length_cons, List.length_nil] at hl
  have hu : us = [] := by
    cases us with
    | nil => rfl
    | cons a r =>
      simp only [List.length_cons] at hl
      omega
  subst hu
  match ws, hl with
  | [u2, u1], _ =>
    subst e
    exact .of_eq (hb kV doc pm an cdv ct u1 u2)
def tFnK (sp : Sp) (tk : TA) : TE := fun σ H Q => tk σ H fun zs H1 => sp zs.reverse H1 Q E0
theorem pe_fnK {X : Cx} {x p1 p2 : Str} {p pos : Pos} {kws : List Keyword} {tk : TA} {k k0 : Nat} {sp : Sp} (D : DfK X.prog X.w X.K X.mg X.base x k p1 p2 sp) (hk0 : k ≤ k0) (hr : Room k0 X.A) (hkw : PK X kws tk)
    (hg : Gl X x := by rfl) (hdb : (x == ("__debug__" : Str)) = false := by decide) (hall : (backToKw pos (keywordEach kws X.env)).all (·.1.isSome) = true := by rfl) (hks : (backToKw pos (keywordEach kws X.env)).filterMap (·.1) = [p2, p1] := by rfl)
    (plain : ((backTo pos (starEach [] X.env)).any (·.1) || (backToKw pos (keywordEach kws X.env)).any (·.1.isNone)) = false := by rfl) :
    PE X (.Call (.Name x p) [] kws pos) (tFnK sp tk) := by
  obtain ⟨f, fd, hm, hk, hb, F⟩ := D.ex
  (refine ⟨fun pins s σ H Q I h => ?_⟩)
  (refine wpAny_Call_Name_kw (ld_glob I hg hm ?_ hdb))
  refine PySem.W.callWith_KW0 (h₀ := X.base) I.ok.mod.kin hk hall (thn (hkw.run pos pins s σ H _ I h) fun ws s2 ⟨zs, H2, I2, rz, q2⟩ => ⟨I2.kIn, ?_⟩) plain
  rw [hks]
  exact run_fnk (us := []) (vs := []) F (hr.mono hk0) hb pass0 I2 .nil rz q2

/-! ### math.lcm -/
def rLcm : List V → Hp → VK → Prop := fun vs H Q => ∃ a b : Int, vs = [.int a, .int b] ∧ a.natAbs < 2 ^ 9000 ∧ b.natAbs < 2 ^ 9000 ∧ Q (.int ((Nat.lcm a.natAbs b.natAbs : Nat) : Int)) H
theorem lcm_log {a : Int} (h : a.natAbs < 2 ^ 9000) (c : Nat) (hc : c < 2 ^ 9000) : ¬ (max c a.natAbs).log2 / 30 + 1 > 450 := by
  have h1 : max c a.natAbs < 2 ^ 9000 := by omega
  have h2 := PySem.Flt.log2_lt_of (k := 9000) (by decide) h1
  omega
theorem cr_lcm {X : Cx} : CallR X (.builtin "math.lcm") rLcm := by
  (intro pins s σ H vs us Q I r h)
  obtain ⟨a, b, rfl, ha, hb, q⟩ := h
  (obtain ⟨t, u, rfl⟩ := Vals.int2 r)
  have hz : ((((Nat.lcm 1 a.natAbs).lcm b.natAbs : Nat) : Int)).natAbs.log2 < bitsLine := by
    rw [Nat.lcm_one_left]
    have h1 : a.natAbs.lcm b.natAbs ≤ a.natAbs * b.natAbs := by
      unfold Nat.lcm
      exact Nat.div_le_self _ _
    have h2 : a.natAbs * b.natAbs < 2 ^ 18000 := by
      rw [show (18000 : Nat) = 9000 + 9000 by rfl, Nat.pow_add]
      exact Nat.mul_lt_mul'' ha hb
    have h3 := PySem.Flt.log2_lt_of (k := 18000) (by decide) (Nat.lt_of_le_of_lt h1 h2)
    (have e : bitsLine = 134217728 := by decide)
    rw [Int.natAbs_natCast]
    omega
  have g := PySem.W.mg_run_lcm a t b u (lcm_log ha 1 (by exact Nat.one_lt_two_pow (by decide))) (lcm_log hb _ ha) hz
  have g2 := call_function_meets PySem.W.MGF.kind_lcm PySem.W.MGF.plain_lcm PySem.W.MGF.entry_lcm (PySem.W.MGF.args_lcm (.int a t) (.int b u)) g.meets (prog := X.prog) (w := X.w) (A := X.A) (E := X.xe) (s := s) (Q := EP X pins σ Q)
  refine g2 ⟨.int _, H, I.tok _, ⟨_, rfl⟩, ?_⟩
  rw [Nat.lcm_one_left]
  exact q
end V3
namespace V3
open PySem.Spec PySem L2 PyProof.Rows
theorem ifT {b : Bool} {A B : Prop} (h : b = true) (a : A) : if b = true then A else B := by
  rw [if_pos h]
  exact a
theorem ifF {b : Bool} {A B : Prop} (h : b = false) (a : B) : if b = true then A else B := by
  (rw [if_neg (by rw [h]; exact Bool.false_ne_true)])
  exact a
theorem if2 {b : Bool} {A B : Prop} (h1 : b = true → A) (h2 : b = false → B) : if b = true then A else B := by
  cases b with
  | true => exact iteT (h1 rfl)
  | false => exact iteF (h2 rfl)

/-! ### data -/
section
variable {K : PySem.W.Frag} {H : Hp}
theorem dpInt {v : V} {i : Int} (h : Dp K H v (.int i)) : v = .int i := by
  cases h
  rfl
theorem dpTup {v : V} {ds : List PyData} (h : Dp K H v (.tuple ds)) : ∃ p xs, v = .ref p ∧ SqT K H p xs ∧ DpAll K H xs ds := by
  cases h with
  | tup a b => exact ⟨_, _, rfl, a, b⟩
theorem dpLst {v : V} {ds : List PyData} (h : Dp K H v (.list ds)) : ∃ p xs, v = .ref p ∧ SqL K H p xs ∧ DpAll K H xs ds := by
  cases h with
  | lst a b => exact ⟨_, _, rfl, a, b⟩
theorem dpAll_len {vs : List V} {ds : List PyData} (h : DpAll K H vs ds) : vs.length = ds.length := by
  induction ds generalizing vs with
  | nil =>
    cases h
    rfl
  | cons d ds ih =>
    cases h with
    | cons a b => rw [List.length_cons, List.length_cons, ih b]
theorem dpAll_get {vs : List V} {ds : List PyData} {i : Nat} {d : PyData} (h : DpAll K H vs ds) (e : ds[i]? = some d) : ∃ v, vs[i]? = some v ∧ Dp K H v d := by
  induction ds generalizing vs i with
  | nil => simp at e
  | cons x ds ih =>
    cases h with
    | cons a b =>
      cases i with
      | zero =>
        have q : x = d := Option.some.inj e
        subst q
        exact ⟨_, rfl, a⟩
      | succ i =>
        have q := ih (i := i) b
        exact q e
theorem dpAll_getV {vs : List V} {ds : List PyData} {i : Nat} {v : V} (h : DpAll K H vs ds) (e : vs[i]? = some v) : ∃ d, ds[i]? = some d ∧ Dp K H v d := by
  induction ds generalizing vs i with
  | nil =>
    cases h
    simp at e
  | cons x ds ih =>
    cases h with
    | cons a b =>
      cases i with
      | zero =>
        have q := Option.some.inj e
        subst q
        exact ⟨_, rfl, a⟩
      | succ i =>
        have q := ih (i := i) b
        exact q e
theorem dpAll_app {vs ws : List V} {ds es : List PyData} (h : DpAll K H vs ds) (g : DpAll K H ws es) : DpAll K H (vs ++ ws) (ds ++ es) := by
  induction ds generalizing vs with
  | nil =>
    cases h
    exact g
  | cons x ds ih =>
    cases h with
    | cons a b => exact .cons a (ih b)
theorem dpAll_ints : ∀ (ns : List Int), DpAll K H (ns.map V.int) (ns.map PyData.int)
  | [] => .nil
  | n :: r => .cons (.int n) (dpAll_ints r)
theorem dpAll_intsV {vs : List V} {ns : List Int} (h : DpAll K H vs (ns.map PyData.int)) : vs = ns.map V.int := by
  induction ns generalizing vs with
  | nil =>
    cases h
    rfl
  | cons n r ih =>
    cases h with
    | cons a b =>
      rw [dpInt a, ih b]
      rfl
/-- a fraction, a row of them -/
def frD (q : Int × Int) : PyData := .tuple [.int q.1, .int q.2]
def rowD (qs : List (Int × Int)) : PyData := .tuple (qs.map frD)
theorem dpFr {v : V} {q : Int × Int} (h : Dp K H v (frD q)) : ∃ p, v = .ref p ∧ SqT K H p [.int q.1, .int q.2] := by
  obtain ⟨p, xs, rfl, hs, ha⟩ := dpTup h
  cases ha with
  | cons a b =>
    cases b with
    | cons c d =>
      cases d
      rw [dpInt a, dpInt c] at hs
      exact ⟨p, rfl, hs⟩
theorem mkFr {p : Addr} {a b : Int} (h : SqT K H p [.int a, .int b]) : Dp K H (.ref p) (frD (a, b)) := .tup h (.cons (.int a) (.cons (.int b) .nil))
theorem mkFrU {H' : Hp} {p : Addr} {q : Int × Int} (h : H' p = some (.tup [.int q.1, .int q.2])) : Dp K H' (.ref p) (frD q) := .tup (SqT.of h) (.cons (.int q.1) (.cons (.int q.2) .nil))
end

/-! ### enumerate of a tuple -/
set_option maxHeartbeats 4100000 in
theorem meets_enumerate_newB1 {v : Value} {o₀ : Obj} {H : Heap → Prop} (B : Begins v o₀ H) :
    Meets (Builtin.«enumerate.__new__» ⟨[.type "enumerate", v], []⟩) (fun _ R s => H s.heap ∧
      R (.ok (.ret (.ref (s.heap.push o₀).objs.size))) { s with heap := (s.heap.push o₀).push { cls := .type "enumerate", data := .fields #[.none, .bool false, .ref s.heap.objs.size, rawInt 0, .none, .none] } }) :=
  .of_wp fun prog w A R s h₀ => by
    obtain ⟨hp₀, g₀, d₀, tk₀, os₀⟩ := s; obtain ⟨h1₀, h₀⟩ := h₀
    have hsub₀ := sub_enumerate
    have q1₀ : ∀ {A' : Around} {E : Value → Shared → Prop} {Q : Value → Shared → Prop}, Q (.ref hp₀.objs.size) ⟨hp₀.push o₀, g₀, d₀, tk₀, os₀⟩ → wpAny (model prog w) A' (pyIter v) Q E ⟨hp₀, g₀, d₀, tk₀, os₀⟩ :=
      fun q₀ => B.iter prog w _ _ ⟨hp₀, g₀, d₀, tk₀, os₀⟩ _ h1₀ q₀
    wp_walk using q1₀
    refine wpAny_stack_any fun st₀ => wpAny_pure ?_
    split
    · rename_i c _ _ _ _ _
      (cases (c == Value.type "enumerate"))
      · wp_walk using q1₀
        exact ⟨_, rfl, h₀⟩
      · wp_walk using q1₀
        exact ⟨_, rfl, h₀⟩
    · wp_walk using q1₀
      exact ⟨_, rfl, h₀⟩
theorem call_enum_begins {prog : Program} {w : World} {A : Around} {E : Value → Shared → Prop} {s : Shared} {v : Value} {o₀ : Obj} {H : Heap → Prop} {Q : Value → Shared → Prop} (B : Begins v o₀ H) (h1₀ : H s.heap)
    (h₀ : ∀ h₀', IsEnum h₀' (s.heap.objs.size + 1) s.heap.objs.size 0 .none → h₀'.get? s.heap.objs.size = some o₀ → h₀'.objs.size = s.heap.objs.size + 2 →
      (∀ b₀ o₀, s.heap.get? b₀ = some o₀ → h₀'.get? b₀ = some o₀) → Q (.ref (s.heap.objs.size + 1)) { s with heap := h₀' }) :
    wpAny (model prog w) A (call (.type "enumerate") [v]) Q E s := by
  refine callType_new F.called_enumerate (by decide) (F.typeCall_enumerate_1 _) (F.newCall_enumerate_1 _) (fun thing => F.args_object_init_2 thing _) F.entry_enumerate_new
    (meets_enumerate_newB1 B) ⟨h1₀, ?_⟩
  have hz₀ : (s.heap.push o₀).objs.size = s.heap.objs.size + 1 := Heap.size_push ..
  show _ ∧ _
  rw [hz₀]
  have he₀ : IsEnum ((s.heap.push o₀).push { cls := .type "enumerate", data := .fields #[.none, .bool false, .ref s.heap.objs.size, rawInt 0, .none, .none] }) (s.heap.objs.size + 1) s.heap.objs.size 0 .none := by
    have := Heap.get?_push_size (s.heap.push o₀) (o := { cls := .type "enumerate", data := .fields #[.none, .bool false, .ref s.heap.objs.size, rawInt 0, .none, .none] }) rfl
    rw [hz₀] at this; exact this
  refine ⟨⟨_, he₀, rfl⟩, h₀ _ he₀ (Heap.get?_push_of_some _ (Heap.get?_push_size _ B.free)) (by rw [Heap.size_push, hz₀]) fun b₀ o₀ x => Heap.get?_push_of_some _ (Heap.get?_push_of_some _ x)⟩
/-- the tuple at a, each item in a new₀ pair -/
def IteT (K : PySem.W.Frag) (a : Addr) : It :=
  ⟨fun i H => ∃ (xs : List V) (x : V), SqT K H a xs ∧ xs[i]? = some x, fun i H v H' => ∃ T x, v = .ref T ∧ H T = none ∧ H' = upd H T (.tup [.int (i : Nat), x]) ∧ ∀ xs, SqT K H a xs → xs[i]? = some x, fun i H => ∃ xs : List V, SqT K H a xs ∧ xs.length ≤ i⟩
theorem turn_enumT {P : Program} {w : World} {K : PySem.W.Frag} {elts : List Expr} {kk : Nat} {tpos : Pos} (a e it : Addr) :
    Turn P w K (.Tuple elts kk tpos) (IteT K a) [e, it] e (fun i h₀ => (∃ old₀, IsEnum h₀ e it ((i : Nat) : Int) old₀) ∧ h₀.IsTupleIter it a i ∧ e ≠ it ∧ a ≠ it ∧ a ≠ e) where
  mem := by simp
  obj := fun i h₀ st₀ b₀ hb₀ => by
    obtain ⟨⟨old₀, he₀⟩, ⟨o₀, ho₀, hc₀, hd₀⟩, _⟩ := st₀
    have e₀' : b₀ = e ∨ b₀ = it := by simpa using hb₀
    rcases e₀' with z₀ | z₀
    · rw [z₀]; exact ⟨_, he₀, fun v q₀ => nomatch q₀⟩
    · rw [z₀]; exact ⟨o₀, ho₀, fun v q₀ => by rw [hd₀] at q₀; cases q₀⟩
  keep := fun i h₀ h₀' st₀ k => let ⟨⟨old₀, he₀⟩, hi₀, hne₀⟩ := st₀; ⟨⟨old₀, k e (by simp) _ he₀⟩, hi₀.at fun o₀ q₀ => k it (by simp) o₀ q₀, hne₀⟩
  item := by
    intro X hP hw hK hc₀ i pins₀ s σ₀ H E I hf₀ st₀ hg₀
    subst hP hw hK
    obtain ⟨⟨old₀, he₀⟩, hit₀, hne₀, hai₀, hae₀⟩ := st₀
    obtain ⟨xs, x, hq₀, hx₀⟩ := hg₀
    obtain ⟨its₀, rv₀, p₀, hz₀⟩ := I.tuple hq₀
    obtain ⟨u₀, hu₀, ru₀⟩ := rv₀.get hx₀
    have hel₀ : e < s.heap.objs.size := Heap.lt_size he₀
    have hil₀ : it < s.heap.objs.size := by obtain ⟨_, q₀, _⟩ := hit₀; exact Heap.lt_size q₀
    have hlen₀ : i < its₀.toArray.size := by
      have h1₀ : i < its₀.length := (List.getElem?_eq_some_iff.mp hu₀).1
      simpa using h1₀
    have ht₀ : s.heap.IsTuple a its₀.toArray := by
      obtain ⟨ob, h1₀, h2, n, h3⟩ := p₀
      exact ⟨ob, h1₀, h2, n, h3⟩
    have D : Draws X.prog X.w X.A.in1 it [it, a] its₀.toArray.size (fun i v => its₀.toArray[i]? = some v) (fun i h₀ => h₀.IsTupleIter it a i ∧ h₀.IsTuple a its₀.toArray) := Draws.tuple (by exact I.ok.hd hc₀) it a hai₀ its₀.toArray
    refine wpAny_pyNext_enum_itemD D he₀ ⟨hit₀, ht₀⟩ hlen₀ hne₀ (by simp; exact ⟨hne₀, fun z₀ => hae₀ z₀.symm⟩) fun x₀' h₀' tk₀ hPx₀ ho₀ hst₀' hT₀ hsz₀ hk₀ => ?_
    have ex₀ : x₀' = u₀ := by
      have q₀ : its₀.toArray[i]? = some u₀ := by simpa using hu₀
      have hPx' : its₀.toArray[i]? = some x₀' := hPx₀
      rw [q₀] at hPx'
      exact (Option.some.inj hPx').symm
    subst ex₀
    refine ⟨_, rfl, wpAny_letOwnedTupleGo_enum (s := { s with heap := h₀', toks := tk₀ + 1 }) ho₀ fun h₀' he₀' sb₀ => ?_⟩
    have hT2₀ : h₀'.get? s.heap.objs.size = some { cls := .type "tuple", data := .seq #[.int i tk₀, x₀'] } := (sb₀.2 _ (Nat.ne_of_gt hel₀)).trans hT₀
    have new₀ : ObjOk X.prog X.w (upd H s.heap.objs.size (.tup [.int (i : Nat), x])) h₀' s.heap.objs.size (.tup [.int (i : Nat), x]) :=
      ⟨by show 2 ≤ sizeLine; decide, [.int i tk₀, x₀'], .cons ⟨_, rfl⟩ (.cons ru₀ .nil), ⟨_, hT2₀, rfl, _, rfl⟩⟩
    have I1₀ : Inv X pins₀ σ₀ (upd H s.heap.objs.size (.tup [.int (i : Nat), x])) { s with heap := h₀', toks := tk₀ + 1 } :=
      I.turnedNew (ch := [e, it]) (fun b₀ ob hb₀ q₀ => (sb₀.2 b₀ (fun z₀ => hb₀ (by simp [z₀]))).trans (hk₀ b₀ ob (fun z₀ => hb₀ (by simp [z₀])) (fun z₀ => hb₀ (by simp [z₀])) q₀)) hf₀ (Nat.le_refl _) new₀
    refine ⟨.ref s.heap.objs.size, _, I1₀, rfl, ⟨_, x, rfl, I.hok.fresh (Nat.le_refl _), rfl, fun ys hy₀ => by rw [I.tuple_inj hy₀ hq₀]; exact hx₀⟩, ⟨⟨x₀', ?_⟩, hst₀'.1.at fun o₀ q₀ => (sb₀.2 it (Ne.symm hne₀)).trans q₀, hne₀, hai₀, hae₀⟩, fun b₀ hb₀ => ?_⟩
    · have e1₀ : ((i + 1 : Nat) : Int) = (i : Int) + 1 := by omega
      rw [e1₀]; exact he₀'
    · have hb₀' : b₀ < s.heap.objs.size := by
        have e₀' : b₀ = e ∨ b₀ = it := by simpa using hb₀
        rcases e₀' with z₀ | z₀
        · rw [z₀]; exact hel₀
        · rw [z₀]; exact hil₀
      rw [upd_ne (Nat.ne_of_lt hb₀')]
      exact (hf₀ b₀ hb₀).1
  done := by
    intro X hP hw hK hc₀ i pins₀ s σ₀ H E I hf₀ st₀ hg₀
    subst hP hw hK
    obtain ⟨⟨old₀, he₀⟩, hit₀, hne₀, hai₀, hae₀⟩ := st₀
    obtain ⟨xs, hq₀, hx₀⟩ := hg₀
    obtain ⟨its₀, rv₀, p₀, hz₀⟩ := I.tuple hq₀
    obtain ⟨f0₀, f1₀, f2₀, f3₀, f4₀, f5₀⟩ := hf₀ it (by simp)
    have hl₀ := rv₀.length
    have ht₀ : s.heap.IsTuple a its₀.toArray := by
      obtain ⟨ob, h1₀, h2, n, h3⟩ := p₀
      exact ⟨ob, h1₀, h2, n, h3⟩
    have hT₀ : s.TypeIs (.ref e) "enumerate" := ⟨_, he₀, rfl⟩
    unfold pyNext
    refine wpAny_bind (wpAny_attempt (wpAny_callSpecial?_slot (name := Str.ofString "__next__") hT₀ F.slot_enumerate_next
      (wpAny_call_entry F.slot_enumerate_next hT₀ F.entry_enumerate_next ?_ (F.args_enumerate_next_1 _))))
    (show wpAny _ _ (field (.ref e) 2 >>= _) _ _ _)
    refine wpAny_bind (wpAny_field he₀ rfl (x := .ref it) rfl ?_)
    refine wpAny_bind (wpAny_nextOf_tuple_end (by exact I.ok.hd hc₀) hit₀ ht₀ (by simp; omega) fun h₀' x he₀' hx₀' => ?_)
    obtain ⟨o₀, ho₀, hc'⟩ := hx₀'
    refine wpAny_bind (wpAny_isInstance (T := "StopIteration") (b := true) ⟨o₀, ho₀, hc'⟩ isSubtype_stop ?_)
    exact wpAny_pure ⟨rfl, I.turned (t' := s.toks) (fun b₀ o₀ hb₀ q₀ => he₀' b₀ o₀ hb₀ q₀) f0₀ f1₀ f3₀ f4₀ f5₀⟩
  self := fun A i s Q E st₀ h₀ => let ⟨⟨_, he₀⟩, _⟩ := st₀; wpAny_pyIter_enum he₀ h₀
def iEnumT (K : PySem.W.Frag) (ta : TA) : TI := fun σ₀ H R => ta σ₀ H fun vs H1 => ∃ a xs, vs = [.ref a] ∧ SqT K H1 a xs ∧ R (IteT K a) H1
theorem pi_enumT {X : Cx} {e : Expr} {ta : TA} {p₀ pos tpos : Pos} {elts : List Expr} {kk : Nat} (hg₀ : Gl X "enumerate") (hm : X.mg "enumerate" = none) (ha : PA X [e] ta) (hs : starEach [e] X.env = [(false, eval e X.env)] := by rfl) :
    PI X (.Tuple elts kk tpos) (.Call (.Name "enumerate" p₀) [e] [] pos) (iEnumT X.K ta) := by
  refine ⟨fun pins₀ s σ₀ H R I h₀ => ?_⟩
  refine Call_ (ld_blt I hg₀ hm boot_enumerate (PyProof.Rows.callWith_type1 (thn (ha.run pos pins₀ s σ₀ H _ I h₀) fun us₀ s1 ⟨vs, H1, I1₀, r1, q1₀⟩ => ?_) hs rfl))
  obtain ⟨a, xs, ex₀, hq₀, q₀⟩ := q1₀
  subst ex₀
  cases r1 with
  | cons r₀ rr₀ =>
    cases rr₀
    cases r₀
    obtain ⟨its₀, rv₀, p₀', hz₀⟩ := I1₀.tuple hq₀
    have ht₀ : s1.heap.IsTuple a its₀.toArray := by
      obtain ⟨ob, h1₀, h2, n, h3⟩ := p₀'
      exact ⟨ob, h1₀, h2, n, h3⟩
    have hal₀ : a < s1.heap.objs.size := by obtain ⟨_, q₀, _⟩ := ht₀; exact Heap.lt_size q₀
    refine call_enum_begins (begins_tuple a its₀.toArray) ht₀ fun h₀' he₀ hit₀ hsz₀ hk₀ => wpAny_pyIter_enum he₀ ?_
    have I2₀ : Inv X pins₀ σ₀ H1 { s1 with heap := h₀' } := I1₀.kept (t' := s1.toks) hk₀
    refine ⟨s1.heap.objs.size + 1, [s1.heap.objs.size + 1, s1.heap.objs.size], _, _, H1, rfl, I2₀, turn_enumT a (s1.heap.objs.size + 1) s1.heap.objs.size, ⟨⟨.none, he₀⟩, ⟨_, hit₀, rfl, rfl⟩, Nat.succ_ne_self _, Nat.ne_of_lt hal₀, Nat.ne_of_lt (Nat.lt_succ_of_lt hal₀)⟩, fun b₀ hb₀ => ?_, q₀⟩
    have e₀' : b₀ = s1.heap.objs.size + 1 ∨ b₀ = s1.heap.objs.size := by simpa using hb₀
    have hle₀ : s1.heap.objs.size ≤ b₀ := by
      rcases e₀' with z₀ | z₀
      · rw [z₀]; exact Nat.le_add_right _ _
      · rw [z₀]; exact Nat.le_refl _
    exact I1₀.fpOk hle₀ (I1₀.hok.fresh hle₀)
/-- the loop over enumerate(t) -/
theorem for_enumT {K : PySem.W.Frag} {a : Addr} {xs : List V} {g : TG} {tb : TS} {D : Ends} {σ : L2.St} {H : Hp} (Pv : Nat → L2.St → Hp → Prop) (h0 : Pv 0 σ H) (hl : ∀ i σ H, i ≤ xs.length → Pv i σ H → SqT K H a xs)
    (hs : ∀ (i : Nat) (x : V) (T : Addr) (σ : L2.St) (H : Hp), xs[i]? = some x → Pv i σ H → H T = none → g (.ref T) σ (upd H T (.tup [.int (i : Nat), x])) fun σ2 H2 => tb { D with nx := Pv (i + 1), bk := D.nx, ct := Pv (i + 1) } σ2 H2)
    (hd : ∀ σ H, Pv xs.length σ H → D.nx σ H) :
    ∃ W : Nat → Nat → L2.St → Hp → Prop, (∃ m, W 0 m σ H) ∧ ∀ i m σ H, W i m σ H → ((IteT K a).stop i H ∧ D.nx σ H) ∨ ((IteT K a).go i H ∧ ∃ Nx : L2.St → Hp → Prop, (∀ σ' H', Nx σ' H' → ∃ m', m' < m ∧ W (i + 1) m' σ' H') ∧ ∀ x H', (IteT K a).yld i H x H' → g x σ H' fun σ2 H2 => tb { D with nx := Nx, bk := D.nx, ct := Nx } σ2 H2) := by
  refine ⟨fun i m σ H => i + m = xs.length ∧ Pv i σ H, ⟨xs.length, by omega, h0⟩, ?_⟩
  rintro i m σ H ⟨em, hp⟩
  have hsq := hl i σ H (by omega) hp
  by_cases hi : i < xs.length
  · refine .inr ⟨⟨xs, xs[i], hsq, List.getElem?_eq_getElem hi⟩, Pv (i + 1), fun σ' H' q => ⟨m - 1, by omega, by omega, q⟩, ?_⟩
    rintro x H' ⟨T, y, rfl, hn, rfl, hy⟩
    exact hs i y T σ H (hy xs hsq) hp hn
  · (have e : i = xs.length := by omega)
    subst e
    exact .inl ⟨⟨xs, hsq, Nat.le_refl _⟩, hd σ H hp⟩
end V3
namespace V3
open PySem.Spec PySem L2 PyProof.Rows
theorem yesIf {σ : L2.St} {H : Hp} {A B : Hp → Prop} (h : A H) : tYes σ H (fun b H3 => if b = true then A H3 else B H3) := by
  show if true = true then A H else B H
  rw [if_pos rfl]
  exact h
end V3
set_option maxHeartbeats 4100000
/-! max, min of (x for x in range(..) if a[x] op b[y]). -/
namespace V3
open PySem.Spec PySem L2 PyProof.Rows GxR

/-- what is wanted of the tests of a generator expression over a range from lo₀ on: of place i they say pz₀ i, and change nothing -/
def TestR (X : Cx) (P : Addr) (scope : Scope) (x : Str) (ifs : List Expr) (tz : L2.St → Hp → Int → Nat → (Nat → Bool) → Prop) : Prop :=
  ∀ (pins₀ : List (Addr × Obj)) (s : Shared) (σ₀ : L2.St) (H : Hp) (lo₀ : Int) (n : Nat) (pz₀ : Nat → Bool), Inv X pins₀ σ₀ H s → tz σ₀ H lo₀ n pz₀ →
    (∃ ps₀ : Array Value, s.heap.get? P = some { cls := .none, data := .fields ps₀ }) →
    ∀ (cenv₀ : Env) (A' : Around) (E' : Value → Shared → Prop) (i : Nat) (t₀ : Tok) (s₂₀ : Shared) (m₂₀ : Str → Option Value), i < n → cenv₀.scope = scope → cenv₀.cells = cloFrom X.env.cells scope.names [] → s₂₀.heap.Ns cenv₀.locals m₂₀ →
      m₂₀ x = some (.int (lo₀ + (i : Nat) * 1) t₀) → (∀ b o, b ≠ P → s.heap.get? b = some o → s₂₀.heap.get? b = some o) →
      wpAny (model X.prog X.w) A' (forIn ifs true fun c r => if r = true then do let ok ← isTrue c cenv₀ (eval c cenv₀); pure (ForInStep.yield ok) else pure (ForInStep.yield r)) (fun ok s₃ => ok = pz₀ i ∧ Keeps s₂₀ s₃) E' s₂₀
/-- the generator g₀, ready to be walked in the state s5₀; H1₀: what was held before -/
def ReadyR (X : Cx) (pins₀ : List (Addr × Obj)) (σ₀ : L2.St) (H1₀ : Hp) (P : Addr) (lo₀ : Int) (n : Nat) (pz₀ : Nat → Bool) (g₀ : Addr) (s5₀ : Shared) : Prop :=
  ∃ (fp₀ wr₀ : List Addr) (G : Array GenState → Array GenState → Prop) (F : Nat → Value → Prop) (St₀ : Nat → Shared → Prop),
    WalksS X.prog X.w X.A.in1 g₀ fp₀ wr₀ G (passing pz₀ n 0).length F St₀ ∧ St₀ 0 s5₀ ∧ (∀ b ∈ fp₀, b < s5₀.heap.objs.size) ∧ (∀ j v₀, F j v₀ → ∃ i, (passing pz₀ n 0)[j]? = some i ∧ ∃ t₀, v₀ = .int (lo₀ + (i : Nat) * 1) t₀) ∧
    ∀ s', Moved wr₀ G s5₀ s' → ∃ H2₀, Tabbed P H1₀ H2₀ ∧ Inv X pins₀ σ₀ H2₀ s'
section
variable {X : Cx} {pins₀ : List (Addr × Obj)} {σ₀ : L2.St} {H : Hp} {s : Shared}
theorem range_small {a b : Int} (h1 : -(2 ^ 62) ≤ a) (h2 : a < 2 ^ 62) (h3₀ : -(2 ^ 62) ≤ b) (h4 : b < 2 ^ 62) : Builtin.Range.small a b 1 = true := by
  unfold Builtin.Range.small Builtin.Range.rangeFitsLong
  rw [rangeSize_nat]
  simp only [Bool.and_eq_true, Bool.or_eq_true, decide_eq_true_eq, beq_iff_eq]
  refine ⟨⟨⟨⟨?_, ?_⟩, ?_⟩, ?_⟩, ?_⟩
  · omega
  · omega
  · omega
  · omega
  · right
    rw [if_pos (by decide)]
    (simp only [Bool.and_eq_true, decide_eq_true_eq])
    omega
theorem gen_range {c P : Addr} {iter : Expr} {x : Str} {px pe gpos : Pos} {ifs : List Expr} {scope : Scope} {te : L2.St → Hp → (Int → Int → Hp → Prop) → Prop} {tz : L2.St → Hp → Int → Nat → (Nat → Bool) → Prop} {k : Nat} {Q' : Value → Shared → Prop} {R : Int → Nat → (Nat → Bool) → Hp → Prop}
    (hr₀ : Room k X.A) (TB₀ : TabB X.base X.mg c P) (hcode₀ : X.env.code = .ref c) (S : GenS X.env scope x) (hi₀ : PRg X iter te) (ht₀ : TestR X P scope x ifs tz) (hd₀ : (x == ("__debug__" : Str)) = false)
    (hs₀ : ∀ v₀, genFold iter X.env v₀ = pure v₀) (I₀ : Inv X pins₀ σ₀ H s)
    (h : te σ₀ H fun a b H1₀ => -(2 ^ 62) ≤ a ∧ a < 2 ^ 62 ∧ -(2 ^ 62) ≤ b ∧ b < 2 ^ 62 ∧ TabG H1₀ P ∧ ∃ pz₀, tz σ₀ H1₀ a (b - a).toNat pz₀ ∧ R a (b - a).toNat pz₀ H1₀)
    (hQ₀ : ∀ lo₀ n pz₀ H1₀ g₀ s5₀, R lo₀ n pz₀ H1₀ → ReadyR X pins₀ σ₀ H1₀ P lo₀ n pz₀ g₀ s5₀ → Q' (.ref g₀) s5₀) :
    wpAny (model X.prog X.w) X.A (eval (.GeneratorExp (.Name x pe) [⟨.Name x px, iter, ifs, 0⟩] scope gpos) X.env) Q' X.xe s := by
  refine wpAny_GeneratorExp_walksQ hr₀.hd S.co (closure_ok S.free) S.cell S.dot S.loc S.kind (by have := hr₀.dp; omega) ?_ hs₀
  refine thn (hi₀ pins₀ s σ₀ H _ I₀ h) fun xv₀ s1₀ ⟨r, a, b, t₀, u₀, v₀, H1₀, ex₀, hrng₀, I1₀, q1₀⟩ => ?_
  subst ex₀
  obtain ⟨b1₀, b2₀, b3₀, b4₀, ⟨ps₀, hP₀, htr₀⟩, pz₀, hz₀, q1₀⟩ := q1₀
  refine wpAny_pyIter_range hrng₀ (range_small b1₀ b2₀ b3₀ b4₀) ?_
  generalize ho₀ : ({ cls := .type "range_iterator", data := .fields #[rawInt a, rawInt (Builtin.Range.rangeSize a b 1), rawInt 1] } : Obj) = o
  have hfo₀ : o.isFreed = false := by rw [← ho₀]; rfl
  have hPs₀ : s1₀.heap.get? P = some { cls := .none, data := .fields ps₀ } := I1₀.hok P _ hP₀
  have hPlt₀ : P < s1₀.heap.objs.size := Heap.lt_size hPs₀
  have hP2₀ : (s1₀.heap.push o).get? P = some { cls := .none, data := .fields ps₀ } := Heap.get?_push_of_some _ hPs₀
  have cd₀ : PySem.W.CodeHd (s1₀.heap.push o) c P := TB₀.code.keeps fun b u₀ e => Heap.get?_push_of_some _ (I1₀.bk b u₀ e)
  have lim2₀ : (s1₀.heap.push o).NoLimit := I1₀.nolimit.push o
  have hst₀ : IsRangeIter (s1₀.heap.push o) s1₀.heap.objs.size (a + ((0 : Nat) : Int) * 1) (((b - a).toNat : Int) - ((0 : Nat) : Int)) 1 := by
    show (s1₀.heap.push o).get? s1₀.heap.objs.size = _
    rw [← ho₀, rangeSize_nat]
    simpa using Heap.get?_push_size s1₀.heap (o := { cls := .type "range_iterator", data := .fields #[rawInt a, rawInt ((b - a).toNat : Int), rawInt 1] }) rfl
  have cont₀ : ∀ (code : Value) (h3₀ : Heap) (tk₀ : Nat) (ps₀' : Array Value), Heap.ExtBut P (s1₀.heap.push o) h3₀ → (s1₀.heap.push o).objs.size ≤ h3₀.objs.size → h3₀.get? P = some { cls := .none, data := .fields ps₀' } → (∃ more₀, ps₀' = ps₀ ++ more₀) → TriplesOk ps₀'.toList →
      wpAny (model X.prog X.w) X.A (builtinsFor X.env.globals X.env.builtins) (fun bi sB =>
        ∃ Ia fp₀ wr₀ n₀ Pf St₀ pz₀ F, Value.ref s1₀.heap.objs.size = .ref Ia ∧ (∀ A' : Around, A'.handled = none → Walks X.prog X.w A' Ia fp₀ wr₀ n₀ Pf St₀) ∧ St₀ 0 sB.heap ∧ (∀ b ∈ fp₀, b < sB.heap.objs.size) ∧ sB.heap.NoLimit ∧ cStatics ∉ wr₀ ∧
          (∀ href₀ : Heap, (∀ b o, sB.heap.get? b = some o → href₀.get? b = some o) →
            QuietGen X.prog X.w (genEnv scope (cloFrom X.env.cells scope.names []) sB.heap.objs.size code bi X.env) x ifs (.Name x pe) (List.range sB.heap.objs.size) wr₀ Pf pz₀ F href₀) ∧
          (∀ a h₅ tk₀ gs, gs.bare = true → sB.heap.objs.size < a → h₅.objs.size = a + 1 → (∀ b o, sB.heap.get? b = some o → h₅.get? b = some o) →
            WalksS X.prog X.w X.A.in4 a (a :: sB.heap.objs.size :: List.range sB.heap.objs.size) (sB.heap.objs.size :: wr₀) (GenOnlyQ sB.gens.size) (passing pz₀ n₀ 0).length
              (fun j y => ∃ i, (passing pz₀ n₀ 0)[j]? = some i ∧ F i y) (GenAt X.prog X.w X.A.in4 a sB.gens.size sB.heap.objs.size (List.range sB.heap.objs.size) wr₀ pz₀ n₀ F) →
            GenAt X.prog X.w X.A.in4 a sB.gens.size sB.heap.objs.size (List.range sB.heap.objs.size) wr₀ pz₀ n₀ F 0 { sB with gens := sB.gens.push gs, toks := tk₀, heap := h₅ } →
            Q' (.ref a) { sB with gens := sB.gens.push gs, toks := tk₀, heap := h₅ })) X.xe { s1₀ with heap := h3₀, toks := tk₀ } := by
    intro code h3₀ tk₀ ps₀' hx₀ hsz₀ hP3₀ hmore₀ ht3₀
    obtain ⟨bm₀, ob₀, e1₀, e2₀, e3₀, e4₀, e5₀, e6₀, e7₀, e8₀⟩ := TB₀.bm
    have hcP₀ : cStatics ≠ P := fun e => by
      obtain ⟨_, hns, _⟩ := I1₀.nolimit
      obtain ⟨o', es₀, ep₀, ho₀, hd₀, _⟩ := hns
      rw [e, hPs₀] at ho₀
      cases ho₀
      cases hd₀
    have hcl₀ : cStatics < s1₀.heap.objs.size := let ⟨_, hns, _⟩ := I1₀.nolimit; hns.lt
    have sz2₀ : (s1₀.heap.push o).objs.size = s1₀.heap.objs.size + 1 := Heap.size_push ..
    have keep3₀ : ∀ b u₀, b ≠ P → s1₀.heap.get? b = some u₀ → h3₀.get? b = some u₀ := fun b u₀ hb₀ e => hx₀ b u₀ hb₀ (Heap.get?_push_of_some _ e)
    refine wpAny_builtinsFor (m := X.mg) (by rw [I1₀.ok.glob]; exact ((I1₀.mod.glob.keeps I1₀.bk).push o).extBut hx₀ TB₀.gP) e1₀ e2₀ (keep3₀ _ _ e4₀ (I1₀.bk _ _ e5₀)) e6₀ e7₀ e8₀ ?_
    refine ⟨s1₀.heap.objs.size, [s1₀.heap.objs.size], [s1₀.heap.objs.size], (b - a).toNat, fun i v₀ => i < (b - a).toNat ∧ ∃ t₀, v₀ = .int (a + (i : Nat) * 1) t₀, _, pz₀, (fun i y => ∃ t₀, y = .int (a + (i : Nat) * 1) t₀), rfl, (fun A' hA => (Walks.range hA s1₀.heap.objs.size a 1 (b - a).toNat).bound), ?_, ?_, lim2₀.extBut hx₀ hcP₀, ?_, ?_, ?_⟩
    · exact hx₀ _ _ (Nat.ne_of_gt hPlt₀) hst₀
    · intro b hb₀
      rcases List.mem_cons.mp hb₀ with z | z
      · rw [z]
        show s1₀.heap.objs.size < h3₀.objs.size
        omega
      · cases z
    · intro z
      (rcases List.mem_cons.mp z with z | z)
      · exact Nat.ne_of_lt hcl₀ z
      · cases z
    · intro href₀ hhref₀
      have kp₀ : ∀ (s₂₀ : Shared), (∀ b ∈ List.range h3₀.objs.size, b ∉ [s1₀.heap.objs.size] → ∀ o, href₀.get? b = some o → s₂₀.heap.get? b = some o) → ∀ b o, b ≠ P → s1₀.heap.get? b = some o → s₂₀.heap.get? b = some o := fun s₂₀ hk₀ b o hb₀ e => by
        have e3₀ := keep3₀ b o hb₀ e
        refine hk₀ b (List.mem_range.mpr (Heap.lt_size e3₀)) (fun z => ?_) o (hhref₀ b o e3₀)
        (rcases List.mem_cons.mp z with z | z)
        · have := Heap.lt_size e
          rw [z] at this
          exact Nat.lt_irrefl _ this
        · cases z
      refine ⟨fun A' E' i v₀ s₂₀ m₂₀ hA hPv₀ hn₀ hm₀ hk₀ => ?_, fun A' E' i v₀ s₂₀ m₂₀ hA hPv₀ hp₀ hn₀ hm₀ hk₀ => ?_⟩
      · obtain ⟨hi', t', rfl⟩ := hPv₀
        exact ht₀ pins₀ s1₀ σ₀ H1₀ a (b - a).toNat pz₀ I1₀ hz₀ ⟨ps₀, hPs₀⟩ _ A' E' i t' s₂₀ m₂₀ hi' rfl rfl hn₀ hm₀ (kp₀ s₂₀ hk₀)
      · obtain ⟨hi', t', rfl⟩ := hPv₀
        refine wpAny_Name (wpAny_loadName_local (by exact S.kind) (by exact S.loc) hn₀ hm₀ ?_) hd₀
        exact ⟨⟨t', rfl⟩, keeps_refl _⟩
    · intro g₀ h5₀ tk5₀ gs hgb₀ hag₀ hsz5₀ hk5₀ W5₀ hat₀
      refine hQ₀ a (b - a).toNat pz₀ H1₀ g₀ _ q1₀ ⟨_, _, _, _, _, W5₀.in4_1, hat₀, ?_, ?_, fun s' hm₀ => ?_⟩
      · intro b hb₀
        show b < h5₀.objs.size
        rw [hsz5₀]
        have hag₀' : h3₀.objs.size < g₀ := hag₀
        rcases List.mem_cons.mp hb₀ with z | z
        · rw [z]
          exact Nat.lt_succ_self g₀
        · (rcases List.mem_cons.mp z with z | z)
          · rw [z]
            exact Nat.lt_succ_of_lt hag₀'
          · exact Nat.lt_succ_of_lt (Nat.lt_trans (List.mem_range.mp z) hag₀')
      · intro j y hy
        exact hy
      · obtain ⟨more₀, em₀⟩ := hmore₀
        have nwr₀ : ∀ b u₀, s1₀.heap.get? b = some u₀ → b ∉ h3₀.objs.size :: [s1₀.heap.objs.size] := fun b u₀ e hb₀ => by
          have hl₀ := Heap.lt_size e
          rcases List.mem_cons.mp hb₀ with z | z
          · rw [z] at hl₀
            have h9 : (h3₀.objs.size : Nat) < s1₀.heap.objs.size := hl₀
            omega
          · (rcases List.mem_cons.mp z with z | z)
            · rw [z] at hl₀
              exact Nat.lt_irrefl _ hl₀
            · cases z
        have J₀ := inv_tab (more := more₀) (h' := s'.heap) (g' := s'.gens) (d' := s'.drawn) (t' := s'.toks) I1₀ hP₀ (fun b u₀ hb₀ e => hm₀.heap b u₀ (nwr₀ b u₀ e) (hk5₀ b u₀ (keep3₀ b u₀ hb₀ e)))
          (by rw [← em₀]; exact hm₀.heap P _ (nwr₀ P _ hPs₀) (hk5₀ P _ hP3₀)) (AllBare.movedS (I1₀.bare.push hgb₀) hm₀)
        rw [sh_eta s1₀ s' hm₀.os] at J₀
        refine ⟨upd H1₀ P (.tbl (ps₀ ++ more₀)), ⟨⟨ps₀ ++ more₀, upd_same, by rw [← em₀]; exact ht3₀⟩, fun b hb₀ => upd_ne hb₀⟩, J₀⟩
  refine ⟨lim2₀, ?_⟩
  cases hf₀ : codeAmong gpos ps₀.toList with
  | none =>
    refine wpAny_genexprCodeX hcode₀ (cd₀.code hP2₀ htr₀) (cd₀.tab hP2₀) hf₀ fun c₀' h₀' tk₀ hx₀ hge₀ hlt₀ hco₀' _ htab₀' _ => ?_
    obtain ⟨o1, vs, f1, tf, fl, tg, inF, tx, tt, op, _, _, _, _, _, _, _, _, _, htr', _⟩ := hco₀'
    exact cont₀ _ h₀' tk₀ _ hx₀ (Nat.le_trans hge₀ (Nat.le_of_lt hlt₀)) htab₀'.2 ⟨_, rfl⟩ htr'
  | some cv =>
    refine wpAny_genexprCode_hit hcode₀ (cd₀.code hP2₀ htr₀) hf₀ ?_
    exact cont₀ cv (s1₀.heap.push o) s1₀.toks ps₀ (Heap.ExtBut.refl _ _) (Nat.le_refl _) hP2₀ ⟨#[], by simp⟩ htr₀

theorem mem_passing {pz₀ : Nat → Bool} {n i : Nat} : i ∈ passing pz₀ n 0 ↔ i < n ∧ pz₀ i = true := by
  unfold passing
  rw [List.drop_zero, List.mem_filter, List.mem_range]

/-- max(x for x in range(..) if ..) -/
def tMaxR (P : Addr) (te : L2.St → Hp → (Int → Int → Hp → Prop) → Prop) (tz : L2.St → Hp → Int → Nat → (Nat → Bool) → Prop) : TE := fun σ₀ H Q =>
  te σ₀ H fun a b H1₀ => -(2 ^ 62) ≤ a ∧ a < 2 ^ 62 ∧ -(2 ^ 62) ≤ b ∧ b < 2 ^ 62 ∧ TabG H1₀ P ∧ ∃ pz₀, tz σ₀ H1₀ a (b - a).toNat pz₀ ∧ (∃ i, i < (b - a).toNat ∧ pz₀ i = true) ∧
    ∀ i H2₀, Tabbed P H1₀ H2₀ → i < (b - a).toNat → pz₀ i = true → (∀ j, j < (b - a).toNat → pz₀ j = true → j ≤ i) → Q (.int (a + i)) H2₀
def tMinR (P : Addr) (te : L2.St → Hp → (Int → Int → Hp → Prop) → Prop) (tz : L2.St → Hp → Int → Nat → (Nat → Bool) → Prop) : TE := fun σ₀ H Q =>
  te σ₀ H fun a b H1₀ => -(2 ^ 62) ≤ a ∧ a < 2 ^ 62 ∧ -(2 ^ 62) ≤ b ∧ b < 2 ^ 62 ∧ TabG H1₀ P ∧ ∃ pz₀, tz σ₀ H1₀ a (b - a).toNat pz₀ ∧ (∃ i, i < (b - a).toNat ∧ pz₀ i = true) ∧
    ∀ i H2₀, Tabbed P H1₀ H2₀ → i < (b - a).toNat → pz₀ i = true → (∀ j, j < (b - a).toNat → pz₀ j = true → i ≤ j) → Q (.int (a + i)) H2₀
theorem pe_maxR {c P : Addr} {iter : Expr} {x : Str} {px pe p pos gpos : Pos} {ifs : List Expr} {scope : Scope} {te : L2.St → Hp → (Int → Int → Hp → Prop) → Prop} {tz : L2.St → Hp → Int → Nat → (Nat → Bool) → Prop} {k : Nat}
    (hr₀ : Room k X.A) (hg : Gl X "max") (hm₀ : X.mg "max" = none) (TB₀ : TabB X.base X.mg c P) (hcode₀ : X.env.code = .ref c) (S : GenS X.env scope x) (hi₀ : PRg X iter te) (ht₀ : TestR X P scope x ifs tz) (hd₀ : (x == ("__debug__" : Str)) = false)
    (hs₀ : ∀ v₀, genFold iter X.env v₀ = pure v₀)
    (he₀ : starEach [.GeneratorExp (.Name x pe) [⟨.Name x px, iter, ifs, 0⟩] scope gpos] X.env = (false, eval (.GeneratorExp (.Name x pe) [⟨.Name x px, iter, ifs, 0⟩] scope gpos) X.env) :: starEach [] X.env := by rfl) :
    PE X (.Call (.Name "max" p) [.GeneratorExp (.Name x pe) [⟨.Name x px, iter, ifs, 0⟩] scope gpos] [] pos) (tMaxR P te tz) := by
  refine ⟨fun pins₀ s σ₀ H Q I₀ h => ?_⟩
  refine wpAny_Call_Name_kw (ld_blt (u := .builtin "max") I₀ hg hm₀ (by decide +kernel) ?_)
  refine PyProof.Rows.callWith_builtin1 (id := "max") ?_ he₀ (by rfl)
  rw [he₀]
  show wpAny _ _ (spliced ((false, eval (.GeneratorExp (.Name x pe) [⟨.Name x px, iter, ifs, 0⟩] scope gpos) X.env) :: backTo pos (starEach [] X.env))) _ _ s
  refine Calls.spliced_cons (gen_range (R := fun lo₀ n pz₀ H1₀ => (∃ i, i < n ∧ pz₀ i = true) ∧ ∀ i H2₀, Tabbed P H1₀ H2₀ → i < n → pz₀ i = true → (∀ j, j < n → pz₀ j = true → j ≤ i) → Q (.int (lo₀ + i)) H2₀) hr₀ TB₀ hcode₀ S hi₀ ht₀ hd₀ hs₀ I₀ h fun lo₀ n pz₀ H1₀ g₀ s5₀ hR₀ hG₀ => ?_)
  obtain ⟨⟨i0₀, hi0₀, hp0₀⟩, hq₀⟩ := hR₀
  obtain ⟨fp₀, wr₀, G, F, St₀, W, hst₀, hfp₀, hval₀, hI₀⟩ := hG₀
  refine Calls.spliced_nil ?_
  have hne₀ : 0 < (passing pz₀ n 0).length := List.length_pos_of_mem (mem_passing.mpr ⟨hi0₀, hp0₀⟩)
  obtain ⟨val₀, hvd₀⟩ : ∃ val₀ : Nat → Int, ∀ j, val₀ j = lo₀ + (((passing pz₀ n 0).getD j 0 : Nat) : Int) := ⟨_, fun _ => rfl⟩
  have hv₀ : ∀ j v₀, F j v₀ → ∃ t₀, v₀ = .int (val₀ j) t₀ := fun j v₀ hF₀ => by
    obtain ⟨i, h1, t₀, rfl⟩ := hval₀ j v₀ hF₀
    refine ⟨t₀, ?_⟩
    rw [hvd₀]
    simp [List.getD_eq_getElem?_getD, h1]
  refine call_max_walkS (W.self 0 _ _ _ hst₀ ⟨g₀, fp₀, wr₀, G, _, F, St₀, _, rfl, W, hst₀, hfp₀, hne₀, CmpOf.ints_gt _ hv₀, fun v₀ s' hF₀ hmv₀ => ?_⟩)
  obtain ⟨H2₀, hT₀, J₀⟩ := hI₀ s' hmv₀
  have hb₀ := argBest_gt val₀ ((passing pz₀ n 0).length - 1)
  obtain ⟨t₀, rfl⟩ := hv₀ _ v₀ hF₀
  have hlt₀ : argBest (fun i j => decide (val₀ i > val₀ j)) ((passing pz₀ n 0).length - 1) < (passing pz₀ n 0).length := by omega
  refine ⟨.int _, H2₀, J₀, ⟨_, rfl⟩, ?_⟩
  generalize argBest (fun i j => decide (val₀ i > val₀ j)) ((passing pz₀ n 0).length - 1) = jm₀ at hb₀ hlt₀
  have hm1₀ : (passing pz₀ n 0).getD jm₀ 0 = (passing pz₀ n 0)[jm₀] := by simp [List.getD_eq_getElem?_getD, hlt₀]
  have hmem₀ : (passing pz₀ n 0)[jm₀] ∈ passing pz₀ n 0 := List.getElem_mem hlt₀
  obtain ⟨k1₀, k2₀⟩ := mem_passing.mp hmem₀
  show Q (.int (val₀ jm₀)) H2₀
  rw [hvd₀, hm1₀]
  refine hq₀ _ H2₀ hT₀ k1₀ k2₀ fun j hj hpj => ?_
  obtain ⟨jj₀, hjj₀, ej₀⟩ := List.getElem_of_mem (mem_passing.mpr ⟨hj, hpj⟩)
  have := hb₀.2 jj₀ (by omega)
  have e2₀ : (passing pz₀ n 0).getD jj₀ 0 = j := by simp [List.getD_eq_getElem?_getD, hjj₀, ej₀]
  simp only [hvd₀, hm1₀, e2₀] at this
  omega
theorem pe_minR {c P : Addr} {iter : Expr} {x : Str} {px pe p pos gpos : Pos} {ifs : List Expr} {scope : Scope} {te : L2.St → Hp → (Int → Int → Hp → Prop) → Prop} {tz : L2.St → Hp → Int → Nat → (Nat → Bool) → Prop} {k : Nat}
    (hr₀ : Room k X.A) (hg : Gl X "min") (hm₀ : X.mg "min" = none) (TB₀ : TabB X.base X.mg c P) (hcode₀ : X.env.code = .ref c) (S : GenS X.env scope x) (hi₀ : PRg X iter te) (ht₀ : TestR X P scope x ifs tz) (hd₀ : (x == ("__debug__" : Str)) = false)
    (hs₀ : ∀ v₀, genFold iter X.env v₀ = pure v₀)
    (he₀ : starEach [.GeneratorExp (.Name x pe) [⟨.Name x px, iter, ifs, 0⟩] scope gpos] X.env = (false, eval (.GeneratorExp (.Name x pe) [⟨.Name x px, iter, ifs, 0⟩] scope gpos) X.env) :: starEach [] X.env := by rfl) :
    PE X (.Call (.Name "min" p) [.GeneratorExp (.Name x pe) [⟨.Name x px, iter, ifs, 0⟩] scope gpos] [] pos) (tMinR P te tz) := by
  refine ⟨fun pins₀ s σ₀ H Q I₀ h => ?_⟩
  refine wpAny_Call_Name_kw (ld_blt (u := .builtin "min") I₀ hg hm₀ (by decide +kernel) ?_)
  refine PyProof.Rows.callWith_builtin1 (id := "min") ?_ he₀ (by rfl)
  rw [he₀]
  show wpAny _ _ (spliced ((false, eval (.GeneratorExp (.Name x pe) [⟨.Name x px, iter, ifs, 0⟩] scope gpos) X.env) :: backTo pos (starEach [] X.env))) _ _ s
  refine Calls.spliced_cons (gen_range (R := fun lo₀ n pz₀ H1₀ => (∃ i, i < n ∧ pz₀ i = true) ∧ ∀ i H2₀, Tabbed P H1₀ H2₀ → i < n → pz₀ i = true → (∀ j, j < n → pz₀ j = true → i ≤ j) → Q (.int (lo₀ + i)) H2₀) hr₀ TB₀ hcode₀ S hi₀ ht₀ hd₀ hs₀ I₀ h fun lo₀ n pz₀ H1₀ g₀ s5₀ hR₀ hG₀ => ?_)
  obtain ⟨⟨i0₀, hi0₀, hp0₀⟩, hq₀⟩ := hR₀
  obtain ⟨fp₀, wr₀, G, F, St₀, W, hst₀, hfp₀, hval₀, hI₀⟩ := hG₀
  refine Calls.spliced_nil ?_
  have hne₀ : 0 < (passing pz₀ n 0).length := List.length_pos_of_mem (mem_passing.mpr ⟨hi0₀, hp0₀⟩)
  obtain ⟨val₀, hvd₀⟩ : ∃ val₀ : Nat → Int, ∀ j, val₀ j = lo₀ + (((passing pz₀ n 0).getD j 0 : Nat) : Int) := ⟨_, fun _ => rfl⟩
  have hv₀ : ∀ j v₀, F j v₀ → ∃ t₀, v₀ = .int (val₀ j) t₀ := fun j v₀ hF₀ => by
    obtain ⟨i, h1, t₀, rfl⟩ := hval₀ j v₀ hF₀
    refine ⟨t₀, ?_⟩
    rw [hvd₀]
    simp [List.getD_eq_getElem?_getD, h1]
  refine call_min_walkS (W.self 0 _ _ _ hst₀ ⟨g₀, fp₀, wr₀, G, _, F, St₀, _, rfl, W, hst₀, hfp₀, hne₀, CmpOf.ints_lt _ hv₀, fun v₀ s' hF₀ hmv₀ => ?_⟩)
  obtain ⟨H2₀, hT₀, J₀⟩ := hI₀ s' hmv₀
  have hb₀ := argBest_lt val₀ ((passing pz₀ n 0).length - 1)
  obtain ⟨t₀, rfl⟩ := hv₀ _ v₀ hF₀
  have hlt₀ : argBest (fun i j => decide (val₀ i < val₀ j)) ((passing pz₀ n 0).length - 1) < (passing pz₀ n 0).length := by omega
  refine ⟨.int _, H2₀, J₀, ⟨_, rfl⟩, ?_⟩
  generalize argBest (fun i j => decide (val₀ i < val₀ j)) ((passing pz₀ n 0).length - 1) = jm₀ at hb₀ hlt₀
  have hm1₀ : (passing pz₀ n 0).getD jm₀ 0 = (passing pz₀ n 0)[jm₀] := by simp [List.getD_eq_getElem?_getD, hlt₀]
  have hmem₀ : (passing pz₀ n 0)[jm₀] ∈ passing pz₀ n 0 := List.getElem_mem hlt₀
  obtain ⟨k1₀, k2₀⟩ := mem_passing.mp hmem₀
  show Q (.int (val₀ jm₀)) H2₀
  rw [hvd₀, hm1₀]
  refine hq₀ _ H2₀ hT₀ k1₀ k2₀ fun j hj hpj => ?_
  obtain ⟨jj₀, hjj₀, ej₀⟩ := List.getElem_of_mem (mem_passing.mpr ⟨hj, hpj⟩)
  have := hb₀.2 jj₀ (by omega)
  have e2₀ : (passing pz₀ n 0).getD jj₀ 0 = j := by simp [List.getD_eq_getElem?_getD, hjj₀, ej₀]
  simp only [hvd₀, hm1₀, e2₀] at this
  omega
end
end V3
namespace V3
open PySem.Spec PySem L2 PyProof.Rows GxR
section
variable {s : Shared} {H : Hp} {σ : L2.St} {pins : List (Addr × Obj)} {X : Cx}
/-- a name of the def that the generator expression captures -/
structure Cap (X : Cx) (scope : Scope) (x : Str) (i : Nat) : Prop where
  N : X.N[i]? = some x
  cell : X.env.scope.names.lookup x = some .cell
  free : scope.names.lookup x = some .free
  look : ∀ cells : List (Str × Addr), (cloFrom cells scope.names []).lookup x = some ((cells.lookup x).getD 0)
  cd : (x == ("__classdict__" : Str)) = false
  db : (x == ("__debug__" : Str)) = false
theorem Cap.at {scope : Scope} {x : Str} {i : Nat} {v : V} (C : Cap X scope x i) (I : Inv X pins σ H s) (hv : σ[i]? = some (some v)) : ∃ (c : Addr) (u : Value), RelV v u ∧ X.env.cells.lookup x = some c ∧ s.heap.IsCell c (some u) := by
  obtain ⟨m, hn, hl⟩ := I.loc
  obtain ⟨u, r, l⟩ := hl i x v C.N hv (.inr (.inl C.cell))
  (rcases l with ⟨hk, hm⟩ | ⟨hk, c, hc, hcell⟩)
  · have e : X.env.scope.names.lookup x = some .local := hk
    rw [C.cell] at e
    cases e
  · exact ⟨c, u, r, hc, hcell⟩
/-- the captured name is read in the generator's frame -/
theorem Cap.eval {scope : Scope} {x : Str} {i : Nat} {pos : Pos} {M : Model} {A' : Around} {E' : Value → Shared → Prop} {cenv : Env} {c : Addr} {u : Value} {s₂ : Shared} {Q : Value → Shared → Prop} (C : Cap X scope x i) (hk : scope.kind = .function) (hs : cenv.scope = scope)
    (hc : cenv.cells = cloFrom X.env.cells scope.names []) (h1 : X.env.cells.lookup x = some c) (h2 : s₂.heap.IsCell c (some u)) (q : Q u s₂) : wpAny M A' (eval (.Name x pos) cenv) Q E' s₂ := by
  refine wpAny_Name (wpAny_loadName_free (by rw [hs]; exact hk) (show cenv.scope.names.lookup x = some .free by rw [hs]; exact C.free) ?_ h2 q C.cd) C.db
  rw [hc, C.look, h1]
  rfl
theorem keep_cell {P c : Addr} {u : Value} {s s₂ : Shared} (hP : ∃ ps : Array Value, s.heap.get? P = some { cls := .none, data := .fields ps }) (k : ∀ b o, b ≠ P → s.heap.get? b = some o → s₂.heap.get? b = some o) (h : s.heap.IsCell c (some u)) : s₂.heap.IsCell c (some u) := by
  obtain ⟨o, ho, hd⟩ := h
  obtain ⟨ps, hP⟩ := hP
  refine ⟨o, k c o (fun e => ?_) ho, hd⟩
  rw [e, hP] at ho
  cases ho
  cases hd
theorem keep_list {P a : Addr} {its : Array Value} {s s₂ : Shared} (hP : ∃ ps : Array Value, s.heap.get? P = some { cls := .none, data := .fields ps }) (k : ∀ b o, b ≠ P → s.heap.get? b = some o → s₂.heap.get? b = some o) (h : PlainL s.heap a its) : PlainL s₂.heap a its := by
  obtain ⟨o, n, ho, hc, hd, hdt⟩ := h
  obtain ⟨ps, hP⟩ := hP
  refine ⟨o, n, k a o (fun e => ?_) ho, hc, hd, hdt⟩
  rw [e, hP] at ho
  cases ho
  cases hdt
theorem vals_int_get {xs : List Int} {its : List Value} {j : Nat} {u : Int} (r : Vals (xs.map V.int) its) (h : xs[j]? = some u) : ∃ t, its.toArray[j]? = some (.int u t) := by
  obtain ⟨w, h1, h2⟩ := r.get (show (xs.map V.int)[j]? = some (.int u) by rw [List.getElem?_map, h]; rfl)
  obtain ⟨t, rfl⟩ := h2
  exact ⟨t, by simpa using h1⟩
/-- a[x] op b[x], a and b lists of ints of the def, x the generator's name -/
def tzXX (K : PySem.W.Frag) (ia ib : Nat) (cmp : Int → Int → Bool) : L2.St → Hp → Int → Nat → (Nat → Bool) → Prop := fun σ H lo n pz =>
  ∃ (pa pb : Addr) (xs ys : List Int), σ[ia]? = some (some (.ref pa)) ∧ σ[ib]? = some (some (.ref pb)) ∧ SqL K H pa (xs.map V.int) ∧ SqL K H pb (ys.map V.int) ∧ 0 ≤ lo ∧ lo + n < 2 ^ 63 ∧
    ∀ i : Nat, i < n → ∃ u v : Int, xs[lo.toNat + i]? = some u ∧ ys[lo.toNat + i]? = some v ∧ pz i = cmp u v
/-- a[x] op b[y], y an int of the def -/
def tzXY (K : PySem.W.Frag) (ia ib iy : Nat) (cmp : Int → Int → Bool) : L2.St → Hp → Int → Nat → (Nat → Bool) → Prop := fun σ H lo n pz =>
  ∃ (pa pb : Addr) (xs ys : List Int) (y v : Int), σ[ia]? = some (some (.ref pa)) ∧ σ[ib]? = some (some (.ref pb)) ∧ σ[iy]? = some (some (.int y)) ∧ SqL K H pa (xs.map V.int) ∧ SqL K H pb (ys.map V.int) ∧ 0 ≤ lo ∧ lo + n < 2 ^ 63 ∧ 0 ≤ y ∧ y < 2 ^ 63 ∧
    ys[y.toNat]? = some v ∧ ∀ i : Nat, i < n → ∃ u : Int, xs[lo.toNat + i]? = some u ∧ pz i = cmp u v
theorem for_one {M : Model} {A' : Around} {E' : Value → Shared → Prop} {c : Expr} {cenv : Env} {Q : Bool → Shared → Prop} {s₂ : Shared} (h : wpAny M A' (isTrue c cenv (eval c cenv)) Q E' s₂) :
    wpAny M A' (forIn [c] true fun c r => if r = true then do let ok ← isTrue c cenv (eval c cenv); pure (ForInStep.yield ok) else pure (ForInStep.yield r)) Q E' s₂ := by
  simp only [List.forIn_cons, List.forIn_nil, if_true, bind_assoc, pure_bind]
  exact wpAny_bind (wpAny_mono h (fun b s3 q => wpAny_pure q) fun _ _ e => e)
theorem test_xx {P : Addr} {scope : Scope} {x na nb : Str} {ia ib : Nat} {op : CmpOp} {cmp : Int → Int → Bool} {p1 p2 p3 p4 q1 q2 q3 : Pos} (hk : scope.kind = .function) (hx : scope.names.lookup x = some .local) (hdx : (x == ("__debug__" : Str)) = false) (Ca : Cap X scope na ia) (Cb : Cap X scope nb ib)
    (hcmp : ∀ (A : Around) (E : Value → Shared → Prop) (s : Shared) (Q : Value → Shared → Prop) (u v : Int) (t t' : Tok), Q (.bool (cmp u v)) s → wpAny (model X.prog X.w) A (compareOp op (.int u t) (.int v t')) Q E s)
    (hm : behindInMarks op (.Subscript (.Name nb p3) (.Name x p4) q2) = false) :
    TestR X P scope x [.Compare (.Subscript (.Name na p1) (.Name x p2) q1) [op] [.Subscript (.Name nb p3) (.Name x p4) q2] q3] (tzXX X.K ia ib cmp) := by
  intro pins s σ H lo n pz I hz hP cenv A' E' i t s₂ m₂ hi hs hc hn hmx hkp
  obtain ⟨pa, pb, xs, ys, ha, hb, hxs, hys, h0, h63, htest⟩ := hz
  obtain ⟨u, v, hu, hv, hpz⟩ := htest i hi
  obtain ⟨ca, ua, ra, ca1, ca2⟩ := Ca.at I ha
  obtain ⟨cb, ub, rb, cb1, cb2⟩ := Cb.at I hb
  cases ra
  cases rb
  obtain ⟨ia', rxs, pxs, _⟩ := I.list hxs
  obtain ⟨ib', rys, pys, _⟩ := I.list hys
  obtain ⟨tu, hu'⟩ := vals_int_get rxs hu
  obtain ⟨tv, hv'⟩ := vals_int_get rys hv
  have e1 : (lo + (i : Nat) * 1).toNat = lo.toNat + i := by omega
  have b1 : 0 ≤ lo + (i : Nat) * 1 := by omega
  have b2 : lo + (i : Nat) * 1 < 2 ^ 63 := by omega
  have ex : ∀ (pos : Pos) (E'' : Value → Shared → Prop) (Q : Value → Shared → Prop), Q (.int (lo + (i : Nat) * 1) t) s₂ → wpAny (model X.prog X.w) A' (eval (.Name x pos) cenv) Q E'' s₂ := fun pos E'' Q q =>
    wpAny_Name (wpAny_loadName_local (by rw [hs]; exact hk) (show cenv.scope.names.lookup x = some .local by rw [hs]; exact hx) hn hmx q) hdx
  refine for_one (wpAny_isTrue_Compare1 ?_ hm)
  refine Subscript_ (Ca.eval hk hs hc ca1 (keep_cell hP hkp ca2) (ex _ _ _ ?_))
  refine item_listR (keep_list hP hkp pxs).isList b1 b2 (by rw [e1]; exact hu') ?_
  refine Subscript_ (Cb.eval hk hs hc cb1 (keep_cell hP hkp cb2) (ex _ _ _ ?_))
  refine item_listR (keep_list hP hkp pys).isList b1 b2 (by rw [e1]; exact hv') ?_
  refine hcmp _ _ _ _ _ _ _ _ (wpAny_truthy_bool ?_)
  exact ⟨hpz.symm, keeps_refl _⟩
theorem test_xy {P : Addr} {scope : Scope} {x na nb ny : Str} {ia ib iy : Nat} {op : CmpOp} {cmp : Int → Int → Bool} {p1 p2 p3 p4 q1 q2 q3 : Pos} (hk : scope.kind = .function) (hx : scope.names.lookup x = some .local) (hdx : (x == ("__debug__" : Str)) = false) (Ca : Cap X scope na ia) (Cb : Cap X scope nb ib) (Cy : Cap X scope ny iy)
    (hcmp : ∀ (A : Around) (E : Value → Shared → Prop) (s : Shared) (Q : Value → Shared → Prop) (u v : Int) (t t' : Tok), Q (.bool (cmp u v)) s → wpAny (model X.prog X.w) A (compareOp op (.int u t) (.int v t')) Q E s)
    (hm : behindInMarks op (.Subscript (.Name nb p3) (.Name ny p4) q2) = false) :
    TestR X P scope x [.Compare (.Subscript (.Name na p1) (.Name x p2) q1) [op] [.Subscript (.Name nb p3) (.Name ny p4) q2] q3] (tzXY X.K ia ib iy cmp) := by
  intro pins s σ H lo n pz I hz hP cenv A' E' i t s₂ m₂ hi hs hc hn hmx hkp
  obtain ⟨pa, pb, xs, ys, y, v, ha, hb, hy, hxs, hys, h0, h63, y0, y63, hv, htest⟩ := hz
  obtain ⟨u, hu, hpz⟩ := htest i hi
  obtain ⟨ca, ua, ra, ca1, ca2⟩ := Ca.at I ha
  obtain ⟨cb, ub, rb, cb1, cb2⟩ := Cb.at I hb
  obtain ⟨cy, uy, ry, cy1, cy2⟩ := Cy.at I hy
  cases ra
  cases rb
  obtain ⟨ty, rfl⟩ := ry
  obtain ⟨ia', rxs, pxs, _⟩ := I.list hxs
  obtain ⟨ib', rys, pys, _⟩ := I.list hys
  obtain ⟨tu, hu'⟩ := vals_int_get rxs hu
  obtain ⟨tv, hv'⟩ := vals_int_get rys hv
  have e1 : (lo + (i : Nat) * 1).toNat = lo.toNat + i := by omega
  have b1 : 0 ≤ lo + (i : Nat) * 1 := by omega
  have b2 : lo + (i : Nat) * 1 < 2 ^ 63 := by omega
  have ex : ∀ (pos : Pos) (E'' : Value → Shared → Prop) (Q : Value → Shared → Prop), Q (.int (lo + (i : Nat) * 1) t) s₂ → wpAny (model X.prog X.w) A' (eval (.Name x pos) cenv) Q E'' s₂ := fun pos E'' Q q =>
    wpAny_Name (wpAny_loadName_local (by rw [hs]; exact hk) (show cenv.scope.names.lookup x = some .local by rw [hs]; exact hx) hn hmx q) hdx
  refine for_one (wpAny_isTrue_Compare1 ?_ hm)
  refine Subscript_ (Ca.eval hk hs hc ca1 (keep_cell hP hkp ca2) (ex _ _ _ ?_))
  refine item_listR (keep_list hP hkp pxs).isList b1 b2 (by rw [e1]; exact hu') ?_
  refine Subscript_ (Cb.eval hk hs hc cb1 (keep_cell hP hkp cb2) (Cy.eval hk hs hc cy1 (keep_cell hP hkp cy2) ?_))
  refine item_listR (keep_list hP hkp pys).isList y0 y63 hv' ?_
  refine hcmp _ _ _ _ _ _ _ _ (wpAny_truthy_bool ?_)
  exact ⟨hpz.symm, keeps_refl _⟩
end
end V3
namespace V3
open PySem.Spec PySem L2 PyProof.Rows GxR
/-! ### data without lists lasts while lists change -/
structure KeepT (H H' : Hp) : Prop where
  tup : ∀ b xs, H b = some (.tup xs) → H' b = some (.tup xs)
  frz : ∀ b o u, H b = some (.frz o u) → H' b = some (.frz o u)
theorem KeepT.refl (H : Hp) : KeepT H H := ⟨fun _ _ h => h, fun _ _ _ h => h⟩
theorem KeepT.trans {H H1 H2 : Hp} (a : KeepT H H1) (b : KeepT H1 H2) : KeepT H H2 := ⟨fun c xs h => b.tup c xs (a.tup c xs h), fun c o u h => b.frz c o u (a.frz c o u h)⟩
theorem Same.kt {H H' : Hp} (e : Same H H') : KeepT H H' := ⟨fun _ _ h => e _ _ h, fun _ _ _ h => e _ _ h⟩
theorem kt_lst {H : Hp} {a : Addr} {xs : List V} {o : HO} (h : H a = some (.lst xs)) : KeepT H (upd H a o) :=
  ⟨fun b ys e => by rw [upd_ne (fun z => by rw [z, h] at e; cases e)]; exact e, fun b o' u e => by rw [upd_ne (fun z => by rw [z, h] at e; cases e)]; exact e⟩
theorem kt_new {H : Hp} {p : Addr} {o : HO} (h : H p = none) : KeepT H (upd H p o) := Same.kt (same_upd h)
theorem kt_tab {P : Addr} {H H' : Hp} (h : Tabbed P H H') (hP : TabG H P) : KeepT H H' := by
  obtain ⟨ps, hp, _⟩ := hP
  refine ⟨fun b xs e => ?_, fun b o u e => ?_⟩
  · rw [h.2 b (fun z => by rw [z, hp] at e; cases e)]
    exact e
  · rw [h.2 b (fun z => by rw [z, hp] at e; cases e)]
    exact e
theorem KeepT.sqT {K : PySem.W.Frag} {H H' : Hp} {a : Addr} {xs : List V} (e : KeepT H H') (h : SqT K H a xs) : SqT K H' a xs := by
  (rcases h with (h | ⟨o, h⟩) | h)
  · exact .inl (.inl (e.tup _ _ h))
  · exact .inl (.inr ⟨o, e.frz _ _ _ h⟩)
  · exact .inr h
mutual
inductive DpT (K : PySem.W.Frag) (H : Hp) : V → PyData → Prop
  | non : DpT K H .non .none
  | bl (b : Bool) : DpT K H (.bl b) (.bool b)
  | int (i : Int) : DpT K H (.int i) (.int i)
  | str (x : Str) : DpT K H (.str x) (.str x)
  | tup {a : Addr} {xs : List V} {ds : List PyData} : SqT K H a xs → DpTAll K H xs ds → DpT K H (.ref a) (.tuple ds)
inductive DpTAll (K : PySem.W.Frag) (H : Hp) : List V → List PyData → Prop
  | nil : DpTAll K H [] []
  | cons {v : V} {vs : List V} {d : PyData} {ds : List PyData} : DpT K H v d → DpTAll K H vs ds → DpTAll K H (v :: vs) (d :: ds)
end
mutual
theorem DpT.keep {K : PySem.W.Frag} {H H' : Hp} (e : KeepT H H') : ∀ {v : V} {d : PyData}, DpT K H v d → DpT K H' v d
  | _, _, .non => .non
  | _, _, .bl b => .bl b
  | _, _, .int i => .int i
  | _, _, .str x => .str x
  | _, _, .tup h a => .tup (e.sqT h) (DpTAll.keep e a)
theorem DpTAll.keep {K : PySem.W.Frag} {H H' : Hp} (e : KeepT H H') : ∀ {vs : List V} {ds : List PyData}, DpTAll K H vs ds → DpTAll K H' vs ds
  | _, _, .nil => .nil
  | _, _, .cons a b => .cons (DpT.keep e a) (DpTAll.keep e b)
end
mutual
theorem DpT.dp {K : PySem.W.Frag} {H : Hp} : ∀ {v : V} {d : PyData}, DpT K H v d → Dp K H v d
  | _, _, .non => .non
  | _, _, .bl b => .bl b
  | _, _, .int i => .int i
  | _, _, .str x => .str x
  | _, _, .tup h a => .tup h (DpTAll.dp a)
theorem DpTAll.dp {K : PySem.W.Frag} {H : Hp} : ∀ {vs : List V} {ds : List PyData}, DpTAll K H vs ds → DpAll K H vs ds
  | _, _, .nil => .nil
  | _, _, .cons a b => .cons (DpT.dp a) (DpTAll.dp b)
end
section
variable {K : PySem.W.Frag} {H : Hp}
theorem dtTup {v : V} {ds : List PyData} (h : DpT K H v (.tuple ds)) : ∃ p xs, v = .ref p ∧ SqT K H p xs ∧ DpTAll K H xs ds := by
  cases h with
  | tup a b => exact ⟨_, _, rfl, a, b⟩
theorem dtAll_app {vs ws : List V} {ds es : List PyData} (h : DpTAll K H vs ds) (g : DpTAll K H ws es) : DpTAll K H (vs ++ ws) (ds ++ es) := by
  induction ds generalizing vs with
  | nil =>
    cases h
    exact g
  | cons x ds ih =>
    cases h with
    | cons a b => exact .cons a (ih b)
theorem dtAll_len {vs : List V} {ds : List PyData} (h : DpTAll K H vs ds) : vs.length = ds.length := dpAll_len h.dp
theorem dtAll_getV {vs : List V} {ds : List PyData} {i : Nat} {v : V} (h : DpTAll K H vs ds) (e : vs[i]? = some v) : ∃ d, ds[i]? = some d ∧ DpT K H v d := by
  induction ds generalizing vs i with
  | nil =>
    cases h
    simp at e
  | cons x ds ih =>
    cases h with
    | cons a b =>
      cases i with
      | zero =>
        have q := Option.some.inj e
        subst q
        exact ⟨_, rfl, a⟩
      | succ i =>
        have q := ih (i := i) b
        exact q e
theorem dtAll_get {vs : List V} {ds : List PyData} {i : Nat} {d : PyData} (h : DpTAll K H vs ds) (e : ds[i]? = some d) : ∃ v, vs[i]? = some v ∧ DpT K H v d := by
  induction ds generalizing vs i with
  | nil => simp at e
  | cons x ds ih =>
    cases h with
    | cons a b =>
      cases i with
      | zero =>
        have q : x = d := Option.some.inj e
        subst q
        exact ⟨_, rfl, a⟩
      | succ i =>
        have q := ih (i := i) b
        exact q e
theorem dtFr {v : V} {q : Int × Int} (h : DpT K H v (frD q)) : ∃ p, v = .ref p ∧ SqT K H p [.int q.1, .int q.2] := dpFr h.dp
theorem tFr {v : V} {q : Int × Int} (h : Dp K H v (frD q)) : DpT K H v (frD q) := by
  obtain ⟨p, rfl, hs⟩ := dpFr h
  exact .tup hs (.cons (.int _) (.cons (.int _) .nil))
theorem tFrU {p : Addr} {q : Int × Int} (h : H p = some (.tup [.int q.1, .int q.2])) : DpT K H (.ref p) (frD q) := .tup (SqT.of h) (.cons (.int q.1) (.cons (.int q.2) .nil))
theorem tFrs : ∀ {vs : List V} {qs : List (Int × Int)}, DpAll K H vs (qs.map frD) → DpTAll K H vs (qs.map frD)
  | _, [], h => by
    cases h
    exact .nil
  | _, q :: r, h => by
    cases h with
    | cons a b => exact .cons (tFr a) (tFrs b)
theorem tRow {v : V} {qs : List (Int × Int)} (h : Dp K H v (rowD qs)) : DpT K H v (rowD qs) := by
  obtain ⟨p, xs, rfl, hs, ha⟩ := dpTup h
  exact .tup hs (tFrs ha)
end

/-! ### lists of ints: !=, o[i] op= e -/
theorem shaped_ints (ns : List Int) : SeqAt.shaped (.list (ns.map PyData.int)) = true := by
  have h1 : ∀ ns : List Int, PyData.canLayAll0 (ns.map PyData.int) = true := fun ns => by
    induction ns with
    | nil => rfl
    | cons a r ih => simp only [List.map_cons, PyData.canLayAll0, PyData.canLay0, ih, Bool.and_self]
  have h2 : ∀ ns : List Int, PyData.depthAll (ns.map PyData.int) = 0 := fun ns => by
    induction ns with
    | nil => rfl
    | cons a r ih => simp only [List.map_cons, PyData.depthAll, PyData.depth, ih, Nat.max_self]
  unfold SeqAt.shaped
  simp only [PyData.canLay0, PyData.depth, h1, h2, Bool.true_and, decide_eq_true_eq]
  omega
theorem eqv_ints (a b : List Int) : PyData.eqv (.list (a.map PyData.int)) (.list (b.map PyData.int)) = decide (a = b) := by
  rw [PyData.eqv]
  exact PySem.W.ked_eqvAll a b
theorem pget_list {X : Cx} : PGet X (rIxL X.K) := by
  intro pins₀ s σ₀ H o i ov₀ iv₀ Q I ro₀ ri₀ h
  obtain ⟨p, xs, k, z, rfl, rfl, hq₀, he₀, q⟩ := h
  cases ro₀
  obtain ⟨t₀, rfl⟩ := ri₀
  obtain ⟨its₀, r₀, pl₀, hz₀⟩ := I.list hq₀
  obtain ⟨j₀, h1₀, h2₀, h3₀, h4₀, h5₀⟩ := atI_get he₀
  obtain ⟨w₀, ew₀, rw₀'⟩ := r₀.get h2₀
  have hl₀ := r₀.length
  have hn₀ := line63
  have fin₀ : EP X pins₀ σ₀ Q w₀ s := ⟨z, H, I, rw₀', q⟩
  by_cases h0₀ : 0 ≤ k
  · have hj₀ : k.toNat = j₀ := by
      rw [seqIndex_of h0₀ h5₀] at h1₀
      exact Option.some.inj h1₀
    exact wpAny_getItem_list pl₀.isList h0₀ (by omega) (by rw [hj₀]; simpa using ew₀) fin₀
  · have hj₀ : (k + (its₀.toArray.size : Int)).toNat = j₀ := by
      rw [seqIndex_neg (by omega) h4₀] at h1₀
      rw [List.size_toArray, ← hl₀]
      exact Option.some.inj h1₀
    exact wpAny_getItem_list_neg pl₀.isList (by omega) (by rw [List.size_toArray] <;> omega) (by omega) (by rw [hj₀]; simpa using ew₀) fin₀

/-! ### a def that holds a generator expression -/
structure AtC (K : PySem.W.Frag) (mg : Str → Option Value) (x : Str) (st : Stmt) (c : Addr) : Prop where
  ex : ∃ (f : Addr) (oc : Value) (od : Option Addr) (kV doc pm : Value) (an : Option Addr) (ct : Value) (osl : Array (Option Value)), mg x = some (.ref f) ∧
    K.lookup f = some ⟨oc, od, .func (PySem.W.fnOf x x (defArgs st) (defBody st) (defScope st) .none kV doc pm an (.ref c) ct), osl⟩ ∧ PySem.W.codeIn K (.ref c) x = true ∧ PySem.W.keepIn K (.ref f) = true
section
variable {mg : Str → Option Value} {base : Heap} {K : PySem.W.Frag} {P : Program} {w : World}
theorem Df.mkC {x : Str} {st : Stmt} {c : Addr} {N ps : List Str} {k : Nat} {sp : Sp} (F : AtC K mg x st c) (S : FnScope N ps (defScope st)) (len : ∀ vs H Q E, sp vs H Q E → vs.length = ps.length)
    (hb : ∀ (kV doc pm : Value) (an : Option Addr) (cdv ct : Value) (us : List Value), us.length = ps.length → bindArgs (PySem.W.fnOf x x (defArgs st) (defBody st) (defScope st) .none kV doc pm an cdv ct) ⟨us, []⟩ = pure (ps.zip us))
    (hbody : ∀ (f : Addr) (A : Around) (outer : List Env) (s : Shared) (H : Hp) (vs : List V) (Q : VK) (E : XK), Room k (A.deeper (envOfC x (defScope st) s.heap.objs.size f (.ref c))) → sp vs H Q E →
      ∃ t, PSs (cxOf CX0 P w K mg base N x (defScope st) f (.ref c) A outer s H E).nox (defBody st) t ∧ t { nx := fun _ H' => Q .non H', rt := Q } (start N vs) H) : Df P w K mg base x (k + 1) ps sp := by
  obtain ⟨f, oc, od, kV, doc, pm, an, ct, osl, g, lk, hcd, hk⟩ := F.ex
  refine ⟨f, _, g, hk, .all (hb kV doc pm an (.ref c) ct), fn_of lk hcd S len fun A outer s H vs Q E hr hsp => ?_, oc, od, osl, lk⟩
  obtain ⟨t, h, q⟩ := hbody f A outer s H vs Q E hr hsp
  exact ⟨t, h.nox, q⟩
end
/-- all but the table at P stands -/
def But (P : Addr) (H H' : Hp) : Prop := ∀ b o, b ≠ P → H b = some o → H' b = some o
theorem But.trans {P : Addr} {H H1 H2 : Hp} (a : But P H H1) (b : But P H1 H2) : But P H H2 := fun c o n h => b c o n (a c o n h)
theorem But.refl (P : Addr) (H : Hp) : But P H H := fun _ _ _ h => h
theorem Same.but {P : Addr} {H H' : Hp} (e : Same H H') : But P H H' := fun b o _ h => e b o h
theorem tab_but {P : Addr} {H H' : Hp} (h : Tabbed P H H') : But P H H' := fun b o n e => by rw [h.2 b n]; exact e
theorem But.kt {P : Addr} {H H' : Hp} (h : But P H H') (hP : TabG H P) : KeepT H H' := by
  obtain ⟨ps, hp, _⟩ := hP
  exact ⟨fun b xs e => h b _ (fun z => by rw [z, hp] at e; cases e) e, fun b o u e => h b _ (fun z => by rw [z, hp] at e; cases e) e⟩
theorem But.seq {P : Addr} {K : PySem.W.Frag} {H H' : Hp} {a : Addr} {xs : List V} (e : But P H H') (hP : TabG H P) (h : SqL K H a xs) : SqL K H' a xs := by
  obtain ⟨ps, hp, _⟩ := hP
  (rcases h with (h | ⟨o, h⟩) | h)
  · exact .inl (.inl (e _ _ (fun z => by rw [z, hp] at h; cases h) h))
  · exact .inl (.inr ⟨o, e _ _ (fun z => by rw [z, hp] at h; cases h) h⟩)
  · exact .inr h
theorem TabG.same {P : Addr} {H H' : Hp} (h : TabG H P) (e : Same H H') : TabG H' P := by
  obtain ⟨ps, hp, t⟩ := h
  exact ⟨ps, e _ _ hp, t⟩
theorem TabG.lst {P a : Addr} {H : Hp} {xs : List V} {o : HO} (h : TabG H P) (e : H a = some (.lst xs)) : TabG (upd H a o) P := by
  obtain ⟨ps, hp, t⟩ := h
  exact ⟨ps, by rw [upd_ne (fun z => by rw [z, e] at hp; cases hp)]; exact hp, t⟩
end V3
/-! A generator expression whose tests and element may call defs: its frame and the bareness of the other generators are known. -/
namespace V3
open PySem.Spec PySem L2 PyProof.Rows GxR
section
variable {w : World} {prog : Program} {A : Around}
abbrev testsOf (ifs : List Expr) (ce : Env) : Sem Bool := forIn ifs true fun c r => if r = true then do let ok ← isTrue c ce (eval c ce); pure (ForInStep.yield ok) else pure (ForInStep.yield r)
/-- what stood is kept, of the frames fs all but the slots -/
def KM (fs : List Addr) (h h' : Heap) : Prop := ∀ b o, h.get? b = some o → (b ∉ fs → h'.get? b = some o) ∧ ∃ sl, h'.get? b = some { o with slots := sl }
theorem KM.trans {fs : List Addr} {h h1 h2 : Heap} (p : KM fs h h1) (q : KM fs h1 h2) : KM fs h h2 := fun b o it => by
  obtain ⟨p1, sl, p2⟩ := p b o it
  obtain ⟨_, sl2, q2⟩ := q b _ p2
  exact ⟨fun nf => (q b o (p1 nf)).1 nf, sl2, q2⟩
theorem KM.exact {fs : List Addr} {h h1 : Heap} (k : ∀ b o, h.get? b = some o → h1.get? b = some o) : KM fs h h1 := fun b o it => ⟨fun _ => k b o it, o.slots, k b o it⟩
theorem KM.ns {fs : List Addr} {h h1 : Heap} {C : Addr} {mp : Str → Option Value} (k : KM fs h h1) (n : h.Ns C mp) : h1.Ns C mp := by
  obtain ⟨o, es, ep, at_, dat, more⟩ := n
  obtain ⟨_, sl, q⟩ := k C o at_
  exact ⟨_, es, ep, q, dat, more⟩
/-- .. and other generators may be new -/
structure KeptG (fs : List Addr) (t t' : Shared) : Prop where
  os : t'.os = t.os
  bare : AllBare t'.gens
  heap : KM fs t.heap t'.heap
/-- .. but for the generator's own frame and what its iterator writes -/
structure SinceG (C : Addr) (wr fs : List Addr) (t t' : Shared) : Prop where
  os : t'.os = t.os
  bare : AllBare t'.gens
  size : t.gens.size ≤ t'.gens.size
  heap : ∀ b o, b ≠ C → b ∉ wr → t.heap.get? b = some o → (b ∉ fs → t'.heap.get? b = some o) ∧ ∃ sl, t'.heap.get? b = some { o with slots := sl }
theorem SinceG.refl {C : Addr} {wr fs : List Addr} {t : Shared} (b : AllBare t.gens) : SinceG C wr fs t t := ⟨rfl, b, Nat.le_refl _, fun _ o _ _ it => ⟨fun _ => it, o.slots, it⟩⟩
theorem SinceG.step {C : Addr} {wr fs : List Addr} {t t' : Shared} {hp : Heap} {tk : Nat} (h : SinceG C wr fs t t') (k : ∀ b o, b ≠ C → b ∉ wr → t'.heap.get? b = some o → hp.get? b = some o) : SinceG C wr fs t { t' with heap := hp, toks := tk } :=
  ⟨h.os, h.bare, h.size, fun b o nc nw it => by
    obtain ⟨p1, sl, p2⟩ := h.heap b o nc nw it
    exact ⟨fun nf => k b o nc nw (p1 nf), sl, k b _ nc nw p2⟩⟩
theorem SinceG.more {C : Addr} {wr fs : List Addr} {t t1 t2 : Shared} (h : SinceG C wr fs t t1) (z : t1.gens.size ≤ t2.gens.size) (k : KeptG fs t1 t2) : SinceG C wr fs t t2 :=
  ⟨k.os.trans h.os, k.bare, Nat.le_trans h.size z, fun b o nc nw it => by
    obtain ⟨p1, sl, p2⟩ := h.heap b o nc nw it
    obtain ⟨_, sl2, q2⟩ := k.heap b _ p2
    exact ⟨fun nf => (k.heap b o (p1 nf)).1 nf, sl2, q2⟩⟩
/-- what was there when the generator was made -/
def KeptO (old wr fs : List Addr) (ref h : Heap) : Prop := ∀ b ∈ old, b ∉ wr → ∀ o, ref.get? b = some o → (b ∉ fs → h.get? b = some o) ∧ ∃ sl, h.get? b = some { o with slots := sl }
theorem KeptO.exact {old wr fs : List Addr} {ref h h1 : Heap} (p : KeptO old wr fs ref h) (k : ∀ b ∈ old, b ∉ wr → ∀ o, h.get? b = some o → h1.get? b = some o) : KeptO old wr fs ref h1 := fun b hb nw o it => by
  obtain ⟨p1, sl, p2⟩ := p b hb nw o it
  exact ⟨fun nf => k b hb nw o (p1 nf), sl, k b hb nw _ p2⟩
theorem KeptO.km {old wr fs : List Addr} {ref h h1 : Heap} (p : KeptO old wr fs ref h) (k : KM fs h h1) : KeptO old wr fs ref h1 := fun b hb nw o it => by
  obtain ⟨p1, sl, p2⟩ := p b hb nw o it
  obtain ⟨_, sl2, q2⟩ := k b _ p2
  exact ⟨fun nf => (k b o (p1 nf)).1 nf, sl2, q2⟩
/-- what is asked of the tests and of the element at each thing that is walked -/
structure QuietF (prog : Program) (w : World) (ce : Env) (x : Str) (ifs : List Expr) (elt : Expr) (old wr fs : List Addr) (Dr : Nat → Value → Prop) (pz : Nat → Bool) (F : Nat → Value → Prop) (ref : Heap) (fr : Option (List Env)) (D U : Nat) : Prop where
  tests : ∀ (B : Around) Ex i v (t : Shared) mp, B.handled = none → B.frames = fr → B.depth ≤ D → B.units ≤ U → AllBare t.gens → Dr i v → t.heap.Ns ce.locals mp → mp x = some v → KeptO old wr fs ref t.heap →
    wpAny (model prog w) B (testsOf ifs ce) (fun ok t' => ok = pz i ∧ KeptG fs t t') Ex t
  elt : ∀ (B : Around) Ex i v (t : Shared) mp, B.handled = none → B.frames = fr → B.depth ≤ D → B.units ≤ U → AllBare t.gens → Dr i v → pz i = true → t.heap.Ns ce.locals mp → mp x = some v → KeptO old wr fs ref t.heap →
    wpAny (model prog w) B (eval elt ce) (fun y t' => F i y ∧ KeptG fs t t') Ex t
/-- what the walker may count on from one thing to the next -/
def protoB (C : Addr) (fp old wr fs : List Addr) (pz : Nat → Bool) (n : Nat) (F : Nat → Value → Prop) : Protocol := fun left t0 v t go =>
  (∃ i, (passing pz n 0)[(passing pz n 0).length - 1 - left]? = some i ∧ F i v) ∧ SinceG C wr fs t0 t ∧
    ∀ u : Shared, (∀ b ∈ C :: (fp ++ old), ∀ o, t.heap.get? b = some o → u.heap.get? b = some o) → AllBare u.gens → go (.send .none) u
abbrev endB (C : Addr) (wr fs : List Addr) : GenEnd := fun n t0 r t1 => r = .ok .next ∧ (n = 0 ∧ SinceG C wr fs t0 t1)
abbrev loopC (elt : Expr) (x : Str) (px : Pos) (iter : Expr) (ifs : List Expr) (scope : Scope) (pos : Pos) (I : Addr) (ce : Env) : Code := .compLoop (.GeneratorExp elt [⟨.Name x px, iter, ifs, 0⟩] scope pos) 0 (.ref I) .none ce
abbrev startC (elt : Expr) (x : Str) (px : Pos) (iter : Expr) (ifs : List Expr) (scope : Scope) (pos : Pos) (I : Addr) (ce : Env) : Code := .compStart (.GeneratorExp elt [⟨.Name x px, iter, ifs, 0⟩] scope pos) 0 (.ref I) .none ce
theorem seg_loopF {elt iter : Expr} {x : Str} {px : Pos} {ifs : List Expr} {scope : Scope} {pos : Pos} {I : Addr} {fp old wr fs : List Addr} {n : Nat} {Dr : Nat → Value → Prop} {St : Nat → Heap → Prop} {ce : Env} {fr : Option (List Env)}
    (quiet0 : A.handled = none) (frA : (A.over (loopC elt x px iter ifs scope pos I ce) []).frames = fr) (Wk : ∀ B : Around, B.handled = none → Walks prog w B I fp wr n Dr St) (pz : Nat → Bool) (F : Nat → Value → Prop) (ref : Heap)
    (kx : ce.kindOf x = some .local) (plain : (ce.scope.kind == .class || (ce.scope.kind == .module && ce.locals != ce.globals)) = false)
    (noco : ce.scope.isCoroutine = false) (apart : ce.locals ∉ fp) (apartO : ce.locals ∉ old) (sepF : ∀ b ∈ fp, b ∉ fs) (hQ : QuietF prog w ce x ifs elt old wr fs Dr pz F ref fr (A.depth + 1) (A.units + 3)) :
    ∀ (k i : Nat) (t0 t : Shared) (mp : Str → Option Value), n - i = k → i ≤ n → St i t.heap → t.heap.Ns ce.locals mp → SinceG ce.locals wr fs t0 t →
      KeptO old wr fs ref t.heap →
      Seg (model prog w) A (endB ce.locals wr fs) (protoB ce.locals fp old wr fs pz n F) (passing pz n i).length t0 (loopC elt x px iter ifs scope pos I ce) ((model prog w).den (loopC elt x px iter ifs scope pos I ce)) [] t := by
  have q0 : (A.over (loopC elt x px iter ifs scope pos I ce) []).handled = none := quiet0
  have qd : (A.over (loopC elt x px iter ifs scope pos I ce) []).depth ≤ A.depth + 1 := Nat.le_of_eq rfl
  have qu : (A.over (loopC elt x px iter ifs scope pos I ce) []).units ≤ A.units + 3 := Nat.le_of_eq rfl
  have offW : ce.locals ∉ wr := fun z => apart ((Wk A quiet0).sub _ z)
  intro k
  induction k with
  | zero =>
    intro i t0 t mp ek il st ns since kept
    obtain rfl : i = n := by omega
    show Seg _ A _ _ _ t0 _ ((compTurn (.GeneratorExp elt [⟨.Name x px, iter, ifs, 0⟩] scope pos) 0 (.ref I) .none ce).onRaise (leaving ce)) [] t
    (rw [compTurn_gen, Sem.onRaise_eq_wrap])
    (refine seg_bind_wrap (wpAny_standAt ?_))
    refine seg_bind_wrap ((Wk _ q0).done t _ _ st fun hp tk stay => ?_)
    exact seg_end (.ok .next) ⟨rfl, by rw [passing_end]; rfl, since.step fun b o _ nw it => stay b o nw it⟩
  | succ k again =>
    intro i t0 t mp ek il st ns since kept
    have more : i < n := by omega
    show Seg _ A _ _ _ t0 _ ((compTurn (.GeneratorExp elt [⟨.Name x px, iter, ifs, 0⟩] scope pos) 0 (.ref I) .none ce).onRaise (leaving ce)) [] t
    (rw [compTurn_gen, Sem.onRaise_eq_wrap])
    (refine seg_bind_wrap (wpAny_standAt ?_))
    refine seg_bind_wrap ((Wk _ q0).item i t _ _ more st fun v ha ta drawn sta ka => ?_)
    (refine seg_bind_wrap (wpAny_of_eq (rfl : letOwnedTupleGo (.Name x px) (.ref I) v = pure ()) ?_))
    refine seg_bind_wrap (wpAny_assign_Name (wpAny_storeName_local kx (ns.at' fun o it => ka _ o offW it) (fun hb nsb sb => ?_) plain))
    have stayB : ∀ b o, b ≠ ce.locals → b ∉ wr → t.heap.get? b = some o → hb.get? b = some o := fun b o nc nw it => sb.extBut b o nc (ka b o nw it)
    have stb : St (i + 1) hb := (Wk A quiet0).frame _ _ _ sta fun b hm o it => sb.extBut b o (fun z => apart (z ▸ hm)) it
    have keptB : KeptO old wr fs ref hb := kept.exact fun b hm nw o it => stayB b o (fun z => apartO (z ▸ hm)) nw it
    have bareT : AllBare t.gens := since.bare
    refine seg_bind_wrap (GenW.wpAny_gsz (n := t.gens.size) (Nat.le_refl _) (wpAny_mono (hQ.tests _ _ i v _ _ q0 frA qd qu bareT drawn nsb (by simp) keptB) (fun ok tc kc szc => ?_) fun _ _ z => z))
    obtain ⟨rfl, kc⟩ := kc
    have stc : St (i + 1) tc.heap := (Wk A quiet0).frame _ _ _ stb fun b hm o it => (kc.heap b o it).1 (sepF b hm)
    have nsc := kc.heap.ns nsb
    have sinceC : SinceG ce.locals wr fs t0 tc := (since.step stayB).more szc kc
    cases ep : pz i with
    | false =>
      rw [passing_false more ep]
      (simp only [Bool.false_eq_true, if_false])
      exact seg_again rfl (again (i + 1) t0 _ _ (by omega) more stc nsc sinceC (keptB.km kc.heap))
    | true =>
      rw [passing_true more ep, List.length_cons]
      simp only [if_true]
      have out : ∀ v, yieldOut ce v = yieldValue v := fun v => by simp only [yieldOut, noco, Bool.false_eq_true, if_false]
      simp only [out]
      (rw [Sem.bind_eq_wrap', Sem.bind_eq_wrap', Sem.wrap_wrap, Sem.wrap_wrap])
      refine seg_wrap (GenW.wpAny_gsz (n := tc.gens.size) (Nat.le_refl _) (wpAny_mono (hQ.elt _ _ i v _ _ q0 frA qd qu sinceC.bare drawn ep nsc (by simp) (keptB.km kc.heap)) (fun y td hd szd => ?_) fun _ _ z => z))
      obtain ⟨fy, kd⟩ := hd
      refine seg_at (seg_yield rfl rfl rfl ⟨⟨i, passing_here more ep, fy⟩, sinceC.more szd kd, fun u hal bu => ?_⟩)
      refine seg_again rfl (again (i + 1) u u _ (by omega) more ((Wk A quiet0).frame _ _ _ stc fun b hm o it => hal b (List.mem_cons_of_mem _ (List.mem_append_left _ hm)) o ((kd.heap b o it).1 (sepF b hm)))
        ((kd.heap.ns nsc).at' fun o it => hal _ (List.mem_cons_self ..) o it) (SinceG.refl bu) (((keptB.km kc.heap).km kd.heap).exact fun b hm _ o it => hal b (List.mem_cons_of_mem _ (List.mem_append_right _ hm)) o it))
theorem seg_startF {elt iter : Expr} {x : Str} {px : Pos} {ifs : List Expr} {scope : Scope} {pos : Pos} {I : Addr} {fp old wr fs : List Addr} {n : Nat} {Dr : Nat → Value → Prop} {St : Nat → Heap → Prop} {ce : Env} {fr : Option (List Env)}
    (quiet0 : A.handled = none) (frA : (A.over (loopC elt x px iter ifs scope pos I ce) []).frames = fr) (Wk : ∀ B : Around, B.handled = none → Walks prog w B I fp wr n Dr St) (pz : Nat → Bool) (F : Nat → Value → Prop) (ref : Heap)
    (kx : ce.kindOf x = some .local) (plain : (ce.scope.kind == .class || (ce.scope.kind == .module && ce.locals != ce.globals)) = false)
    (noco : ce.scope.isCoroutine = false) (apart : ce.locals ∉ fp) (apartO : ce.locals ∉ old) (sepF : ∀ b ∈ fp, b ∉ fs) (hQ : QuietF prog w ce x ifs elt old wr fs Dr pz F ref fr (A.depth + 1) (A.units + 3))
    (t0 t : Shared) (mp : Str → Option Value) (st : St 0 t.heap) (ns : t.heap.Ns ce.locals mp) (since : SinceG ce.locals wr fs t0 t) (kept : KeptO old wr fs ref t.heap) :
    Seg (model prog w) A (endB ce.locals wr fs) (protoB ce.locals fp old wr fs pz n F) (passing pz n 0).length t0 (startC elt x px iter ifs scope pos I ce) ((model prog w).den (startC elt x px iter ifs scope pos I ce)) [] t := by
  have q0 : (A.over (startC elt x px iter ifs scope pos I ce) []).handled = none := quiet0
  have lp := seg_loopF (iter := iter) (px := px) (scope := scope) (pos := pos) quiet0 frA Wk pz F ref kx plain noco apart apartO sepF hQ n 0 t0 t mp (Nat.sub_zero _) (Nat.zero_le _) st ns since kept
  show Seg _ A _ _ _ t0 _ ((compStart (.GeneratorExp elt [⟨.Name x px, iter, ifs, 0⟩] scope pos) 0 (.ref I) .none ce).onRaise (leaving ce)) [] t
  unfold compStart
  rw [Sem.onRaise_eq_wrap]
  show Seg _ A _ _ _ t0 _ ((ask >>= _).wrap _ _ _ _) [] t
  (refine seg_bind_wrap (wpAny_askSetting ?_))
  split
  · exact seg_again rfl lp
  · first
      | exact seg_bind_wrap (wpAny_rule (seg_bind_wrap (wpAny_standAt (seg_bind_wrap ((Wk _ q0).self 0 t _ _ st (seg_again rfl lp))))))
      | (refine seg_bind_wrap (wpAny_rule ?_)
         show Seg _ A _ _ _ t0 _ ((standAt iter.pos >>= _).wrap _ _ _ _) [] t
         exact seg_bind_wrap (wpAny_standAt (seg_bind_wrap ((Wk _ q0).self 0 t _ _ st (seg_again rfl lp)))))
end
end V3
namespace V3
open PySem.Spec PySem L2 PyProof.Rows GxR
theorem bare_set {t : Shared} {g : Nat} {gs : GenState} (b : AllBare t.gens) (hg : gs.bare = true) : AllBare (t.setGen g gs).gens := fun y hy => by
  rcases Array.mem_or_eq_of_mem_setIfInBounds hy with z | z
  · exact b y z
  · rw [z]
    exact hg
theorem set_size (t : Shared) (g : Nat) (gs : GenState) : (t.setGen g gs).gens.size = t.gens.size := by simp [Shared.setGen]
theorem set_at {t : Shared} {g : Nat} {gs : GenState} (h : g < t.gens.size) : (t.setGen g gs).gens[g]? = some gs := by
  simp [Shared.setGen, h]
/-- what a walk leaves: all but wr stands, of the frames fs all but the slots; the generators stay bare -/
structure MovedV (wr fs : List Addr) (t t' : Shared) : Prop where
  os : t'.os = t.os
  bare : AllBare t'.gens
  heap : ∀ b o, b ∉ wr → t.heap.get? b = some o → (b ∉ fs → t'.heap.get? b = some o) ∧ ∃ sl, t'.heap.get? b = some { o with slots := sl }
theorem MovedV.trans {wr fs : List Addr} {t t1 t2 : Shared} (p : MovedV wr fs t t1) (q : MovedV wr fs t1 t2) : MovedV wr fs t t2 := ⟨q.os.trans p.os, q.bare, fun b o n it => by
  obtain ⟨p1, sl, p2⟩ := p.heap b o n it
  obtain ⟨_, sl2, q2⟩ := q.heap b _ n p2
  exact ⟨fun nf => (q.heap b o n (p1 nf)).1 nf, sl2, q2⟩⟩
structure WalksV (prog : Program) (w : World) (A : Around) (I : Addr) (wr fs : List Addr) (n : Nat) (P : Nat → Value → Prop) (St : Nat → Shared → Prop) : Prop where
  item : ∀ i (t : Shared) (Q : Option Value → Shared → Prop) (E : Value → Shared → Prop), i < n → St i t → (∀ v t', P i v → St (i + 1) t' → MovedV wr fs t t' → Q (some v) t') → wpAny (model prog w) A (pyNext (.ref I)) Q E t
  done : ∀ (t : Shared) (Q : Option Value → Shared → Prop) (E : Value → Shared → Prop), St n t → (∀ t', MovedV wr fs t t' → Q none t') → wpAny (model prog w) A (pyNext (.ref I)) Q E t
  self : ∀ (t : Shared) (Q : Value → Shared → Prop) (E : Value → Shared → Prop), St 0 t → Q (.ref I) t → wpAny (model prog w) A (pyIter (.ref I)) Q E t
section
variable {w : World} {prog : Program} {A : Around}
theorem WalksV.down {I : Addr} {wr fs : List Addr} {n : Nat} {P : Nat → Value → Prop} {St : Nat → Shared → Prop} (Wk : WalksV prog w A.in1 I wr fs n P St) : WalksV prog w A I wr fs n P St :=
  ⟨fun i t Q E il st k => wpAny_of_in1 (Wk.item i t Q E il st k), fun t Q E st k => wpAny_of_in1 (Wk.done t Q E st k), fun t Q E st k => wpAny_of_in1 (Wk.self t Q E st k)⟩
theorem WalksV.in4 {I : Addr} {wr fs : List Addr} {n : Nat} {P : Nat → Value → Prop} {St : Nat → Shared → Prop} (Wk : WalksV prog w A.in4 I wr fs n P St) : WalksV prog w A.in1 I wr fs n P St :=
  WalksV.down (A := A.in1) (WalksV.down (A := A.in1.in1) (WalksV.down (A := A.in1.in1.in1) Wk))
/-- the generator at a, number g, before its j-th thing -/
def AtB (prog : Program) (w : World) (A : Around) (a : Addr) (g : Nat) (C : Addr) (fp old wr fs : List Addr) (pz : Nat → Bool) (n : Nat) (F : Nat → Value → Prop) (j : Nat) (t : Shared) : Prop :=
  t.heap.IsGen a g ∧ t.heap.NoLimit ∧ AllBare t.gens ∧ ∃ gs, t.gens[g]? = some gs ∧ ∀ u : Shared, (∀ b ∈ C :: (fp ++ old), ∀ o, t.heap.get? b = some o → u.heap.get? b = some o) → AllBare u.gens →
    gs.Goes (model prog w) A.in1 (endB C wr fs) (protoB C fp old wr fs pz n F) ((passing pz n 0).length - j) (.send .none) u
theorem AtB.fresh {elt iter : Expr} {x : Str} {px : Pos} {ifs : List Expr} {scope : Scope} {pos : Pos} {I a : Addr} {g : Nat} {fp old wr fs : List Addr} {n : Nat} {Dr : Nat → Value → Prop} {St : Nat → Heap → Prop} {ce : Env} {fr : Option (List Env)}
    (quiet0 : A.handled = none) (frA : (A.in1.over (loopC elt x px iter ifs scope pos I ce) []).frames = fr) (Wk : ∀ B : Around, B.handled = none → Walks prog w B I fp wr n Dr St) (pz : Nat → Bool) (F : Nat → Value → Prop)
    (kx : ce.kindOf x = some .local) (plain : (ce.scope.kind == .class || (ce.scope.kind == .module && ce.locals != ce.globals)) = false)
    (noco : ce.scope.isCoroutine = false) (apart : ce.locals ∉ fp) (apartO : ce.locals ∉ old) (sepF : ∀ b ∈ fp, b ∉ fs) {t : Shared} {mp : Str → Option Value} (hQ : QuietF prog w ce x ifs elt old wr fs Dr pz F t.heap fr (A.depth + 1) (A.units + 4))
    (gen : t.heap.IsGen a g) (new : t.gens[g]? = some (.fresh (startC elt x px iter ifs scope pos I ce))) (st : St 0 t.heap) (ns : t.heap.Ns ce.locals mp) (lim : t.heap.NoLimit) (bare : AllBare t.gens) : AtB prog w A a g ce.locals fp old wr fs pz n F 0 t :=
  ⟨gen, lim, bare, _, new, fun u hal bu => ⟨rfl, seg_startF (A := A.in1) quiet0 frA Wk pz F t.heap kx plain noco apart apartO sepF hQ u u mp ((Wk A quiet0).frame _ _ _ st fun b hm o it => hal b (List.mem_cons_of_mem _ (List.mem_append_left _ hm)) o it)
    (ns.at' fun o it => hal _ (List.mem_cons_self ..) o it) (SinceG.refl bu) fun b hm _ o it => ⟨fun _ => hal b (List.mem_cons_of_mem _ (List.mem_append_right _ hm)) o it, o.slots, hal b (List.mem_cons_of_mem _ (List.mem_append_right _ hm)) o it⟩⟩⟩
theorem walksB (quiet0 : A.handled = none) (a : Addr) (g : Nat) (C : Addr) (fp old wr fs : List Addr) (pz : Nat → Bool) (n : Nat) (F : Nat → Value → Prop) (ac : a ≠ C) (aw : a ∉ wr) (af : a ∉ fs)
    (room : A.depth < recursionLimit) (csC : cStatics ≠ C) (csW : cStatics ∉ wr) (csF : cStatics ∉ fs) :
    WalksV prog w A a (C :: wr) fs (passing pz n 0).length (fun j y => ∃ i, (passing pz n 0)[j]? = some i ∧ F i y) (AtB prog w A a g C fp old wr fs pz n F) where
  item := fun j t Q E jl st want => by
    obtain ⟨gen, lim, bare, gs, at_, goes⟩ := st
    obtain ⟨r, hr⟩ : ∃ r, (passing pz n 0).length - j = r + 1 := ⟨(passing pz n 0).length - j - 1, by omega⟩
    rw [hr] at goes
    have gl : g < t.gens.size := (Array.getElem?_eq_some_iff.mp at_).1
    refine wpAny_pyNext_genexpQ (P := fun k t0 t1 => k = 0 ∧ SinceG C wr fs t0 t1) quiet0 lim room gen at_ (goes _ (fun _ _ _ it => it) (bare_set bare rfl)) (fun v t1 gs1 b1 told => ?_) (fun t1 ended hp keep => ?_)
    · obtain ⟨⟨i, hi, fv⟩, since, go⟩ := told
      rw [show (passing pz n 0).length - 1 - (r + 1 - 1) = j by omega] at hi
      have gl1 : g < t1.gens.size := by
        have := since.size
        rw [set_size] at this
        omega
      have g1 : (t1.setGen g gs1).gens[g]? = some gs1 := set_at gl1
      obtain ⟨o, nm, qn, ho, more⟩ := gen
      obtain ⟨mc, nsc, nol⟩ := lim
      refine want v _ ⟨i, hi, fv⟩ ⟨⟨o, nm, qn, (since.heap a o ac aw ho).1 af, more⟩, ⟨mc, nsc.at' fun o it => (since.heap cStatics o csC csW it).1 csF, nol⟩, bare_set since.bare b1, gs1, g1, fun u hal bu => ?_⟩
        ⟨since.os, bare_set since.bare b1, fun b o hb it => since.heap b o (fun z => hb (z ▸ List.mem_cons_self ..)) (fun z => hb (List.mem_cons_of_mem _ z)) it⟩
      rw [show (passing pz n 0).length - (j + 1) = r by omega]
      exact go u hal bu
    · exact absurd ended.1 (Nat.succ_ne_zero r)
  done := fun t Q E st want => by
    obtain ⟨gen, lim, bare, gs, at_, goes⟩ := st
    rw [Nat.sub_self] at goes
    refine wpAny_pyNext_genexpQ (P := fun k t0 t1 => k = 0 ∧ SinceG C wr fs t0 t1) quiet0 lim room gen at_ (goes _ (fun _ _ _ it => it) (bare_set bare rfl)) (fun v t1 gs1 b1 told => ?_) (fun t1 ended hp keep => ?_)
    · obtain ⟨_, since, go⟩ := told
      exact (go t1 (fun _ _ _ it => it) since.bare).elim
    · obtain ⟨_, since⟩ := ended
      exact want _ ⟨since.os, bare_set since.bare rfl, fun b o hb it => by
        obtain ⟨p1, sl, p2⟩ := since.heap b o (fun z => hb (z ▸ List.mem_cons_self ..)) (fun z => hb (List.mem_cons_of_mem _ z)) it
        exact ⟨fun nf => keep b o (p1 nf), sl, keep b _ p2⟩⟩
  self := fun _ _ _ st want => wpAny_pyIter_gen st.1 want
/-- all(..) over such a walk of truths -/
theorem all_loopV {I : Addr} {wr fs : List Addr} {n : Nat} {P : Nat → Value → Prop} {St : Nat → Shared → Prop} {R : Result → Shared → Prop} (Wk : WalksV prog w A.in1 I wr fs n P St) (tr : Nat → Bool) (isB : ∀ i v, P i v → v = .bool (tr i)) :
    ∀ (k i : Nat) (t : Shared), n - i = k → i ≤ n → St i t → (∀ t', MovedV wr fs t t' → R (.ok (.ret (.bool (((List.range n).drop i).all tr)))) t') → codeAny (model prog w) A (.builtin "all.loop" ⟨[.ref I], []⟩) R t := by
  intro k
  induction k with
  | zero =>
    intro i t ek il st want
    obtain rfl : i = n := by omega
    (refine codeAny_builtin F.entry_all_loop ?_)
    (rw [Around.under_plainId F.plain_all_loop _])
    show wpAny _ A.in1 (pyNext (.ref I) >>= _) _ _ t
    refine wpAny_bind (Wk.done t _ _ st fun t' mv => wpAny_bind (wpAny_rule (wpAny_pure ?_)))
    have z := want t' mv
    rw [List.drop_of_length_le (Nat.le_of_eq List.length_range)] at z
    exact z
  | succ k again =>
    intro i t ek il st want
    have lt : i < n := by omega
    have cut : (List.range n).drop i = i :: (List.range n).drop (i + 1) := range_drop lt
    (refine codeAny_builtin F.entry_all_loop ?_)
    (rw [Around.under_plainId F.plain_all_loop _])
    show wpAny _ A.in1 (pyNext (.ref I) >>= _) _ _ t
    refine wpAny_bind (Wk.item i t _ _ lt st fun v t' pv st' mv => ?_)
    rw [isB i v pv]
    (refine wpAny_bind (wpAny_holding (wpAny_truthy_bool ?_)))
    (refine wpAny_bind (wpAny_letGo ?_))
    rw [cut] at want
    cases eb : tr i with
    | true =>
      simp only [if_true]
      refine wpAny_pure ⟨plainId_quiet F.plain_all_loop _, again (i + 1) _ (by omega) lt st' fun t2 mv2 => ?_⟩
      have z := want t2 (mv.trans mv2)
      rw [List.all_cons, eb, Bool.true_and] at z
      exact z
    | false =>
      simp only [Bool.false_eq_true, if_false, ite_false]
      (refine wpAny_bind (wpAny_rule (wpAny_pure ?_)))
      have z := want t' mv
      rw [List.all_cons, eb, Bool.false_and] at z
      exact z
theorem call_allV {E : Value → Shared → Prop} {s : Shared} {x : Value} {Q : Value → Shared → Prop}
    (h : wpAny (model prog w) A.in1 (pyIter x) (fun it t => ∃ I wr fs n P St tr, it = .ref I ∧ WalksV prog w A.in1 I wr fs n P St ∧ St 0 t ∧ (∀ i v, P i v → v = .bool (tr i)) ∧ ∀ t', MovedV wr fs t t' → Q (.bool ((List.range n).all tr)) t') E s) :
    (wpAny (model prog w) A (call (.builtin "all") [x]) Q E s) := by
  (refine call_function_tree F.kind_all F.plain_all F.entry_all (F.args_all1 _) ?_)
  unfold Builtin.«all»
  (refine wpAny_bind (m := oneArg "all" _) (wpAny_pure ?_))
  refine wpAny_bind (wpAny_mono h (fun it t ht => ?_) fun _ _ z => z)
  obtain ⟨I, wr, fs, n, P, St, tr, rfl, Wk, st, isB, want⟩ := ht
  exact wpAny_pure ⟨plainId_quiet F.plain_all_loop _, all_loopV Wk tr isB n 0 t rfl (Nat.zero_le _) st fun t' mv => by simpa using want t' mv⟩
end
end V3
namespace V3
open PySem.Spec PySem L2 PyProof.Rows GxR
section
variable {w : World} {prog : Program} {A : Around} {E : Value → Shared → Prop} {s : Shared}
/-- what the maker of such a generator has to know, behind the code object and the builtins -/
def MadeF (prog : Program) (w : World) (A : Around) (env : Env) (elt iter : Expr) (x : Str) (px : Pos) (ifs : List Expr) (scope : Scope) (cl : List (Str × Addr)) (pos : Pos) (Q : Value → Shared → Prop) (it code : Value) (bi : Addr) (t : Shared) : Prop :=
  AllBare t.gens ∧ ∃ (I : Addr) (fp wr fs : List Addr) (n : Nat) (Dr : Nat → Value → Prop) (St : Nat → Heap → Prop) (pz : Nat → Bool) (F : Nat → Value → Prop), it = .ref I ∧ (∀ B : Around, B.handled = none → Walks prog w B I fp wr n Dr St) ∧ St 0 t.heap ∧
    (∀ b ∈ fp, b < t.heap.objs.size) ∧ t.heap.NoLimit ∧ cStatics ∉ wr ∧ (∀ b ∈ fs, b ≤ t.heap.objs.size) ∧ (∀ b ∈ fp, b ∉ fs) ∧ cStatics ∉ fs ∧
    (∀ ref : Heap, (∀ b o, t.heap.get? b = some o → ref.get? b = some o) →
      QuietF prog w (genEnv scope cl t.heap.objs.size code bi env) x ifs elt (List.range t.heap.objs.size) wr fs Dr pz F ref (A.in4.in1.over (loopC elt x px iter ifs scope pos I (genEnv scope cl t.heap.objs.size code bi env)) []).frames (A.depth + 1) (A.units + 8)) ∧
    ∀ a hp tk gs, gs.bare = true → t.heap.objs.size < a → hp.objs.size = a + 1 → (∀ b o, t.heap.get? b = some o → hp.get? b = some o) →
      WalksV prog w A.in4 a (t.heap.objs.size :: wr) fs (passing pz n 0).length (fun j y => ∃ i, (passing pz n 0)[j]? = some i ∧ F i y) (AtB prog w A.in4 a t.gens.size t.heap.objs.size fp (List.range t.heap.objs.size) wr fs pz n F) →
      AtB prog w A.in4 a t.gens.size t.heap.objs.size fp (List.range t.heap.objs.size) wr fs pz n F 0 { t with gens := t.gens.push gs, toks := tk, heap := hp } → Q (.ref a) { t with gens := t.gens.push gs, toks := tk, heap := hp }
theorem genexpF {env : Env} {elt iter : Expr} {x : Str} {px : Pos} {ifs : List Expr} {scope : Scope} {cl : List (Str × Addr)} {pos : Pos} {Q : Value → Shared → Prop}
    (quiet0 : A.handled = none) (noco : scope.isCoroutine = false) (clo : closureFor scope env = pure cl) (nocell : ∀ y ∈ scope.names, y.2 ≠ .cell) (dot0 : scope.names.lookup (".0" : Str) = some NameKind.local)
    (kx : scope.names.lookup x = some .local) (kd : scope.kind = .function) (room : A.depth < recursionLimit)
    (h : wpAny (model prog w) A (eval iter env) (fun xv t1 => wpAny (model prog w) A (pyIter xv) (fun it t2 => t2.heap.NoLimit ∧
      wpAny (model prog w) A (genexprCode env pos (env.qual ++ "<genexpr>") scope) (fun code t3 => wpAny (model prog w) A (builtinsFor env.globals env.builtins) (fun bi t4 => MadeF prog w A env elt iter x px ifs scope cl pos Q it code bi t4) E t3) E t2) E t1) E s)
    (nofold : ∀ v, genFold iter env v = pure v) : wpAny (model prog w) A (eval (.GeneratorExp elt [⟨.Name x px, iter, ifs, 0⟩] scope pos) env) Q E s := by
  refine wpAny_GeneratorExp_make noco clo nocell dot0 kd room (wpAny_mono h (fun xv t1 a1 => wpAny_mono a1 (fun it t2 a2 => ⟨a2.1, wpAny_mono a2.2 (fun code t3 a3 => wpAny_mono a3 (fun bi t4 a4 => ?_)
    fun _ _ z => z) fun _ _ z => z⟩) fun _ _ z => z) fun _ _ z => z) nofold
  obtain ⟨bare, I, fp, wr, fs, n, Dr, St, pz, F, rfl, Wk, st, low, lim, csW, lowF, sepF, csF, hQ, want⟩ := a4
  have cl4 : cStatics < t4.heap.objs.size := by
    obtain ⟨_, q, _⟩ := lim
    exact q.lt
  intro hp nsp same
  have sz : hp.objs.size = t4.heap.objs.size + 1 := by rw [same.1, Heap.size_push]
  have keep : ∀ b o, t4.heap.get? b = some o → hp.get? b = some o := fun b o it => same.extBut b o (Nat.ne_of_lt (Heap.lt_size it)) (Heap.get?_push_of_some _ it)
  have inR : ∀ b ∈ wr, b ∈ List.range t4.heap.objs.size := fun b hb => List.mem_range.mpr (low b ((Wk A quiet0).sub b hb))
  have nC : hp.objs.size ≠ t4.heap.objs.size := by
    rw [sz]
    exact Nat.succ_ne_self _
  have nR : hp.objs.size ∉ List.range t4.heap.objs.size := fun z => by
    have := List.mem_range.mp z
    omega
  have keep5 : ∀ b o, t4.heap.get? b = some o → (hp.push { cls := .type "generator", data := .fields #[.int t4.gens.size 0, .str "<genexpr>" (t4.toks + 1), .str (env.qual ++ "<genexpr>") (t4.toks + 1 + 1)] }).get? b = some o :=
    fun b o it => Heap.get?_push_of_some _ (keep b o it)
  refine want _ _ _ _ rfl (by omega) (by rw [Heap.size_push]) keep5 (walksB (A := A.in4) quiet0 _ _ _ fp _ wr fs pz n F nC (fun z => nR (inR _ z)) (fun z => by have h9 : (hp.objs.size : Nat) ≤ t4.heap.objs.size := lowF _ z; omega) room (Nat.ne_of_lt cl4) csW csF) ?_
  refine AtB.fresh (A := A.in4) (ce := genEnv scope cl t4.heap.objs.size code bi env) (mp := fun y => if y = ".0" then some (.ref I) else none) quiet0 rfl
    Wk pz F kx (by simp [genEnv, kd]) noco
    (fun z => Nat.lt_irrefl _ (low _ z)) (fun z => Nat.lt_irrefl _ (List.mem_range.mp z)) sepF (hQ _ keep5) ⟨_, _, _, Heap.get?_push_size _ rfl, rfl, rfl, rfl⟩ (Array.getElem?_push_size ..) ((Wk A quiet0).frame _ _ _ st fun b _ o it => keep5 b o it) (nsp.push _) (lim.keeps keep5) (bare.push rfl)
end
end V3
/-! A call of a def with a promise, from a generator expression's own frame. -/
namespace V3
open PySem.Spec PySem L2 PyProof.Rows GxR
/-- what is known of lists and tuples, held fast by their very objects -/
def fast (h : Heap) (H : Hp) : Hp := fun b => match H b with
  | some (.tup xs) => (h.get? b).map fun o => .frz o (.tup xs)
  | some (.lst xs) => (h.get? b).map fun o => .frz o (.lst xs)
  | some (.frz o (.tup xs)) => some (.frz o (.tup xs))
  | some (.frz o (.lst xs)) => some (.frz o (.lst xs))
  | some (.dK kvs) => (h.get? b).map fun o => .frz o (.dK kvs)
  | some (.frz o (.dK kvs)) => some (.frz o (.dK kvs))
  | _ => none
section
variable {P : Program} {w : World} {h h' : Heap} {H : Hp}
theorem fast_none {b : Addr} (e : H b = none) : fast h H b = none := by
  unfold fast
  rw [e]
theorem fast_cases {b : Addr} {u : HO} (e : fast h H b = some u) : (∃ xs o, H b = some (.tup xs) ∧ h.get? b = some o ∧ u = .frz o (.tup xs)) ∨ (∃ xs o, H b = some (.lst xs) ∧ h.get? b = some o ∧ u = .frz o (.lst xs)) ∨
    (∃ xs o, H b = some (.frz o (.tup xs)) ∧ u = .frz o (.tup xs)) ∨ (∃ xs o, H b = some (.frz o (.lst xs)) ∧ u = .frz o (.lst xs)) ∨
    (∃ kvs o, H b = some (.dK kvs) ∧ h.get? b = some o ∧ u = .frz o (.dK kvs)) ∨ ∃ kvs o, H b = some (.frz o (.dK kvs)) ∧ u = .frz o (.dK kvs) := by
  unfold fast at e
  cases hb : H b with
  | none =>
    rw [hb] at e
    cases e
  | some ho =>
    rw [hb] at e
    cases ho with
    | tup xs =>
      obtain ⟨o, h1, h2⟩ := Option.map_eq_some_iff.mp e
      exact .inl ⟨xs, o, rfl, h1, h2.symm⟩
    | lst xs =>
      obtain ⟨o, h1, h2⟩ := Option.map_eq_some_iff.mp e
      exact .inr (.inl ⟨xs, o, rfl, h1, h2.symm⟩)
    | frz o u0 =>
      cases u0 with
      | tup xs => exact .inr (.inr (.inl ⟨xs, o, rfl, (Option.some.inj e).symm⟩))
      | lst xs => exact .inr (.inr (.inr (.inl ⟨xs, o, rfl, (Option.some.inj e).symm⟩)))
      | dK kvs => exact .inr (.inr (.inr (.inr (.inr ⟨kvs, o, rfl, (Option.some.inj e).symm⟩))))
      | _ => cases e
    | dK kvs =>
      obtain ⟨o, h1, h2⟩ := Option.map_eq_some_iff.mp e
      exact .inr (.inr (.inr (.inr (.inl ⟨kvs, o, rfl, h1, h2.symm⟩))))
    | _ => cases e
theorem fast_ok (ok : HOk P w H h) (k : ∀ b u o, H b = some u → (∀ q, u ≠ .tbl q) → h.get? b = some o → h'.get? b = some o) : HOk P w (fast h H) h' := by
  intro b u e
  rcases fast_cases e with (⟨xs, o, e1, e2, rfl⟩ | ⟨xs, o, e1, e2, rfl⟩ | ⟨xs, o, e1, rfl⟩ | ⟨xs, o, e1, rfl⟩ | ⟨kvs, o, e1, e2, rfl⟩ | ⟨kvs, o, e1, rfl⟩)
  · obtain ⟨z, its, rv, o2, h1, h2, n, h3⟩ := ok b _ e1
    rw [e2] at h1
    cases h1
    have kk := k b _ o e1 (fun q z => by cases z) e2
    exact ⟨kk, z, its, rv, o, kk, h2, n, h3⟩
  · obtain ⟨z, its, n, rv, h1⟩ := ok b _ e1
    rw [e2] at h1
    have kk := k b _ o e1 (fun q z => by cases z) e2
    exact ⟨kk, z, its, n, rv, by rw [kk, h1]⟩
  · obtain ⟨e2, z, its, rv, o2, h1, h2, n, h3⟩ := ok b _ e1
    rw [e2] at h1
    cases h1
    have kk := k b _ o e1 (fun q z => by cases z) e2
    exact ⟨kk, z, its, rv, o, kk, h2, n, h3⟩
  · obtain ⟨e2, z, its, n, rv, h1⟩ := ok b _ e1
    rw [e2] at h1
    have kk := k b _ o e1 (fun q z => by cases z) e2
    exact ⟨kk, z, its, n, rv, by rw [kk, h1]⟩
  · obtain ⟨z, ns, vs, kv, o2, es, ep, h1, x1⟩ := ok b _ e1
    rw [e2] at h1
    cases h1
    have kk := k b _ o e1 (fun q z => by cases z) e2
    exact ⟨kk, z, ns, vs, kv, o, es, ep, kk, x1⟩
  · obtain ⟨e2, z, ns, vs, kv, o2, es, ep, h1, x1⟩ := ok b _ e1
    rw [e2] at h1
    cases h1
    have kk := k b _ o e1 (fun q z => by cases z) e2
    exact ⟨kk, z, ns, vs, kv, o, es, ep, kk, x1⟩
theorem fast_tup {b : Addr} {xs : List V} (ok : HOk P w H h) (e : H b = some (.tup xs)) : ∃ o, fast h H b = some (.frz o (.tup xs)) := by
  obtain ⟨z, its, rv, o, h1, _⟩ := ok b _ e
  exact ⟨o, by unfold fast; rw [e]; simp only []; rw [h1]; rfl⟩
theorem fast_lst {b : Addr} {xs : List V} (ok : HOk P w H h) (e : H b = some (.lst xs)) : ∃ o, fast h H b = some (.frz o (.lst xs)) := by
  obtain ⟨z, its, n, rv, h1⟩ := ok b _ e
  exact ⟨_, by unfold fast; rw [e]; simp only []; rw [h1]; rfl⟩
theorem fast_dK {b : Addr} {kvs : List (Key × V)} (ok : HOk P w H h) (e : H b = some (.dK kvs)) : ∃ o, fast h H b = some (.frz o (.dK kvs)) := by
  obtain ⟨z, ns, vs, kv, o2, es, ep, h1, x1⟩ := ok b _ e
  exact ⟨_, by unfold fast; rw [e]; simp only []; rw [h1]; rfl⟩
theorem fastT {K : PySem.W.Frag} {a : Addr} {xs : List V} (ok : HOk P w H h) (s : SqT K H a xs) : SqT K (fast h H) a xs := by
  rcases s with ((e | ⟨o, e⟩) | e)
  · exact .inl (.inr (fast_tup ok e))
  · exact .inl (.inr ⟨o, by unfold fast; rw [e]⟩)
  · exact .inr e
theorem fastL {K : PySem.W.Frag} {a : Addr} {xs : List V} (ok : HOk P w H h) (s : SqL K H a xs) : SqL K (fast h H) a xs := by
  rcases s with ((e | ⟨o, e⟩) | e)
  · exact .inl (.inr (fast_lst ok e))
  · exact .inl (.inr ⟨o, by unfold fast; rw [e]⟩)
  · exact .inr e
end
mutual
theorem Dp.fast {P : Program} {w : World} {K : PySem.W.Frag} {h : Heap} {H : Hp} (ok : HOk P w H h) : ∀ {v : V} {d : PyData}, Dp K H v d → Dp K (V3.fast h H) v d
  | _, _, .non => .non
  | _, _, .bl b => .bl b
  | _, _, .int i => .int i
  | _, _, .str x => .str x
  | _, _, .lst s a => .lst (fastL ok s) (DpAll.fast ok a)
  | _, _, .tup s a => .tup (fastT ok s) (DpAll.fast ok a)
theorem DpAll.fast {P : Program} {w : World} {K : PySem.W.Frag} {h : Heap} {H : Hp} (ok : HOk P w H h) : ∀ {vs : List V} {ds : List PyData}, DpAll K H vs ds → DpAll K (V3.fast h H) vs ds
  | _, _, .nil => .nil
  | _, _, .cons a b => .cons (Dp.fast ok a) (DpAll.fast ok b)
end
theorem kept_CE {P : Program} {w : World} {outer : List Env} {h : Heap} {H : Hp} {t t' : Shared} {Q : VK} {u : Value} (ok : HOk P w (fast h H) t.heap) (c : CE outer P w (fast h H) t Q u t') : KeptG (frs outer) t t' ∧ ∃ v H', RelV v u ∧ Q v H' := by
  obtain ⟨v, H', os, bare, un, ok', r, q⟩ := c
  refine ⟨⟨os, bare, fun b o it => ?_⟩, v, H', r, q⟩
  have fixed : ∀ o' u', fast h H b = some (.frz o' u') → t'.heap.get? b = some o := fun o' u' e => by
    have h1 : t.heap.get? b = some o' := (ok b _ e).1
    rw [it] at h1
    cases h1
    exact (ok' b _ (un.frzs b _ _ e)).1
  cases e : fast h H b with
  | none =>
    by_cases hb : b ∈ frs outer
    · obtain ⟨sl, z⟩ := un.slot b o it e hb (by simp)
      exact ⟨fun nf => absurd hb nf, sl, z⟩
    · have z := un.keep b o it e hb (by simp)
      exact ⟨fun _ => z, o.slots, z⟩
  | some ho =>
    rcases fast_cases e with (⟨xs, o', e1, e2, rfl⟩ | ⟨xs, o', e1, e2, rfl⟩ | ⟨xs, o', e1, rfl⟩ | ⟨xs, o', e1, rfl⟩ | ⟨xs, o', e1, e2, rfl⟩ | ⟨xs, o', e1, rfl⟩) <;> exact ⟨fun _ => fixed _ _ e, o.slots, fixed _ _ e⟩
/-- what the frame's call of the def needs of the state t -/
structure InGen (X : Cx) (H : Hp) (h : Heap) (ce : Env) (C : Addr) (t : Shared) : Prop where
  base : ∀ b o, X.base.get? b = some o → t.heap.get? b = some o
  sz : X.base.objs.size ≤ t.heap.objs.size
  funs : t.heap.FunFrames X.base (ce :: X.stack)
  frf : ∀ b ∈ frs (ce :: X.stack), H b = none
  ok : HOk X.prog X.w (fast h H) t.heap
  bare : AllBare t.gens
theorem gen_call {X : Cx} {pins : List (Addr × Obj)} {σ : L2.St} {H : Hp} {s t : Shared} {k : Nat} {f C : Addr} {fd : FuncData} {ps : List Str} {sp : Sp} {B : Around} {ce : Env} {us : List Value} {vs : List V} {q : V → Prop} {R : Value → Shared → Prop} {Ex : Value → Shared → Prop}
    (I : Inv X pins σ H s) (G : FnOk X.prog X.w X.K X.mg X.base CX0 k f fd ps sp) (bd : Binds X.K fd ps []) (hr : Room (k + 1) X.A) (g : InGen X H s.heap ce C t)
    (b0 : B.handled = none) (bf : B.frames = some (ce :: X.stack)) (bd1 : B.depth ≤ X.A.depth + 1) (bu : B.units ≤ X.A.units + 8) (r : Vals vs us) (ask : sp vs (fast s.heap H) (fun v _ => q v) E0)
    (fin : ∀ v u t', q v → RelV v u → KeptG (frs (ce :: X.stack)) t t' → R u t') : wpAny (model X.prog X.w) B (call (.ref f) us) R Ex t := by
  have room : Room k B := ⟨b0, by have := hr.dp; omega, by have := hr.un; omega⟩
  have kin : X.K.In t.heap := I.ok.mod.kin.keeps g.base
  have e0 : Env0 X.prog X.w X.K X.mg X.base B (ce :: X.stack) t (fast s.heap H) := ⟨bf, I.ok.mod, fun b o it => ⟨g.base b o it, fast_none (I.bs b o it).2⟩, g.sz, g.funs, fun b hb => fast_none (g.frf b hb), g.ok, g.bare⟩
  have hl : (us ++ []).length = ps.length := by
    rw [List.append_nil, ← r.length]
    exact G.len _ _ _ _ ask
  have bs := bd t us kin hl
  rw [List.append_nil] at bs
  refine wpAny_call (codeAny_mono (G.run B (ce :: X.stack) t (fast s.heap H) ⟨us, []⟩ us vs (fun v _ => q v) E0 room e0 bs r ask) fun res t' c => ?_)
  cases res with
  | error e => exact False.elim c
  | ok fl =>
    cases fl with
    | ret u =>
      obtain ⟨kg, v, H', rv, qv⟩ := kept_CE g.ok c
      exact fin v u t' qv rv kg
    | next => exact False.elim c
    | brk => exact False.elim c
    | cont => exact False.elim c
end V3
set_option maxHeartbeats 8100000
namespace V3
open PySem.Spec PySem L2 PyProof.Rows GxR
section
variable {pins : List (Addr × Obj)} {X : Cx} {σ : L2.St} {H : Hp} {s : Shared}
theorem over_frames {A : Around} {elt iter : Expr} {x : Str} {px : Pos} {ifs : List Expr} {scope : Scope} {pos : Pos} {I : Addr} {ce : Env} {l : List Env} (e : A.frames = some l) :
    (A.in4.in1.over (loopC elt x px iter ifs scope pos I ce) []).frames = some (ce :: l) := by
  have e5 : A.in4.in1.frames = some l := e
  simp only [Around.over, List.map_nil]
  rw [e5]
  rfl
/-- behind a walk of a generator: the table has grown, of the frames the slots may differ -/
theorem inv_gen {P : Addr} {ps more : Array Value} {t' : Shared} (I : Inv X pins σ H s) (hP : H P = some (.tbl ps)) (os : t'.os = s.os) (bare : AllBare t'.gens)
    (k : ∀ b o, b ≠ P → s.heap.get? b = some o → (b ∉ frs X.stack → t'.heap.get? b = some o) ∧ ∃ sl, t'.heap.get? b = some { o with slots := sl })
    (hm : t'.heap.get? P = some { cls := .none, data := .fields (ps ++ more) }) : Inv X pins σ (upd H P (.tbl (ps ++ more))) t' := by
  have nP : ∀ b u, H b = some u → (∀ q, u ≠ .tbl q) → b ≠ P := fun b u e q zz => by
    rw [zz, hP] at e
    (exact q ps (Option.some.inj e).symm)
  have nN : ∀ b, H b = none → b ≠ P := fun b e zz => by
    rw [zz, hP] at e
    cases e
  have exactly : ∀ b u o, H b = some u → b ≠ P → s.heap.get? b = some o → t'.heap.get? b = some o := fun b u o e n it => (k b o n it).1 fun z => by
    rw [I.stkFree b z] at e
    cases e
  have un : Un (frs X.stack) [] H (upd H P (.tbl (ps ++ more))) s.heap t'.heap := by
    refine ⟨fun b o it e nf _ => (k b o (nN b e) it).1 nf, fun b o it e _ _ => (k b o (nN b e) it).2, fun b o _ e _ => by rw [upd_ne (nN b e)]; exact e, fun b o it _ => ?_, fun b xs e => by rw [upd_ne (nP b _ e (fun q z => by cases z))]; exact e,
      fun b o u e => by rw [upd_ne (nP b _ e (fun q z => by cases z))]; exact e, fun b qs e => ?_⟩
    · by_cases hb : b = P
      · exact ⟨_, by rw [hb]; exact hm⟩
      · obtain ⟨_, sl, z⟩ := k b o hb it
        exact ⟨_, z⟩
    · by_cases hb : b = P
      · rw [hb, hP] at e
        cases e
        exact ⟨more, by rw [hb, upd_same]⟩
      · exact ⟨#[], by rw [upd_ne hb, e]; simp⟩
  have ok : HOk X.prog X.w (upd H P (.tbl (ps ++ more))) t'.heap := by
    intro b u e
    by_cases hb : b = P
    · subst hb
      rw [upd_same] at e
      cases e
      exact hm
    · rw [upd_ne hb] at e
      refine (I.hok b u e).stay (fun d v hd q => ?_) (fun d q => by rw [upd_ne (nP d _ q (fun q z => by cases z))]; exact q) fun d xs q => by rw [upd_ne (nP d _ q (fun q z => by cases z))]; exact q
      rcases hd with (z | z)
      · subst z
        exact exactly _ u v e hb q
      · exact exactly d _ v z (nP d _ z (fun q z => by cases z)) q
  have J := I.call (h' := t'.heap) (g' := t'.gens) (d' := t'.drawn) (t' := t'.toks) (ch := []) un ok bare (fun b z => absurd z (by simp))
  rw [sh_eta s t' os] at J
  exact J
end
/-- all(f(x, c) for x in t), t a tuple, f a def with a promise, c a name of the def -/
def tAllC (X : Cx) (P : Addr) (ic : Nat) (sp : Sp) (te : TE) : TE := fun σ H Q => te σ H fun v H1 => ∃ (a : Addr) (xs : List V) (vc : V) (tr : Nat → Bool), v = .ref a ∧ SqT X.K H1 a xs ∧ TabG H1 P ∧ σ[ic]? = some (some vc) ∧
  (∀ h, HOk X.prog X.w H1 h → ∀ i xi, xs[i]? = some xi → sp [xi, vc] (fast h H1) (fun v _ => v = .bl (tr i)) E0) ∧ ∀ H2, Tabbed P H1 H2 → Q (.bl ((List.range xs.length).all tr)) H2
end V3
namespace V3
open PySem.Spec PySem L2 PyProof.Rows GxR
section
variable {X : Cx}
theorem tests_none {M : Model} {B : Around} {ce : Env} {Ex : Value → Shared → Prop} {t : Shared} {R : Bool → Shared → Prop} (h : R true t) : wpAny M B (testsOf [] ce) R Ex t := by
  show wpAny M B (forIn ([] : List Expr) true _) R Ex t
  simp only [List.forIn_nil]
  exact wpAny_pure h
theorem frs_apart {s : Shared} {l : List Env} {base : Heap} {b : Addr} (f : s.heap.FunFrames base l) (hb : b ∈ frs l) : base.get? b = none ∧ ∃ o, s.heap.get? b = some o ∧ ∀ vs, o.data ≠ .fields vs := by
  obtain ⟨n, o, ho, nf⟩ := f.mem hb
  exact ⟨n, o, ho, nf⟩
end
end V3
/-! A generator expression with two fors. -/
namespace V3
open PySem.Spec PySem L2 PyProof.Rows GxR
section
variable {w : World} {prog : Program} {A : Around}
abbrev gen2 (elt : Expr) (x : Str) (px : Pos) (iter : Expr) (y : Str) (py : Pos) (iter2 : Expr) (scope : Scope) (pos : Pos) : Expr := .GeneratorExp elt [⟨.Name x px, iter, [], 0⟩, ⟨.Name y py, iter2, [], 0⟩] scope pos
theorem turn0 (elt : Expr) (x : Str) (px : Pos) (iter : Expr) (y : Str) (py : Pos) (iter2 : Expr) (scope : Scope) (pos : Pos) (it acc : Value) (env : Env) :
    compTurn (gen2 elt x px iter y py iter2 scope pos) 0 it acc env = (do
      standAt iter.pos
      match ← pyNext it with
      | none => pure (.done .next)
      | some v =>
        letOwnedTupleGo (.Name x px) it v
        assign (.Name x px) env v
        let mut ok := true
        for test in ([] : List Expr) do
          if ok then
            ok ← isTrue test env (eval test env)
        if ok then
          let q ← eval iter2 env
          standAt iter2.pos
          let q ← if (0 : Nat) != 0 then foldedIterable iter2 q else foldedSetIterable iter2 env q
          let _ ← runOwn (.compStart (gen2 elt x px iter y py iter2 scope pos) 1 (← holding [q] (if (0 : Nat) != 0 then asyncIter q else pyIter q)) acc env) env
        again (.compLoop (gen2 elt x px iter y py iter2 scope pos) 0 it acc env)) := by rfl
theorem turn1 (elt : Expr) (x : Str) (px : Pos) (iter : Expr) (y : Str) (py : Pos) (iter2 : Expr) (scope : Scope) (pos : Pos) (it acc : Value) (env : Env) :
    compTurn (gen2 elt x px iter y py iter2 scope pos) 1 it acc env = (do
      standAt iter2.pos
      match ← pyNext it with
      | none => pure (.done .next)
      | some v =>
        letOwnedTupleGo (.Name y py) it v
        assign (.Name y py) env v
        let mut ok := true
        for test in ([] : List Expr) do
          if ok then
            ok ← isTrue test env (eval test env)
        if ok then
          (eval elt env >>= fun thing => standAt elt.pos >>= fun _ => yieldOut env thing >>= fun _ => pure ())
        again (.compLoop (gen2 elt x px iter y py iter2 scope pos) 1 it acc env)) := by rfl
/-- what stands of keep, of the frames fs all but the slots -/
structure SinceK (keep fs : List Addr) (t t' : Shared) : Prop where
  os : t'.os = t.os
  bare : AllBare t'.gens
  size : t.gens.size ≤ t'.gens.size
  heap : ∀ b ∈ keep, ∀ o, t.heap.get? b = some o → (b ∉ fs → t'.heap.get? b = some o) ∧ ∃ sl, t'.heap.get? b = some { o with slots := sl }
theorem SinceK.refl {keep fs : List Addr} {t : Shared} (b : AllBare t.gens) : SinceK keep fs t t := ⟨rfl, b, Nat.le_refl _, fun _ _ o it => ⟨fun _ => it, o.slots, it⟩⟩
theorem SinceK.step {keep fs : List Addr} {t t' : Shared} {hp : Heap} {tk : Nat} (h : SinceK keep fs t t') (k : ∀ b ∈ keep, ∀ o, t'.heap.get? b = some o → hp.get? b = some o) : SinceK keep fs t { t' with heap := hp, toks := tk } :=
  ⟨h.os, h.bare, h.size, fun b hb o it => by
    obtain ⟨p1, sl, p2⟩ := h.heap b hb o it
    exact ⟨fun nf => k b hb o (p1 nf), sl, k b hb _ p2⟩⟩
theorem SinceK.more {keep fs : List Addr} {t t1 t2 : Shared} (h : SinceK keep fs t t1) (z : t1.gens.size ≤ t2.gens.size) (k : KeptG fs t1 t2) : SinceK keep fs t t2 :=
  ⟨k.os.trans h.os, k.bare, Nat.le_trans h.size z, fun b hb o it => by
    obtain ⟨p1, sl, p2⟩ := h.heap b hb o it
    obtain ⟨_, sl2, q2⟩ := k.heap b _ p2
    exact ⟨fun nf => (k.heap b o (p1 nf)).1 nf, sl2, q2⟩⟩
/-- one thing after the other: the m-th of N satisfies F m -/
def protoN (keep fs : List Addr) (N : Nat) (F : Nat → Value → Prop) : Protocol := fun left t0 v t go =>
  F (N - 1 - left) v ∧ SinceK keep fs t0 t ∧ ∀ u : Shared, (∀ b o, t.heap.get? b = some o → u.heap.get? b = some o) → AllBare u.gens → go (.send .none) u
abbrev endN (keep fs : List Addr) : GenEnd := fun n t0 r t1 => r = .ok .next ∧ (n = 0 ∧ SinceK keep fs t0 t1)
abbrev lp (elt : Expr) (x : Str) (px : Pos) (iter : Expr) (y : Str) (py : Pos) (iter2 : Expr) (scope : Scope) (pos : Pos) (ce : Env) (d : Nat) (I : Addr) : Code := .compLoop (gen2 elt x px iter y py iter2 scope pos) d (.ref I) .none ce
/-- what a predicate of heaps bears: the frame and the inner iterator change, the frames' slots too -/
def Bears (Ok : Heap → Prop) (C J : Addr) (fs : List Addr) : Prop := ∀ h h' : Heap, Ok h → (∀ b o, b ≠ C → b ≠ J → h.get? b = some o → (b ∉ fs → h'.get? b = some o) ∧ ∃ sl, h'.get? b = some { o with slots := sl }) → Ok h'
theorem seg_in {elt iter iter2 : Expr} {x y : Str} {px py : Pos} {scope : Scope} {pos : Pos} {J : Addr} {ce : Env} {keep fs : List Addr} {m rest base N : Nat} {Dr : Nat → Value → Prop} {St : Nat → Heap → Prop} {F : Nat → Value → Prop} {Ok : Heap → Prop} {vx : Value} {fr : Option (List Env)}
    {kK : Result → Sem PySem.Fin} {hK : Option Value} {lK : List Value} {cK : Code} {pK : Pos} (quiet0 : (A.over (lp elt x px iter y py iter2 scope pos ce 1 J) [.ret kK hK false lK cK pK []]).handled = none)
    (frA : (A.over (lp elt x px iter y py iter2 scope pos ce 1 J) [.ret kK hK false lK cK pK []]).frames = fr) {D U : Nat} (qd : (A.over (lp elt x px iter y py iter2 scope pos ce 1 J) [.ret kK hK false lK cK pK []]).depth ≤ D) (qu : (A.over (lp elt x px iter y py iter2 scope pos ce 1 J) [.ret kK hK false lK cK pK []]).units ≤ U)
    (Wk : ∀ B : Around, B.handled = none → Walks prog w B J [J] [J] m Dr St) (JC : J ≠ ce.locals) (Jf : J ∉ fs) (Jk : J ∉ keep) (Ck : ce.locals ∉ keep) (bears : Bears Ok ce.locals J fs)
    (kx : ce.kindOf y = some .local) (plain : (ce.scope.kind == .class || (ce.scope.kind == .module && ce.locals != ce.globals)) = false) (noco : ce.scope.isCoroutine = false) (xy : x ≠ y) (eN : N = base + m + rest)
    (hel : ∀ (B : Around) Ex j v (t : Shared) mp, B.handled = none → B.frames = fr → B.depth ≤ D → B.units ≤ U → AllBare t.gens → j < m → Dr j v → Ok t.heap → t.heap.Ns ce.locals mp → mp x = some vx → mp y = some v → wpAny (model prog w) B (eval elt ce) (fun q t' => F (base + j) q ∧ KeptG fs t t') Ex t)
    (fin : ∀ (t0 t : Shared) (mp : Str → Option Value), Ok t.heap → t.heap.Ns ce.locals mp → SinceK keep fs t0 t → Seg (model prog w) A (endN keep fs) (protoN keep fs N F) rest t0 cK (kK (.ok .next)) [] t) :
    ∀ (k j : Nat) (t0 t : Shared) (mp : Str → Option Value), m - j = k → j ≤ m → St j t.heap → Ok t.heap → t.heap.Ns ce.locals mp → mp x = some vx → SinceK keep fs t0 t →
      Seg (model prog w) A (endN keep fs) (protoN keep fs N F) (m - j + rest) t0 (lp elt x px iter y py iter2 scope pos ce 1 J) ((model prog w).den (lp elt x px iter y py iter2 scope pos ce 1 J)) [.ret kK hK false lK cK pK []] t := by
  intro k
  induction k with
  | zero =>
    intro j t0 t mp ek jl st ok ns hx since
    obtain rfl : j = m := by omega
    show Seg _ A _ _ _ t0 _ ((compTurn (gen2 elt x px iter y py iter2 scope pos) 1 (.ref J) .none ce).onRaise _) _ t
    rw [turn1, Sem.onRaise_eq_wrap]
    refine seg_bind_wrap (wpAny_standAt (seg_bind_wrap ((Wk _ quiet0).done t _ _ st fun hp tk stay => ?_)))
    have e0 : j - j + rest = rest := by omega
    rw [e0]
    refine seg_leaf (.ok .next) (fin _ _ mp (bears _ _ ok fun b o _ nJ it => ⟨fun _ => stay b o (by simpa using nJ) it, o.slots, stay b o (by simpa using nJ) it⟩) (ns.at' fun o it => stay _ o (by simpa using (Ne.symm JC)) it) (since.step fun b hb o it => stay b o (fun z => Jk ((List.mem_singleton.mp z) ▸ hb)) it))
  | succ k again =>
    intro j t0 t mp ek jl st ok ns hx since
    have more : j < m := by omega
    show Seg _ A _ _ _ t0 _ ((compTurn (gen2 elt x px iter y py iter2 scope pos) 1 (.ref J) .none ce).onRaise _) _ t
    rw [turn1, Sem.onRaise_eq_wrap]
    refine seg_bind_wrap (wpAny_standAt (seg_bind_wrap ((Wk _ quiet0).item j t _ _ more st fun v ha ta drawn sta ka => ?_)))
    refine seg_bind_wrap (wpAny_of_eq (rfl : letOwnedTupleGo (.Name y py) (.ref J) v = pure ()) ?_)
    refine seg_bind_wrap (wpAny_assign_Name (wpAny_storeName_local kx (ns.at' fun o it => ka _ o (by simpa using (Ne.symm JC)) it) (fun hb nsb sb => ?_) plain))
    have stayB : ∀ b o, b ≠ ce.locals → b ≠ J → t.heap.get? b = some o → hb.get? b = some o := fun b o nc nj it => sb.extBut b o nc (ka b o (by simpa using nj) it)
    have okB : Ok hb := bears _ _ ok fun b o nc nj it => ⟨fun _ => stayB b o nc nj it, o.slots, stayB b o nc nj it⟩
    have stB : St (j + 1) hb := (Wk _ quiet0).frame _ _ _ sta fun b hm o it => sb.extBut b o (fun z => JC (by rw [← z]; exact (List.mem_singleton.mp hm).symm)) it
    have sinceB : ∀ tk : Nat, SinceK keep fs t0 { t with heap := hb, toks := tk } := fun tk => since.step fun b hm o it => stayB b o (fun z => Ck (z ▸ hm)) (fun z => Jk (z ▸ hm)) it
    refine seg_bind_wrap (tests_none ?_)
    simp only [if_true]
    have out : ∀ v, yieldOut ce v = yieldValue v := fun v => by simp only [yieldOut, noco, Bool.false_eq_true, if_false]
    simp only [out]
    (rw [Sem.bind_eq_wrap', Sem.bind_eq_wrap', Sem.wrap_wrap, Sem.wrap_wrap])
    have en : m - j + rest = (m - (j + 1) + rest) + 1 := by omega
    rw [en]
    refine seg_wrap (GenW.wpAny_gsz (n := t.gens.size) (Nat.le_refl _) (wpAny_mono (hel _ _ j v _ _ quiet0 frA qd qu since.bare more drawn okB nsb (by simp [xy, hx]) (by simp)) (fun q td both szd => ?_) fun _ _ z => z))
    obtain ⟨fq, kd⟩ := both
    have okD : Ok td.heap := bears _ _ okB fun b o _ _ it => kd.heap b o it
    have stD : St (j + 1) td.heap := (Wk _ quiet0).frame _ _ _ stB fun b hm o it => (kd.heap b o it).1 (fun z => Jf ((List.mem_singleton.mp hm) ▸ z))
    refine seg_at (seg_yield rfl rfl rfl ⟨?_, (sinceB _).more szd kd, fun u hal bu => ?_⟩)
    · have ei : N - 1 - (m - (j + 1) + rest) = base + j := by omega
      rw [ei]
      exact fq
    · refine seg_again rfl (again (j + 1) u u _ (by omega) more ((Wk _ quiet0).frame _ _ _ stD fun b _ o it => hal b o it) (bears _ _ okD fun b o _ _ it => ⟨fun _ => hal b o it, o.slots, hal b o it⟩)
        ((kd.heap.ns nsb).at' fun o it => hal _ o it) (by simp [xy, hx]) (SinceK.refl bu))
end
end V3
namespace V3
open PySem.Spec PySem L2 PyProof.Rows GxR
section
variable {w : World} {prog : Program} {A : Around}
/-- the inner walk of the outer thing i, made from the state t -/
structure Inner (prog : Program) (w : World) (Dr2 : Nat → Value → Prop) (m : Nat) (fs : List Addr) (t t2 : Shared) (jt : Value) : Prop where
  kept : KeptG fs t t2
  ex : ∃ (J : Addr) (St : Nat → Heap → Prop), jt = .ref J ∧ t.heap.objs.size ≤ J ∧ (∀ B : Around, B.handled = none → Walks prog w B J [J] [J] m Dr2 St) ∧ St 0 t2.heap
theorem seg_two {elt iter iter2 : Expr} {x y : Str} {px py : Pos} {scope : Scope} {pos : Pos} {J : Addr} {ce : Env} {keep fs : List Addr} {n rest base N : Nat} {Dr : Nat → Value → Prop} {St : Nat → Heap → Prop} {F : Nat → Value → Prop} {Ok : Heap → Prop} {vx : Value} {fr : Option (List Env)}
    {kK : Result → Sem PySem.Fin} {hK : Option Value} {lK : List Value} {cK : Code} {pK : Pos} {D U : Nat} (quiet1 : (A.over (lp elt x px iter y py iter2 scope pos ce 1 J) [.ret kK hK false lK cK pK []]).handled = none)
    (quiet0 : (A.over (.compStart (gen2 elt x px iter y py iter2 scope pos) 1 (.ref J) .none ce) [.ret kK hK false lK cK pK []]).handled = none)
    (frA : (A.over (lp elt x px iter y py iter2 scope pos ce 1 J) [.ret kK hK false lK cK pK []]).frames = fr) (qd : (A.over (lp elt x px iter y py iter2 scope pos ce 1 J) [.ret kK hK false lK cK pK []]).depth ≤ D) (qu : (A.over (lp elt x px iter y py iter2 scope pos ce 1 J) [.ret kK hK false lK cK pK []]).units ≤ U)
    (Wk : ∀ B : Around, B.handled = none → Walks prog w B J [J] [J] n Dr St) (JC : J ≠ ce.locals) (Jf : J ∉ fs) (Jk : J ∉ keep) (Ck : ce.locals ∉ keep) (bears : Bears Ok ce.locals J fs)
    (kx : ce.kindOf y = some .local) (plain : (ce.scope.kind == .class || (ce.scope.kind == .module && ce.locals != ce.globals)) = false) (noco : ce.scope.isCoroutine = false) (xy : x ≠ y) (eN : N = base + n + rest)
    (hel : ∀ (B : Around) Ex j v (t : Shared) mp, B.handled = none → B.frames = fr → B.depth ≤ D → B.units ≤ U → AllBare t.gens → j < n → Dr j v → Ok t.heap → t.heap.Ns ce.locals mp → mp x = some vx → mp y = some v → wpAny (model prog w) B (eval elt ce) (fun q t' => F (base + j) q ∧ KeptG fs t t') Ex t)
    (fin : ∀ (t0 t : Shared) (mp : Str → Option Value), Ok t.heap → t.heap.Ns ce.locals mp → SinceK keep fs t0 t → Seg (model prog w) A (endN keep fs) (protoN keep fs N F) rest t0 cK (kK (.ok .next)) [] t)
    (t0 t : Shared) (mp : Str → Option Value) (st : St 0 t.heap) (ok : Ok t.heap) (ns : t.heap.Ns ce.locals mp) (hx : mp x = some vx) (since : SinceK keep fs t0 t) :
      Seg (model prog w) A (endN keep fs) (protoN keep fs N F) (n - 0 + rest) t0 (.compStart (gen2 elt x px iter y py iter2 scope pos) 1 (.ref J) .none ce) ((model prog w).den (.compStart (gen2 elt x px iter y py iter2 scope pos) 1 (.ref J) .none ce)) [.ret kK hK false lK cK pK []] t := by
  have lp' := seg_in (iter := iter) (iter2 := iter2) (px := px) (py := py) (scope := scope) (pos := pos) quiet1 frA qd qu Wk JC Jf Jk Ck bears kx plain noco xy eN hel fin n 0 t0 t mp (Nat.sub_zero _) (Nat.zero_le _) st ok ns hx since
  show Seg _ A _ _ _ t0 _ ((compStart (gen2 elt x px iter y py iter2 scope pos) 1 (.ref J) .none ce).onRaise _) _ t
  unfold compStart
  rw [Sem.onRaise_eq_wrap]
  show Seg _ A _ _ _ t0 _ ((ask >>= _).wrap _ _ _ _) _ t
  (refine seg_bind_wrap (wpAny_askSetting ?_))
  split
  · exact seg_again rfl lp'
  · first
      | exact seg_bind_wrap (wpAny_rule (seg_bind_wrap (wpAny_standAt (seg_bind_wrap ((Wk _ quiet0).self 0 t _ _ st (seg_again rfl lp'))))))
      | (refine seg_bind_wrap (wpAny_rule ?_)
         show Seg _ A _ _ _ t0 _ ((standAt iter2.pos >>= _).wrap _ _ _ _) _ t
         exact seg_bind_wrap (wpAny_standAt (seg_bind_wrap ((Wk _ quiet0).self 0 t _ _ st (seg_again rfl lp')))))
theorem seg_out {elt iter iter2 : Expr} {x y : Str} {px py : Pos} {scope : Scope} {pos : Pos} {I : Addr} {ce : Env} {keep fs : List Addr} {n : Nat} {m base : Nat → Nat} {Dr : Nat → Value → Prop} {Dr2 : Nat → Nat → Value → Prop} {St : Nat → Heap → Prop} {F : Nat → Value → Prop} {G : Heap → Prop} {P2 : Nat → Value → Shared → Prop} {fr : Option (List Env)}
    (quiet0 : A.handled = none) {D U : Nat} (frA : (A.over (lp elt x px iter y py iter2 scope pos ce 0 I) []).frames = fr) (qd : A.depth + 3 ≤ D) (qu : A.units + 9 ≤ U)
    (Wk : ∀ B : Around, B.handled = none → Walks prog w B I [I] [I] n Dr St) (IC : I ≠ ce.locals) (If : I ∉ fs) (Ik : I ∉ keep) (Ck : ce.locals ∉ keep)
    (G1 : ∀ h h' : Heap, G h → (∀ b o, b ∈ keep → h.get? b = some o → (b ∉ fs → h'.get? b = some o) ∧ ∃ sl, h'.get? b = some { o with slots := sl }) → G h') (Glow : ∀ h, G h → ∀ b, b ∈ fs ∨ b ∈ keep → b ≠ ce.locals → b < h.objs.size) (Slow : ∀ i h, St i h → I < h.objs.size)
    (kx : ce.kindOf x = some .local) (ky : ce.kindOf y = some .local) (plain : (ce.scope.kind == .class || (ce.scope.kind == .module && ce.locals != ce.globals)) = false) (noco : ce.scope.isCoroutine = false) (xy : x ≠ y)
    (b0 : base 0 = 0) (bS : ∀ i, base (i + 1) = base i + m i) (fold : ∀ v, foldedSetIterable iter2 ce v = pure v)
    (hin : ∀ (B : Around) Ex i v (t : Shared) mp, B.handled = none → B.frames = fr → B.depth ≤ D → B.units ≤ U → AllBare t.gens → i < n → Dr i v → G t.heap → t.heap.Ns ce.locals mp → mp x = some v → wpAny (model prog w) B (eval iter2 ce) (fun q t1 => KeptG fs t t1 ∧ P2 i q t1) Ex t)
    (hit : ∀ (B : Around) Ex i q (t : Shared), B.handled = none → P2 i q t → AllBare t.gens → wpAny (model prog w) B (pyIter q) (fun jt t2 => Inner prog w (Dr2 i) (m i) fs t t2 jt) Ex t)
    (hel : ∀ (B : Around) Ex i v j u (t : Shared) mp, B.handled = none → B.frames = fr → B.depth ≤ D → B.units ≤ U → AllBare t.gens → i < n → Dr i v → j < m i → Dr2 i j u → G t.heap → t.heap.Ns ce.locals mp → mp x = some v → mp y = some u → wpAny (model prog w) B (eval elt ce) (fun q t' => F (base i + j) q ∧ KeptG fs t t') Ex t) :
    ∀ (k i : Nat) (t0 t : Shared) (mp : Str → Option Value), n - i = k → i ≤ n → St i t.heap → G t.heap → t.heap.Ns ce.locals mp → SinceK keep fs t0 t →
      Seg (model prog w) A (endN keep fs) (protoN keep fs (base n) F) (base n - base i) t0 (lp elt x px iter y py iter2 scope pos ce 0 I) ((model prog w).den (lp elt x px iter y py iter2 scope pos ce 0 I)) [] t := by
  have q0 : (A.over (lp elt x px iter y py iter2 scope pos ce 0 I) []).handled = none := quiet0
  have mono : ∀ k i : Nat, base i ≤ base (i + k) := fun k => by
    induction k with
    | zero => exact fun i => Nat.le_refl _
    | succ k ih =>
      intro i
      have := ih i
      rw [← Nat.add_assoc, bS]
      omega
  intro k
  induction k with
  | zero =>
    intro i t0 t mp ek il st g ns since
    obtain rfl : i = n := by omega
    show Seg _ A _ _ _ t0 _ ((compTurn (gen2 elt x px iter y py iter2 scope pos) 0 (.ref I) .none ce).onRaise _) _ t
    rw [turn0, Sem.onRaise_eq_wrap, Nat.sub_self]
    refine seg_bind_wrap (wpAny_standAt (seg_bind_wrap ((Wk _ q0).done t _ _ st fun hp tk stay => ?_)))
    exact seg_end (.ok .next) ⟨rfl, rfl, since.step fun b hb o it => stay b o (fun z => Ik ((List.mem_singleton.mp z) ▸ hb)) it⟩
  | succ k again =>
    intro i t0 t mp ek il st g ns since
    have more : i < n := by omega
    show Seg _ A _ _ _ t0 _ ((compTurn (gen2 elt x px iter y py iter2 scope pos) 0 (.ref I) .none ce).onRaise _) _ t
    rw [turn0, Sem.onRaise_eq_wrap]
    refine seg_bind_wrap (wpAny_standAt (seg_bind_wrap ((Wk _ q0).item i t _ _ more st fun v ha ta drawn sta ka => ?_)))
    (refine seg_bind_wrap (wpAny_of_eq (rfl : letOwnedTupleGo (.Name x px) (.ref I) v = pure ()) ?_))
    refine seg_bind_wrap (wpAny_assign_Name (wpAny_storeName_local kx (ns.at' fun o it => ka _ o (by simpa using (Ne.symm IC)) it) (fun hb nsb sb => ?_) plain))
    have stayB : ∀ b o, b ≠ ce.locals → b ≠ I → t.heap.get? b = some o → hb.get? b = some o := fun b o nc nj it => sb.extBut b o nc (ka b o (by simpa using nj) it)
    have gB : G hb := G1 _ _ g fun b o hk it => ⟨fun _ => stayB b o (fun z => Ck (z ▸ hk)) (fun z => Ik (z ▸ hk)) it, o.slots, stayB b o (fun z => Ck (z ▸ hk)) (fun z => Ik (z ▸ hk)) it⟩
    have stB : St (i + 1) hb := (Wk _ q0).frame _ _ _ sta fun b hm o it => sb.extBut b o (fun z => IC (by rw [← z]; exact (List.mem_singleton.mp hm).symm)) it
    have sinceB : ∀ tk : Nat, SinceK keep fs t0 { t with heap := hb, toks := tk } := fun tk => since.step fun b hm o it => stayB b o (fun z => Ck (z ▸ hm)) (fun z => Ik (z ▸ hm)) it
    refine seg_bind_wrap (tests_none ?_)
    simp only [if_true]
    have dA : (A.over (lp elt x px iter y py iter2 scope pos ce 0 I) []).depth ≤ D := Nat.le_trans (Nat.le_of_eq rfl) (Nat.le_trans (Nat.le_add_right (A.depth + 1) 2) qd)
    have uA : (A.over (lp elt x px iter y py iter2 scope pos ce 0 I) []).units ≤ U := Nat.le_trans (Nat.le_of_eq rfl) (Nat.le_trans (Nat.le_add_right (A.units + 3) 6) qu)
    refine seg_bind_wrap (GenW.wpAny_gsz (n := t.gens.size) (Nat.le_refl _) (wpAny_mono (hin _ _ i v _ _ q0 frA dA uA since.bare more drawn gB nsb (by simp)) (fun q t1 h1 sz1 => ?_) fun _ _ z => z))
    obtain ⟨k1, p2⟩ := h1
    (refine seg_bind_wrap (wpAny_standAt ?_))
    refine seg_bind_wrap ?_
    show wpAny _ _ (foldedSetIterable iter2 ce q) _ _ t1
    rw [fold]
    refine wpAny_pure ?_
    (refine seg_bind_wrap (wpAny_holding ?_))
    show wpAny _ _ (pyIter q) _ _ t1
    refine GenW.wpAny_gsz (n := t1.gens.size) (Nat.le_refl _) (wpAny_mono (hit _ _ i q t1 q0 p2 k1.bare) (fun jt t2 h2 sz2 => ?_) fun _ _ z => z)
    obtain ⟨k2, J, St2, rfl, fresh, W2, st20⟩ := h2
    have fresh : t1.heap.objs.size ≤ (J : Nat) := fresh
    have g1 : G t1.heap := G1 _ _ gB fun b o _ it => k1.heap b o it
    have g2 : G t2.heap := G1 _ _ g1 fun b o _ it => k2.heap b o it
    have Wf : ∀ h h' : Heap, St (i + 1) h → (∀ b o, b = I → h.get? b = some o → h'.get? b = some o) → St (i + 1) h' := fun h h' s e => (Wk _ q0).frame _ _ _ s fun b hm o it => e b o (List.mem_singleton.mp hm) it
    have st1 : St (i + 1) t1.heap := Wf _ _ stB fun b o e it => (k1.heap b o it).1 (fun z => If (e ▸ z))
    have st2 : St (i + 1) t2.heap := Wf _ _ st1 fun b o e it => (k2.heap b o it).1 (fun z => If (e ▸ z))
    have ns1 := k1.heap.ns nsb
    have ns2 := k2.heap.ns ns1
    have JC : J ≠ ce.locals := fun z => by
      obtain ⟨o, es, ep, at_, dat, more⟩ := ns1
      have lt := Heap.lt_size at_
      exact absurd lt (Nat.not_lt.mpr (z ▸ fresh))
    have JI : J ≠ I := fun z => by
      exact absurd (Slow _ _ st1) (Nat.not_lt.mpr (z ▸ fresh))
    have Jf : J ∉ fs := fun z => by
      exact absurd (Glow _ g1 _ (.inl z) JC) (Nat.not_lt.mpr fresh)
    have Jk : J ∉ keep := fun z => by
      exact absurd (Glow _ g1 _ (.inr z) JC) (Nat.not_lt.mpr fresh)
    have le : base (i + 1) ≤ base n := by
      have := mono (n - (i + 1)) (i + 1)
      have e : i + 1 + (n - (i + 1)) = n := by omega
      rwa [e] at this
    have eb := bS i
    have cnt : base n - base i = m i - 0 + (base n - base (i + 1)) := by omega
    rw [cnt, Sem.bind_eq_wrap', Sem.wrap_wrap]
    unfold runOwn
    refine seg_call fun p => ?_
    refine seg_two (n := m i) (base := base i) (N := base n) (rest := base n - base (i + 1)) (Dr := Dr2 i) (St := St2) (F := F) (Ok := fun h => G h ∧ St (i + 1) h) (vx := v) (fr := fr) (D := D) (U := U) ?_ ?_ ?_ ?_ ?_ W2 JC Jf Jk Ck (fun h h' ok e => ⟨?_, ?_⟩) ky plain noco xy ?_ ?_ ?_ t0 t2 _ st20 ⟨g2, st2⟩ ns2 (by simp) (((sinceB _).more sz1 k1).more sz2 k2)
    · exact quiet0
    · exact quiet0
    · exact frA
    · refine Nat.le_trans (Nat.le_of_eq ?_) (Nat.le_trans (Nat.le_add_right (A.depth + 1) 2) qd)
      rfl
    · refine Nat.le_trans (Nat.le_of_eq ?_) (Nat.le_trans (Nat.le_add_right (A.units + 3) 6) qu)
      rfl
    · exact G1 _ _ ok.1 fun b o hk it => e b o (fun z => Ck (z ▸ hk)) (fun z => Jk (z ▸ hk)) it
    · exact Wf _ _ ok.2 fun b o eI it => (e b o (fun z => IC (eI.symm.trans z)) (fun z => JI (z.symm.trans eI)) it).1 (fun z => If (eI ▸ z))
    · omega
    · exact fun B Ex j u t' mp' hq hf hd hu hb jl dr ok n' hx hy => hel B Ex i v j u t' mp' hq hf hd hu hb more drawn jl dr ok.1 n' hx hy
    · exact fun t0' t' mp' ok n' since' => seg_again rfl (again (i + 1) t0' t' mp' (by omega) more ok.2 ok.1 n' since')
end
end V3
/-! A generator expression with two fors, walked from outside. -/
namespace V3
open PySem.Spec PySem L2 PyProof.Rows GxR
theorem SinceK.trans {keep fs : List Addr} {t t1 t2 : Shared} (p : SinceK keep fs t t1) (q : SinceK keep fs t1 t2) : SinceK keep fs t t2 :=
  ⟨q.os.trans p.os, q.bare, Nat.le_trans p.size q.size, fun b hb o it => by
    obtain ⟨p1, sl, p2⟩ := p.heap b hb o it
    obtain ⟨_, sl2, q2⟩ := q.heap b hb _ p2
    exact ⟨fun nf => (q.heap b hb o (p1 nf)).1 nf, sl2, q2⟩⟩
/-- what the maker knows of the two walks and of the element -/
structure Two (prog : Program) (w : World) (ce : Env) (elt iter2 : Expr) (x y : Str) (keep fs : List Addr) (n : Nat) (m base : Nat → Nat) (Dr : Nat → Value → Prop) (Dr2 : Nat → Nat → Value → Prop) (P2 : Nat → Value → Shared → Prop) (F : Nat → Value → Prop) (G : Heap → Prop) (fr : Option (List Env)) (D U : Nat) : Prop where
  G1 : ∀ h h' : Heap, G h → (∀ b o, b ∈ keep → h.get? b = some o → (b ∉ fs → h'.get? b = some o) ∧ ∃ sl, h'.get? b = some { o with slots := sl }) → G h'
  Glow : ∀ h, G h → ∀ b, b ∈ fs ∨ b ∈ keep → b ≠ ce.locals → b < h.objs.size
  hin : ∀ (B : Around) Ex i v (t : Shared) mp, B.handled = none → B.frames = fr → B.depth ≤ D → B.units ≤ U → AllBare t.gens → i < n → Dr i v → G t.heap → t.heap.Ns ce.locals mp → mp x = some v → wpAny (model prog w) B (eval iter2 ce) (fun q t1 => KeptG fs t t1 ∧ P2 i q t1) Ex t
  hit : ∀ (B : Around) Ex i q (t : Shared), B.handled = none → P2 i q t → AllBare t.gens → wpAny (model prog w) B (pyIter q) (fun jt t2 => Inner prog w (Dr2 i) (m i) fs t t2 jt) Ex t
  hel : ∀ (B : Around) Ex i v j u (t : Shared) mp, B.handled = none → B.frames = fr → B.depth ≤ D → B.units ≤ U → AllBare t.gens → i < n → Dr i v → j < m i → Dr2 i j u → G t.heap → t.heap.Ns ce.locals mp → mp x = some v → mp y = some u → wpAny (model prog w) B (eval elt ce) (fun q t' => F (base i + j) q ∧ KeptG fs t t') Ex t
section
variable {w : World} {prog : Program} {A : Around}
abbrev st2 (elt : Expr) (x : Str) (px : Pos) (iter : Expr) (y : Str) (py : Pos) (iter2 : Expr) (scope : Scope) (pos : Pos) (ce : Env) (I : Addr) : Code := .compStart (gen2 elt x px iter y py iter2 scope pos) 0 (.ref I) .none ce
theorem seg_first {elt iter iter2 : Expr} {x y : Str} {px py : Pos} {scope : Scope} {pos : Pos} {I : Addr} {ce : Env} {keep fs : List Addr} {n : Nat} {m base : Nat → Nat} {Dr : Nat → Value → Prop} {Dr2 : Nat → Nat → Value → Prop} {St : Nat → Heap → Prop} {F : Nat → Value → Prop} {G : Heap → Prop} {P2 : Nat → Value → Shared → Prop} {fr : Option (List Env)}
    (quiet0 : A.handled = none) {D U : Nat} (frA : (A.over (lp elt x px iter y py iter2 scope pos ce 0 I) []).frames = fr) (qd : A.depth + 3 ≤ D) (qu : A.units + 9 ≤ U)
    (Wk : ∀ B : Around, B.handled = none → Walks prog w B I [I] [I] n Dr St) (IC : I ≠ ce.locals) (If : I ∉ fs) (Ik : I ∉ keep) (Ck : ce.locals ∉ keep) (Slow : ∀ i h, St i h → I < h.objs.size)
    (kx : ce.kindOf x = some .local) (ky : ce.kindOf y = some .local) (plain : (ce.scope.kind == .class || (ce.scope.kind == .module && ce.locals != ce.globals)) = false) (noco : ce.scope.isCoroutine = false) (xy : x ≠ y)
    (b0 : base 0 = 0) (bS : ∀ i, base (i + 1) = base i + m i) (fold : ∀ v, foldedSetIterable iter2 ce v = pure v) (T : Two prog w ce elt iter2 x y keep fs n m base Dr Dr2 P2 F G fr D U)
    (t0 t : Shared) (mp : Str → Option Value) (st : St 0 t.heap) (g : G t.heap) (ns : t.heap.Ns ce.locals mp) (since : SinceK keep fs t0 t) :
    Seg (model prog w) A (endN keep fs) (protoN keep fs (base n) F) (base n) t0 (st2 elt x px iter y py iter2 scope pos ce I) ((model prog w).den (st2 elt x px iter y py iter2 scope pos ce I)) [] t := by
  have q0 : (A.over (st2 elt x px iter y py iter2 scope pos ce I) []).handled = none := quiet0
  have lp' := seg_out (iter := iter) (px := px) (py := py) (scope := scope) (pos := pos) quiet0 frA qd qu Wk IC If Ik Ck T.G1 T.Glow Slow kx ky plain noco xy b0 bS fold T.hin T.hit T.hel n 0 t0 t mp (Nat.sub_zero _) (Nat.zero_le _) st g ns since
  rw [b0, Nat.sub_zero] at lp'
  show Seg _ A _ _ _ t0 _ ((compStart (gen2 elt x px iter y py iter2 scope pos) 0 (.ref I) .none ce).onRaise _) _ t
  unfold compStart
  rw [Sem.onRaise_eq_wrap]
  show Seg _ A _ _ _ t0 _ ((ask >>= _).wrap _ _ _ _) _ t
  (refine seg_bind_wrap (wpAny_askSetting ?_))
  split
  · exact seg_again rfl lp'
  · first
      | exact seg_bind_wrap (wpAny_rule (seg_bind_wrap (wpAny_standAt (seg_bind_wrap ((Wk _ q0).self 0 t _ _ st (seg_again rfl lp'))))))
      | (refine seg_bind_wrap (wpAny_rule ?_)
         show Seg _ A _ _ _ t0 _ ((standAt iter.pos >>= _).wrap _ _ _ _) _ t
         exact seg_bind_wrap (wpAny_standAt (seg_bind_wrap ((Wk _ q0).self 0 t _ _ st (seg_again rfl lp')))))
/-- the generator at a, number g, before its j-th thing of N -/
def AtN (prog : Program) (w : World) (A : Around) (a : Addr) (g : Nat) (keep fs : List Addr) (N : Nat) (F : Nat → Value → Prop) (j : Nat) (t : Shared) : Prop :=
  t.heap.IsGen a g ∧ t.heap.NoLimit ∧ AllBare t.gens ∧ ∃ gs, t.gens[g]? = some gs ∧ ∀ u : Shared, (∀ b o, t.heap.get? b = some o → u.heap.get? b = some o) → AllBare u.gens →
    gs.Goes (model prog w) A.in1 (endN keep fs) (protoN keep fs N F) (N - j) (.send .none) u
structure WalksN (prog : Program) (w : World) (A : Around) (a : Addr) (keep fs : List Addr) (N : Nat) (F : Nat → Value → Prop) (St : Nat → Shared → Prop) : Prop where
  item : ∀ i (t : Shared) (Q : Option Value → Shared → Prop) (E : Value → Shared → Prop), i < N → St i t → (∀ v t', F i v → St (i + 1) t' → SinceK keep fs t t' → Q (some v) t') → wpAny (model prog w) A (pyNext (.ref a)) Q E t
  done : ∀ (t : Shared) (Q : Option Value → Shared → Prop) (E : Value → Shared → Prop), St N t → (∀ t', SinceK keep fs t t' → Q none t') → wpAny (model prog w) A (pyNext (.ref a)) Q E t
  self : ∀ (t : Shared) (Q : Value → Shared → Prop) (E : Value → Shared → Prop), St 0 t → Q (.ref a) t → wpAny (model prog w) A (pyIter (.ref a)) Q E t
theorem walksN (quiet0 : A.handled = none) (a : Addr) (g : Nat) (keep fs : List Addr) (N : Nat) (F : Nat → Value → Prop) (ak : a ∈ keep) (af : a ∉ fs) (room : A.depth < recursionLimit) (ck : cStatics ∈ keep) (cf : cStatics ∉ fs) :
    WalksN prog w A a keep fs N F (AtN prog w A a g keep fs N F) where
  item := fun j t Q E jl st want => by
    obtain ⟨gen, lim, bare, gs, at_, goes⟩ := st
    obtain ⟨r, hr⟩ : ∃ r, N - j = r + 1 := ⟨N - j - 1, by omega⟩
    rw [hr] at goes
    have gl : g < t.gens.size := (Array.getElem?_eq_some_iff.mp at_).1
    refine wpAny_pyNext_genexpQ (P := fun k t0 t1 => k = 0 ∧ SinceK keep fs t0 t1) quiet0 lim room gen at_ (goes _ (fun _ _ it => it) (bare_set bare rfl)) (fun v t1 gs1 b1 told => ?_) (fun t1 ended hp keep => ?_)
    · obtain ⟨fv, since, go⟩ := told
      rw [show N - 1 - (r + 1 - 1) = j by omega] at fv
      have big := since.size
      rw [set_size] at big
      have gl1 : g < t1.gens.size := Nat.lt_of_lt_of_le gl big
      have g1 : (t1.setGen g gs1).gens[g]? = some gs1 := set_at gl1
      obtain ⟨o, nm, qn, ho, more⟩ := gen
      obtain ⟨mc, nsc, nol⟩ := lim
      refine want v _ fv ⟨⟨o, nm, qn, (since.heap a ak o ho).1 af, more⟩, ⟨mc, nsc.at' fun o it => (since.heap cStatics ck o it).1 cf, nol⟩, bare_set since.bare b1, gs1, g1, fun u hal bu => ?_⟩
        ⟨since.os, bare_set since.bare b1, by rw [set_size]; exact big, fun b hb o it => since.heap b hb o it⟩
      rw [show N - (j + 1) = r by omega]
      exact go u hal bu
    · exact absurd ended.1 (Nat.succ_ne_zero r)
  done := fun t Q E st want => by
    obtain ⟨gen, lim, bare, gs, at_, goes⟩ := st
    rw [Nat.sub_self] at goes
    refine wpAny_pyNext_genexpQ (P := fun k t0 t1 => k = 0 ∧ SinceK keep fs t0 t1) quiet0 lim room gen at_ (goes _ (fun _ _ it => it) (bare_set bare rfl)) (fun v t1 gs1 b1 told => ?_) (fun t1 ended hp kp => ?_)
    · obtain ⟨_, since, go⟩ := told
      exact (go t1 (fun _ _ it => it) since.bare).elim
    · obtain ⟨_, since⟩ := ended
      have big := since.size
      rw [set_size] at big
      exact want _ ⟨since.os, bare_set since.bare rfl, by show t.gens.size ≤ (t1.setGen g .finished).gens.size; rw [set_size]; exact big, fun b hb o it => by
        obtain ⟨p1, sl, p2⟩ := since.heap b hb o it
        exact ⟨fun nf => kp b o (p1 nf), sl, kp b _ p2⟩⟩
  self := fun _ _ _ st want => wpAny_pyIter_gen st.1 want
theorem WalksN.down {I : Addr} {keep fs : List Addr} {n : Nat} {P : Nat → Value → Prop} {St : Nat → Shared → Prop} (Wk : WalksN prog w A.in1 I keep fs n P St) : WalksN prog w A I keep fs n P St :=
  ⟨fun i t Q E il st k => wpAny_of_in1 (Wk.item i t Q E il st k), fun t Q E st k => wpAny_of_in1 (Wk.done t Q E st k), fun t Q E st k => wpAny_of_in1 (Wk.self t Q E st k)⟩
theorem WalksN.in4 {I : Addr} {keep fs : List Addr} {n : Nat} {P : Nat → Value → Prop} {St : Nat → Shared → Prop} (Wk : WalksN prog w A.in4 I keep fs n P St) : WalksN prog w A.in1 I keep fs n P St :=
  WalksN.down (A := A.in1) (WalksN.down (A := A.in1.in1) (WalksN.down (A := A.in1.in1.in1) Wk))
/-- all(..) over such a walk of truths -/
theorem all_loopN {I : Addr} {keep fs : List Addr} {n : Nat} {P : Nat → Value → Prop} {St : Nat → Shared → Prop} {R : Result → Shared → Prop} (Wk : WalksN prog w A.in1 I keep fs n P St) (tr : Nat → Bool) (isB : ∀ i v, P i v → v = .bool (tr i)) :
    ∀ (k i : Nat) (t : Shared), n - i = k → i ≤ n → St i t → (∀ t', SinceK keep fs t t' → R (.ok (.ret (.bool (((List.range n).drop i).all tr)))) t') → codeAny (model prog w) A (.builtin "all.loop" ⟨[.ref I], []⟩) R t := by
  intro k
  induction k with
  | zero =>
    intro i t ek il st want
    obtain rfl : i = n := by omega
    (refine codeAny_builtin F.entry_all_loop ?_)
    (rw [Around.under_plainId F.plain_all_loop _])
    show wpAny _ A.in1 (pyNext (.ref I) >>= _) _ _ t
    refine wpAny_bind (Wk.done t _ _ st fun t' mv => wpAny_bind (wpAny_rule (wpAny_pure ?_)))
    have z := want t' mv
    rw [List.drop_of_length_le (Nat.le_of_eq List.length_range)] at z
    exact z
  | succ k again =>
    intro i t ek il st want
    have lt : i < n := by omega
    have cut : (List.range n).drop i = i :: (List.range n).drop (i + 1) := range_drop lt
    (refine codeAny_builtin F.entry_all_loop ?_)
    (rw [Around.under_plainId F.plain_all_loop _])
    show wpAny _ A.in1 (pyNext (.ref I) >>= _) _ _ t
    refine wpAny_bind (Wk.item i t _ _ lt st fun v t' pv st' mv => ?_)
    rw [isB i v pv]
    (refine wpAny_bind (wpAny_holding (wpAny_truthy_bool ?_)))
    (refine wpAny_bind (wpAny_letGo ?_))
    rw [cut] at want
    cases eb : tr i with
    | true =>
      simp only [if_true]
      refine wpAny_pure ⟨plainId_quiet F.plain_all_loop _, again (i + 1) _ (by omega) lt st' fun t2 mv2 => ?_⟩
      have z := want t2 (mv.trans mv2)
      rw [List.all_cons, eb, Bool.true_and] at z
      exact z
    | false =>
      simp only [Bool.false_eq_true, if_false, ite_false]
      (refine wpAny_bind (wpAny_rule (wpAny_pure ?_)))
      have z := want t' mv
      rw [List.all_cons, eb, Bool.false_and] at z
      exact z
theorem call_allN {E : Value → Shared → Prop} {s : Shared} {x : Value} {Q : Value → Shared → Prop}
    (h : wpAny (model prog w) A.in1 (pyIter x) (fun it t => ∃ I keep fs n P St tr, it = .ref I ∧ WalksN prog w A.in1 I keep fs n P St ∧ St 0 t ∧ (∀ i v, P i v → v = .bool (tr i)) ∧ ∀ t', SinceK keep fs t t' → Q (.bool ((List.range n).all tr)) t') E s) :
    (wpAny (model prog w) A (call (.builtin "all") [x]) Q E s) := by
  (refine call_function_tree F.kind_all F.plain_all F.entry_all (F.args_all1 _) ?_)
  unfold Builtin.«all»
  (refine wpAny_bind (m := oneArg "all" _) (wpAny_pure ?_))
  refine wpAny_bind (wpAny_mono h (fun it t ht => ?_) fun _ _ z => z)
  obtain ⟨I, keep, fs, n, P, St, tr, rfl, Wk, st, isB, want⟩ := ht
  exact wpAny_pure ⟨plainId_quiet F.plain_all_loop _, all_loopN Wk tr isB n 0 t rfl (Nat.zero_le _) st fun t' mv => by simpa using want t' mv⟩
end
end V3
/-! The making of a generator expression with two fors. -/
namespace V3
open PySem.Spec PySem L2 PyProof.Rows GxR
section
variable {w : World} {prog : Program} {A : Around} {E : Value → Shared → Prop} {s : Shared}
theorem eval_gen2 (elt : Expr) (x : Str) (px : Pos) (iter : Expr) (y : Str) (py : Pos) (iter2 : Expr) (scope : Scope) (pos : Pos) (env : Env) (noco : scope.isCoroutine = false) :
    eval (gen2 elt x px iter y py iter2 scope pos) env = (eval iter env >>= fun a => standAt iter.pos >>= fun _ => genFold iter env a >>= fun b => holding [b] (pyIter b) >>= fun it => enterFrame >>= fun _ =>
      closureFor scope env >>= fun cl => genexprCode env pos (env.qual ++ "<genexpr>") scope >>= fun code => builtinsFor env.globals env.builtins >>= fun bi =>
      newFunctionEnv scope env.globals cl [(".0", it)] (env.qual ++ "<genexpr>.") none code none bi >>= fun ce => newGenerator (.compStart (gen2 elt x px iter y py iter2 scope pos) 0 it .none ce) "<genexpr>" (env.qual ++ "<genexpr>")) := by
  unfold gen2
  rw [arm_eval_GeneratorExp]
  simp only [noco, Bool.false_eq_true, if_false]
  cases iter <;> rfl
theorem make2 {env : Env} {elt iter iter2 : Expr} {x y : Str} {px py : Pos} {scope : Scope} {cl : List (Str × Addr)} {pos : Pos} {Q : Value → Shared → Prop}
    (noco : scope.isCoroutine = false) (clo : closureFor scope env = pure cl) (nocell : ∀ z ∈ scope.names, z.2 ≠ .cell) (dot0 : scope.names.lookup (".0" : Str) = some NameKind.local) (kd : scope.kind = .function) (room : A.depth < recursionLimit)
    (h : wpAny (model prog w) A (eval iter env) (fun xv t1 => wpAny (model prog w) A (pyIter xv) (fun it t2 => t2.heap.NoLimit ∧
      wpAny (model prog w) A (genexprCode env pos (env.qual ++ "<genexpr>") scope) (fun code t3 => wpAny (model prog w) A (builtinsFor env.globals env.builtins) (fun bi t4 =>
        ∀ hp, hp.Ns t4.heap.objs.size (fun z => if z = ".0" then some it else none) → Heap.SameBut t4.heap.objs.size (t4.heap.push { cls := .type "frame", data := .dict #[] }) hp →
          Q (.ref hp.objs.size) { t4 with gens := t4.gens.push (.fresh (.compStart (gen2 elt x px iter y py iter2 scope pos) 0 it .none (genEnv scope cl t4.heap.objs.size code bi env))), toks := t4.toks + 1 + 1 + 1, heap := hp.push { cls := .type "generator", data := .fields #[.int t4.gens.size 0, .str "<genexpr>" (t4.toks + 1), .str (env.qual ++ "<genexpr>") (t4.toks + 1 + 1)] } }) E t3) E t2) E t1) E s)
    (nofold : ∀ v, genFold iter env v = pure v) : wpAny (model prog w) A (eval (gen2 elt x px iter y py iter2 scope pos) env) Q E s := by
  rw [eval_gen2 _ _ _ _ _ _ _ _ _ _ noco, clo]
  refine wpAny_bind (wpAny_mono h (fun xv t1 a1 => ?_) fun _ _ z => z)
  refine wpAny_bind (wpAny_standAt (wpAny_bind (wpAny_of_eq (nofold xv) (wpAny_bind (wpAny_holding (wpAny_mono a1 (fun it t2 a2 => ?_) fun _ _ z => z))))))
  refine wpAny_bind (wpAny_enterFrame a2.1 room (wpAny_bind (wpAny_pure (wpAny_bind (wpAny_mono a2.2 (fun code t3 a3 => wpAny_bind (wpAny_mono a3 (fun bi t4 a4 => ?_) fun _ _ z => z)) fun _ _ z => z)))))
  have loc : ∀ z ∈ ([((".0" : Str), it)] : List (Str × Value)), scope.names.lookup z.1 = some NameKind.local := fun z hz => by
    rw [List.mem_singleton.mp hz]
    exact dot0
  refine wpAny_bind (wpAny_newFunctionEnv nocell loc (fun hp n same => ?_) kd)
  have same1 : (fun z : Str => ([((".0" : Str), it)] : List (Str × Value)).reverse.lookup z) = fun z : Str => if z = (".0" : Str) then some it else none := by
    funext z
    by_cases e : z = ".0"
    · rw [e]
      simp
    · have b : (z == (".0" : Str)) = false := by simpa using e
      simp [List.lookup, b, e]
  rw [same1] at n
  (simp only [newGenerator, newFields])
  exact wpAny_bind (wpAny_newGen (wpAny_bind (wpAny_mkText (wpAny_bind (wpAny_mkText (wpAny_newObj_type (a4 hp n same) (by size_fits)))))))
end
end V3
namespace V3
open PySem.Spec PySem L2 PyProof.Rows GxR
/-- of the heap ref all but I stands, of the frames fs all but the slots -/
def KT (ref : Heap) (I : Addr) (fs : List Addr) (h : Heap) : Prop := ∀ b o, b ≠ I → ref.get? b = some o → (b ∉ fs → h.get? b = some o) ∧ ∃ sl, h.get? b = some { o with slots := sl }
def live (h : Heap) (I : Addr) : List Addr := (List.range h.objs.size).filter fun b => b != I && (h.get? b).isSome
theorem mem_live {h : Heap} {I b : Addr} : b ∈ live h I ↔ b ≠ I ∧ ∃ o, h.get? b = some o := by
  unfold live
  rw [List.mem_filter, List.mem_range, Bool.and_eq_true, bne_iff_ne, Option.isSome_iff_exists]
  exact ⟨fun z => z.2, fun z => ⟨by obtain ⟨_, o, e⟩ := z; exact Heap.lt_size e, z⟩⟩
section
variable {w : World} {prog : Program} {A : Around} {E : Value → Shared → Prop} {s : Shared}
theorem AtN.fresh {elt iter iter2 : Expr} {x y : Str} {px py : Pos} {scope : Scope} {pos : Pos} {I a : Addr} {g : Nat} {ce : Env} {keep fs : List Addr} {n : Nat} {m base : Nat → Nat} {Dr : Nat → Value → Prop} {Dr2 : Nat → Nat → Value → Prop} {St : Nat → Heap → Prop} {F : Nat → Value → Prop} {P2 : Nat → Value → Shared → Prop} {fr : Option (List Env)} {G : Heap → Prop}
    (quiet0 : A.handled = none) {D U : Nat} (frA : (A.in1.over (lp elt x px iter y py iter2 scope pos ce 0 I) []).frames = fr) (qd : A.depth + 3 ≤ D) (qu : A.units + 10 ≤ U)
    (Wk : ∀ B : Around, B.handled = none → Walks prog w B I [I] [I] n Dr St) (IC : I ≠ ce.locals) (If : I ∉ fs) (Ik : I ∉ keep) (Ck : ce.locals ∉ keep) (Slow : ∀ i h, St i h → I < h.objs.size)
    (kx : ce.kindOf x = some .local) (ky : ce.kindOf y = some .local) (plain : (ce.scope.kind == .class || (ce.scope.kind == .module && ce.locals != ce.globals)) = false) (noco : ce.scope.isCoroutine = false) (xy : x ≠ y)
    (b0 : base 0 = 0) (bS : ∀ i, base (i + 1) = base i + m i) (fold : ∀ v, foldedSetIterable iter2 ce v = pure v) (T : Two prog w ce elt iter2 x y keep fs n m base Dr Dr2 P2 F G fr D U)
    {t : Shared} {mp : Str → Option Value} (gen : t.heap.IsGen a g) (new : t.gens[g]? = some (.fresh (st2 elt x px iter y py iter2 scope pos ce I))) (st : St 0 t.heap) (ns : t.heap.Ns ce.locals mp) (lim : t.heap.NoLimit) (bare : AllBare t.gens)
    (gt : ∀ h : Heap, (∀ b o, t.heap.get? b = some o → h.get? b = some o) → G h) : AtN prog w A a g keep fs (base n) F 0 t :=
  ⟨gen, lim, bare, _, new, fun u hal bu => ⟨rfl, seg_first (A := A.in1) quiet0 frA qd (by show A.units + 1 + 9 ≤ U; omega) Wk IC If Ik Ck Slow kx ky plain noco xy b0 bS fold T u u mp ((Wk A quiet0).frame _ _ _ st fun b _ o it => hal b o it) (gt _ hal) (ns.at' fun o it => hal _ o it) (SinceK.refl bu)⟩⟩
/-- what the maker of such a generator has to know, behind the code object and the builtins -/
def MadeN (prog : Program) (w : World) (A : Around) (env : Env) (elt iter : Expr) (x : Str) (px : Pos) (y : Str) (py : Pos) (iter2 : Expr) (scope : Scope) (cl : List (Str × Addr)) (pos : Pos) (Q : Value → Shared → Prop) (it code : Value) (bi : Addr) (t : Shared) : Prop :=
  AllBare t.gens ∧ ∃ (I : Addr) (fs : List Addr) (n : Nat) (m base : Nat → Nat) (Dr : Nat → Value → Prop) (Dr2 : Nat → Nat → Value → Prop) (P2 : Nat → Value → Shared → Prop) (St : Nat → Heap → Prop) (F : Nat → Value → Prop), it = .ref I ∧ (∀ B : Around, B.handled = none → Walks prog w B I [I] [I] n Dr St) ∧ St 0 t.heap ∧
    (∀ i h, St i h → I < h.objs.size) ∧ t.heap.NoLimit ∧ cStatics ≠ I ∧ (∀ b ∈ fs, b = t.heap.objs.size ∨ ∃ o, t.heap.get? b = some o) ∧ I ∉ fs ∧ cStatics ∉ fs ∧ base 0 = 0 ∧ (∀ i, base (i + 1) = base i + m i) ∧ (∀ v, foldedSetIterable iter2 (genEnv scope cl t.heap.objs.size code bi env) v = pure v) ∧
    (∀ (B : Around) Ex i v (u : Shared) mp, B.handled = none → B.frames = (A.in4.in1.over (lp elt x px iter y py iter2 scope pos (genEnv scope cl t.heap.objs.size code bi env) 0 I) []).frames → B.depth ≤ A.depth + 3 → B.units ≤ A.units + 14 → AllBare u.gens → i < n → Dr i v → KT t.heap I fs u.heap → u.heap.Ns t.heap.objs.size mp → mp x = some v →
      wpAny (model prog w) B (eval iter2 (genEnv scope cl t.heap.objs.size code bi env)) (fun q t1 => KeptG fs u t1 ∧ P2 i q t1) Ex u) ∧
    (∀ (B : Around) Ex i q (u : Shared), B.handled = none → P2 i q u → AllBare u.gens → wpAny (model prog w) B (pyIter q) (fun jt t2 => Inner prog w (Dr2 i) (m i) fs u t2 jt) Ex u) ∧
    (∀ (B : Around) Ex i v j z (u : Shared) mp, B.handled = none → B.frames = (A.in4.in1.over (lp elt x px iter y py iter2 scope pos (genEnv scope cl t.heap.objs.size code bi env) 0 I) []).frames → B.depth ≤ A.depth + 3 → B.units ≤ A.units + 14 → AllBare u.gens → i < n → Dr i v → j < m i → Dr2 i j z → KT t.heap I fs u.heap → u.heap.Ns t.heap.objs.size mp → mp x = some v → mp y = some z →
      wpAny (model prog w) B (eval elt (genEnv scope cl t.heap.objs.size code bi env)) (fun q t1 => F (base i + j) q ∧ KeptG fs u t1) Ex u) ∧
    ∀ a hp tk gs keep, gs.bare = true → t.heap.objs.size < a → hp.objs.size = a + 1 → (∀ b o, t.heap.get? b = some o → hp.get? b = some o) → (∀ b o, b ≠ I → t.heap.get? b = some o → b ∈ keep) →
      WalksN prog w A.in4 a keep fs (base n) F (AtN prog w A.in4 a t.gens.size keep fs (base n) F) →
      AtN prog w A.in4 a t.gens.size keep fs (base n) F 0 { t with gens := t.gens.push gs, toks := tk, heap := hp } → Q (.ref a) { t with gens := t.gens.push gs, toks := tk, heap := hp }
theorem genexpN {env : Env} {elt iter iter2 : Expr} {x y : Str} {px py : Pos} {scope : Scope} {cl : List (Str × Addr)} {pos : Pos} {Q : Value → Shared → Prop}
    (quiet0 : A.handled = none) (noco : scope.isCoroutine = false) (clo : closureFor scope env = pure cl) (nocell : ∀ z ∈ scope.names, z.2 ≠ .cell) (dot0 : scope.names.lookup (".0" : Str) = some NameKind.local)
    (kx : scope.names.lookup x = some .local) (ky : scope.names.lookup y = some .local) (xy : x ≠ y) (kd : scope.kind = .function) (room : A.depth < recursionLimit)
    (h : wpAny (model prog w) A (eval iter env) (fun xv t1 => wpAny (model prog w) A (pyIter xv) (fun it t2 => t2.heap.NoLimit ∧
      wpAny (model prog w) A (genexprCode env pos (env.qual ++ "<genexpr>") scope) (fun code t3 => wpAny (model prog w) A (builtinsFor env.globals env.builtins) (fun bi t4 => MadeN prog w A env elt iter x px y py iter2 scope cl pos Q it code bi t4) E t3) E t2) E t1) E s)
    (nofold : ∀ v, genFold iter env v = pure v) : wpAny (model prog w) A (eval (gen2 elt x px iter y py iter2 scope pos) env) Q E s := by
  refine make2 noco clo nocell dot0 kd room (wpAny_mono h (fun xv t1 a1 => wpAny_mono a1 (fun it t2 a2 => ⟨a2.1, wpAny_mono a2.2 (fun code t3 a3 => wpAny_mono a3 (fun bi t4 a4 => ?_) fun _ _ z => z) fun _ _ z => z⟩) fun _ _ z => z) fun _ _ z => z) nofold
  obtain ⟨bare, I, fs, n, m, base, Dr, Dr2, P2, St, F, rfl, Wk, st, slow, lim, csI, liveF, If, csF, b0, bS, fold, hin, hit, hel, want⟩ := a4
  have csAt : ∃ o, t4.heap.get? cStatics = some o := by
    obtain ⟨_, q, _⟩ := lim
    obtain ⟨o, _, _, at_, _⟩ := q
    exact ⟨o, at_⟩
  intro hp nsp same
  have sz : hp.objs.size = t4.heap.objs.size + 1 := by rw [same.1, Heap.size_push]
  have ne5 : ∀ b o, t4.heap.get? b = some o → hp.get? b = some o := fun b o it => same.extBut b o (Nat.ne_of_lt (Heap.lt_size it)) (Heap.get?_push_of_some _ it)
  have keep5 : ∀ b o, t4.heap.get? b = some o → (hp.push { cls := .type "generator", data := .fields #[.int t4.gens.size 0, .str "<genexpr>" (t4.toks + 1), .str (env.qual ++ "<genexpr>") (t4.toks + 1 + 1)] }).get? b = some o :=
    fun b o it => Heap.get?_push_of_some _ (ne5 b o it)
  have IL : I < t4.heap.objs.size := slow _ _ st
  have aF : hp.objs.size ∉ fs := fun z => by
    rcases liveF _ z with e | ⟨o, e⟩
    · rw [sz] at e
      exact Nat.succ_ne_self _ e
    · have lt := Heap.lt_size e
      rw [sz] at lt
      exact Nat.lt_irrefl _ (Nat.lt_of_succ_lt lt)
  have aI : hp.objs.size ≠ I := fun z => by
    rw [← z, sz] at IL
    exact Nat.lt_irrefl _ (Nat.lt_of_succ_lt IL)
  have inK : ∀ b o, b ≠ I → t4.heap.get? b = some o → b ∈ hp.objs.size :: live t4.heap I := fun b o ne it => List.mem_cons_of_mem _ (mem_live.mpr ⟨ne, o, it⟩)
  have Ck : t4.heap.objs.size ∉ hp.objs.size :: live t4.heap I := fun z => by
    rcases List.mem_cons.mp z with e | e
    · rw [sz] at e
      exact Nat.succ_ne_self _ e.symm
    · obtain ⟨_, o, q⟩ := mem_live.mp e
      exact Nat.lt_irrefl _ (Heap.lt_size q)
  have Ik : I ∉ hp.objs.size :: live t4.heap I := fun z => by
    rcases List.mem_cons.mp z with e | e
    · exact aI e.symm
    · exact (mem_live.mp e).1 rfl
  obtain ⟨oC, csO⟩ := csAt
  refine want _ _ _ _ (hp.objs.size :: live t4.heap I) rfl (by omega) (by rw [Heap.size_push]) keep5 inK (walksN (A := A.in4) quiet0 _ _ _ fs _ F (List.mem_cons_self ..) aF room (inK _ _ csI csO) csF) ?_
  obtain ⟨hq, ehq⟩ : ∃ hq : Heap, hq = hp.push { cls := .type "generator", data := .fields #[.int t4.gens.size 0, .str "<genexpr>" (t4.toks + 1), .str (env.qual ++ "<genexpr>") (t4.toks + 1 + 1)] } := ⟨_, rfl⟩
  have atA : ∃ o, hq.get? hp.objs.size = some o := ⟨_, by rw [ehq]; exact Heap.get?_push_size _ rfl⟩
  have all : ∀ b ∈ hp.objs.size :: live t4.heap I, ∃ o, hq.get? b = some o := fun b hb => by
    rcases List.mem_cons.mp hb with (e | e)
    · rw [e]
      exact atA
    · obtain ⟨_, o, q⟩ := mem_live.mp e
      exact ⟨o, by rw [ehq]; exact keep5 b o q⟩
  have down : ∀ u : Heap, (∀ b ∈ hp.objs.size :: live t4.heap I, ∀ o, hq.get? b = some o → (b ∉ fs → u.get? b = some o) ∧ ∃ sl, u.get? b = some { o with slots := sl }) → KT t4.heap I fs u := fun u k b o ne it => k b (inK b o ne it) o (by rw [ehq]; exact keep5 b o it)
  refine AtN.fresh (A := A.in4) (ce := genEnv scope cl t4.heap.objs.size code bi env) (mp := fun z => if z = ".0" then some (.ref I) else none) (D := A.depth + 3) (U := A.units + 14) (m := m) (Dr2 := Dr2) (P2 := P2)
    (G := fun u => ∀ b ∈ hp.objs.size :: live t4.heap I, ∀ o, hq.get? b = some o → (b ∉ fs → u.get? b = some o) ∧ ∃ sl, u.get? b = some { o with slots := sl })
    quiet0 rfl (Nat.le_refl _) (Nat.le_refl _) Wk (Nat.ne_of_lt IL) If Ik Ck slow kx ky (by simp [genEnv, kd]) noco xy b0 bS fold ⟨?_, ?_, ?_, hit, ?_⟩ ⟨_, _, _, Heap.get?_push_size _ rfl, rfl, rfl, rfl⟩ (Array.getElem?_push_size ..) ((Wk A quiet0).frame _ _ _ st fun b _ o it => keep5 b o it) (nsp.push _) (lim.keeps keep5) (bare.push rfl) ?_
  · intro u u2 g k b hb o it
    obtain ⟨p1, sl, p2⟩ := g b hb o it
    obtain ⟨_, sl2, q2⟩ := k b _ hb p2
    exact ⟨fun nf => (k b o hb (p1 nf)).1 nf, sl2, q2⟩
  · intro u g b hb nC
    have hk : b ∈ hp.objs.size :: live t4.heap I := hb.elim (fun z => (liveF b z).elim (fun e => absurd e nC) fun e => by
      obtain ⟨o, q⟩ := e
      exact inK b o (fun e2 => If (e2 ▸ z)) q) id
    obtain ⟨o, q⟩ := all b hk
    obtain ⟨_, sl, z⟩ := g b hk o q
    exact Heap.lt_size z
  · exact fun B Ex i v u mp q1 q2 q3 q4 q5 q6 q7 q8 q9 q10 => hin B Ex i v u mp q1 q2 q3 q4 q5 q6 q7 (down _ q8) q9 q10
  · exact fun B Ex i v j z u mp q1 q2 q3 q4 q5 q6 q7 q8 q9 q10 q11 q12 q13 => hel B Ex i v j z u mp q1 q2 q3 q4 q5 q6 q7 q8 q9 (down _ q10) q11 q12 q13
  · intro u k b hb o it
    have e := k b o (by rw [← ehq]; exact it)
    exact ⟨fun _ => e, o.slots, e⟩
end
end V3
/-! v[i][j] == v[j][i] and range(i), whatever the frame. -/
namespace V3
open PySem.Spec PySem L2 PyProof.Rows GxR
section
variable {w : World} {prog : Program} {B : Around} {E : Value → Shared → Prop} {t : Shared} {env : Env}
/-- a name (or what else) whose value is known, read without any change -/
def Gives (prog : Program) (w : World) (B : Around) (E : Value → Shared → Prop) (env : Env) (e : Expr) (u : Value) (t : Shared) : Prop := ∀ Q : Value → Shared → Prop, Q u t → wpAny (model prog w) B (eval e env) Q E t
theorem item_of {a b : Expr} {p : Pos} {V : Addr} {its : Array Value} {i : Nat} {ti : Tok} {x : Value} (ga : Gives prog w B E env a (.ref V) t) (gb : Gives prog w B E env b (.int i ti) t) (hs : PlainIx b) (hV : IsTup t.heap V its) (small : its.size < 2 ^ 63) (hx : its[i]? = some x) :
    Gives prog w B E env (.Subscript a b p) x t := by
  intro Q q
  have lt : i < its.size := (Array.getElem?_eq_some_iff.mp hx).1
  refine Subscript_ (ga _ (gb _ (subscriptTail_builtinR (x := x) hV.typeIs slot_tuple_getitem.lookup (getItem_tuple (j := i) hV (by omega) (by omega) ?_ hx ⟨rfl, q⟩) (hs _ _))))
  have e : seqIndex? (i : Int) its.size = some (i : Int).toNat := PySem.StrLaws.seqIndex_nonneg (by omega) (by omega)
  rw [e]
  rfl
theorem eq_cross {a a2 b b2 c c2 : Expr} {p1 p2 p3 p4 p5 : Pos} {V Ri Rj : Addr} {rows ci cj : Array Value} {i j : Nat} {ti tj : Tok} {u u2 : Value} {d d2 : PyData} {as bs : List Addr} {Q : Value → Shared → Prop}
    (ga : Gives prog w B E env a (.ref V) t) (ga2 : Gives prog w B E env a2 (.ref V) t) (gb : Gives prog w B E env b (.int i ti) t) (gb2 : Gives prog w B E env b2 (.int i ti) t) (gc : Gives prog w B E env c (.int j tj) t) (gc2 : Gives prog w B E env c2 (.int j tj) t)
    (pb : PlainIx b) (pb2 : PlainIx b2) (pc : PlainIx c) (pc2 : PlainIx c2) (hV : IsTup t.heap V rows) (s0 : rows.size < 2 ^ 63) (hi : rows[i]? = some (.ref Ri)) (hj : rows[j]? = some (.ref Rj)) (hRi : IsTup t.heap Ri ci) (s1 : ci.size < 2 ^ 63) (hRj : IsTup t.heap Rj cj) (s2 : cj.size < 2 ^ 63)
    (hu : ci[j]? = some u) (hu2 : cj[i]? = some u2) (r1 : Reads t.heap u d as) (r2 : Reads t.heap u2 d2 bs) (sd : SeqAt.shaped d = true) (sd2 : SeqAt.shaped d2 = true) (un : B.units + 64 < cLine) (q : Q (.bool (PyData.eqv d d2)) t) (hm : behindInMarks .Eq (.Subscript (.Subscript a2 c2 p3) b2 p4) = false) :
    wpAny (model prog w) B (eval (.Compare (.Subscript (.Subscript a b p1) c p2) [.Eq] [.Subscript (.Subscript a2 c2 p3) b2 p4] p5) env) Q E t :=
  wpAny_Compare1 (item_of (item_of ga gb pb hV s0 hi) gc pc hRi s1 hu _ (item_of (item_of ga2 gc2 pc2 hV s0 hj) gb2 pb2 hRj s2 hu2 _ (SeqAt.compareEq_shaped r1 r2 sd sd2 un q))) hm
/-- range(i), called as a type with one whole number, and walked -/
theorem range_called {i : Nat} {ti : Tok} {Q : Value → Shared → Prop} (h : ∀ (R : Addr) (t1 : Shared) (tv tw : Tok), KeptG [] t t1 → IsRange t1.heap R 0 i 1 tv ti tw → AllBare t1.gens → Q (.ref R) t1) (bare : AllBare t.gens) : wpAny (model prog w) B (call (.type "range") [.int i ti]) Q E t := by
  refine call_range_1 (h _ _ _ _ ⟨rfl, bare, KM.exact fun b o it => Heap.get?_push_of_some _ it⟩ (IsRange.new ..) bare)
theorem range_walked {i : Nat} {R : Addr} {tv ti tw : Tok} {fs : List Addr} (hr : IsRange t.heap R 0 i 1 tv ti tw) (big : i < 2 ^ 62) (bare : AllBare t.gens) : wpAny (model prog w) B (pyIter (.ref R)) (fun jt t2 => Inner prog w (fun j v => ∃ tj, v = .int (0 + (j : Nat) * 1) tj) i fs t t2 jt) E t := by
  refine wpAny_pyIter_range hr (small_one (by omega) (by omega) (by omega) (by omega)) ?_
  refine ⟨⟨rfl, bare, KM.exact fun b o it => Heap.get?_push_of_some _ it⟩, t.heap.objs.size, _, rfl, Nat.le_refl _, fun B2 q => Walks.range q _ 0 1 i, ?_⟩
  have e1 : (0 : Int) + ((0 : Nat) : Int) * 1 = 0 := by simp
  have e2 : ((i : Nat) : Int) - ((0 : Nat) : Int) = Builtin.Range.rangeSize 0 i 1 := by
    rw [rangeSize_one]
    split <;> omega
  show IsRangeIter _ _ (0 + ((0 : Nat) : Int) * 1) (((i : Nat) : Int) - ((0 : Nat) : Int)) 1
  rw [e1, e2]
  (exact Heap.get?_push_size _ rfl)
end
end V3
namespace V3
open PySem.Spec PySem L2 PyProof.Rows GxR
section
variable {X : Cx}
abbrev callXC (fn x cn : Str) (p0 p1 p2 pos0 : Pos) : Expr := .Call (.Name fn p0) [.Name x p1, .Name cn p2] [] pos0
abbrev genXC (fn x cn : Str) (p0 p1 p2 pos0 px gpos : Pos) (iter : Expr) (scope : Scope) : Expr := .GeneratorExp (callXC fn x cn p0 p1 p2 pos0) [⟨.Name x px, iter, [], 0⟩] scope gpos
theorem pe_allC {c P : Addr} {iter : Expr} {x cn fn : Str} {px p p0 p1 p2 pos0 gpos pos : Pos} {scope : Scope} {te : TE} {k : Nat} {ps : List Str} {sp : Sp} {ic : Nat}
    (hr : Room (k + 1) X.A) (hg : Gl X "all") (hma : X.mg "all" = none) (TB : TabB X.base X.mg c P) (hcode : X.env.code = .ref c) (S : GenS X.env scope x) (hi : PE X iter te) (D : Df X.prog X.w X.K X.mg X.base fn k ps sp) (Cc : Cap X scope cn ic)
    (kf : scope.names.lookup fn = some .globalImplicit) (dx : (x == ("__debug__" : Str)) = false) (df : (fn == ("__debug__" : Str)) = false) (nofold : ∀ v, genFold iter X.env v = pure v)
    (he : starEach [genXC fn x cn p0 p1 p2 pos0 px gpos iter scope] X.env = (false, eval (genXC fn x cn p0 p1 p2 pos0 px gpos iter scope) X.env) :: starEach [] X.env := by rfl) :
    PE X (.Call (.Name "all" p) [genXC fn x cn p0 p1 p2 pos0 px gpos iter scope] [] pos) (tAllC X P ic sp te) := by
  obtain ⟨f, fd, gf, kp, bd, G, _⟩ := D.ex
  (refine ⟨fun pins s σ H Q I h => ?_⟩)
  refine wpAny_Call_Name_kw (ld_blt (u := .builtin "all") I hg hma (by decide +kernel) ?_)
  refine PyProof.Rows.callWith_builtin1 (id := "all") ?_ he (by rfl)
  rw [he]
  show wpAny _ _ (spliced ((false, eval (genXC fn x cn p0 p1 p2 pos0 px gpos iter scope) X.env) :: backTo pos (starEach [] X.env))) _ _ s
  refine Calls.spliced_cons (genexpF hr.hd S.co (closure_ok S.free) S.cell S.dot S.loc S.kind (by have := hr.dp; omega) ?_ nofold)
  refine thn (hi.run pins s σ H _ I h) fun xv s1 ⟨v, H1, I1, rv, a, xs, vc, tr, ev, hsq, tab, hvc, ask, want⟩ => ?_
  subst ev
  cases rv
  obtain ⟨ptab, hP, htr⟩ := tab
  obtain ⟨its, rvs, pl, zl⟩ := I1.tuple hsq
  have lenI := rvs.length
  have tupA : s1.heap.IsTuple a its.toArray := by
    obtain ⟨ob, q1, q2, q3, q4⟩ := pl
    exact ⟨ob, q1, q2, q3, q4⟩
  refine wpAny_pyIter_tuple tupA ?_
  obtain ⟨oI, hoI⟩ : ∃ oI : Obj, oI = { cls := .type "tuple_iterator", data := .fields #[.ref a, .int 0 0] } := ⟨_, rfl⟩
  rw [← hoI]
  have freshO : oI.isFreed = false := by rw [hoI]; rfl
  have atP : s1.heap.get? P = some { cls := .none, data := .fields ptab } := I1.hok P _ hP
  have ltP : P < s1.heap.objs.size := Heap.lt_size atP
  have atP2 : (s1.heap.push oI).get? P = some { cls := .none, data := .fields ptab } := Heap.get?_push_of_some _ atP
  have hdC : PySem.W.CodeHd (s1.heap.push oI) c P := TB.code.keeps fun b u e => Heap.get?_push_of_some _ (I1.bk b u e)
  have nol : (s1.heap.push oI).NoLimit := I1.nolimit.push oI
  have szO : (s1.heap.push oI).objs.size = s1.heap.objs.size + 1 := Heap.size_push ..
  have csB : ∃ o, X.base.get? cStatics = some o := by
    obtain ⟨_, q, _⟩ := I1.ok.mod.nolimit
    obtain ⟨o, es, ep, ho, _⟩ := q
    exact ⟨o, ho⟩
  have notFr : ∀ b o, X.base.get? b = some o → b ∉ frs X.stack := fun b o it z => by
    have := (frs_apart I1.stack z).1
    rw [it] at this
    cases this
  have frLow : ∀ b ∈ frs X.stack, b < s1.heap.objs.size := fun b z => by
    obtain ⟨_, o, ho, _⟩ := frs_apart I1.stack z
    exact Heap.lt_size ho
  have frNotP : P ∉ frs X.stack := fun z => by
    have := I1.stkFree P z
    rw [hP] at this
    cases this
  have aFr : a ∉ frs X.stack := fun z => by
    rcases hsq with ((e | ⟨o, e⟩) | ⟨o, it2, n2, e, _⟩)
    · have := I1.stkFree a z
      rw [e] at this
      cases this
    · have := I1.stkFree a z
      rw [e] at this
      cases this
    · exact notFr a o (I1.ok.mod.kin a o e) z
  have aLow : a < s1.heap.objs.size := by
    obtain ⟨ob, q1, _⟩ := tupA
    exact Heap.lt_size q1
  -- behind the code object
  have cont : ∀ (code : Value) (hp3 : Heap) (tk : Nat) (ptab3 : Array Value), Heap.ExtBut P (s1.heap.push oI) hp3 → (s1.heap.push oI).objs.size ≤ hp3.objs.size → hp3.get? P = some { cls := .none, data := .fields ptab3 } → (∃ more, ptab3 = ptab ++ more) → TriplesOk ptab3.toList →
      wpAny (model X.prog X.w) X.A (builtinsFor X.env.globals X.env.builtins) (fun bi t4 => MadeF X.prog X.w X.A X.env (callXC fn x cn p0 p1 p2 pos0) iter x px [] scope (cloFrom X.env.cells scope.names []) gpos
        (fun g t5 => wpAny (model X.prog X.w) X.A (spliced (backTo pos (starEach [] X.env))) (fun vs t6 => wpAny (model X.prog X.w) X.A (call (.builtin "all") (g :: vs)) (EP X pins σ Q) X.xe t6) X.xe t5) (.ref s1.heap.objs.size) code bi t4) X.xe { s1 with heap := hp3, toks := tk } := by
    intro code hp3 tk ptab3 hx3 sz3 atP3 grown ok3
    (obtain ⟨bm, ob, e1, e2, e3, e4, e5, e6, e7, e8⟩ := TB.bm)
    have keep3 : ∀ b u, b ≠ P → s1.heap.get? b = some u → hp3.get? b = some u := fun b u nb it => hx3 b u nb (Heap.get?_push_of_some _ it)
    have big3 : s1.heap.objs.size + 1 ≤ hp3.objs.size := by
      rw [← szO]
      exact sz3
    have baseNP : ∀ b o, X.base.get? b = some o → b ≠ P := fun b o it z => by
      have := (I1.bs b o it).2
      rw [z, hP] at this
      cases this
    obtain ⟨oCs, csAt⟩ := csB
    have csLow : cStatics < s1.heap.objs.size := Heap.lt_size (I1.bk _ _ csAt)
    have aNP : a ≠ P := fun z => by
      obtain ⟨ob2, q1, _, _, q4⟩ := tupA
      rw [z, atP] at q1
      cases q1
      cases q4
    refine wpAny_builtinsFor (m := X.mg) (by rw [I1.ok.glob]; exact ((I1.mod.glob.keeps I1.bk).push oI).extBut hx3 TB.gP) e1 e2 (keep3 _ _ e4 (I1.bk _ _ e5)) e6 e7 e8 ?_
    refine ⟨I1.bare, s1.heap.objs.size, [s1.heap.objs.size, a], [s1.heap.objs.size], hp3.objs.size :: frs X.stack, its.toArray.size, (fun i v => its.toArray[i]? = some v), (fun i h => h.IsTupleIter s1.heap.objs.size a i ∧ h.IsTuple a its.toArray), (fun _ => true), (fun i y => y = .bool (tr i)), rfl,
      fun B hB => Walks.tuple hB _ a (Nat.ne_of_lt aLow) _, ⟨⟨oI, hx3 _ _ (Nat.ne_of_gt ltP) (Heap.get?_push_size _ freshO), by rw [hoI], by rw [hoI]; rfl⟩, ?_⟩, ?_, nol.extBut hx3 (baseNP _ _ csAt), ?_, ?_, ?_, ?_, ?_, ?_⟩
    · obtain ⟨ob2, q1, q2⟩ := tupA
      exact ⟨ob2, keep3 _ _ aNP q1, q2⟩
    · intro b hb
      show b < hp3.objs.size
      rcases List.mem_cons.mp hb with (z | z)
      · rw [z]
        exact big3
      · (rw [List.mem_singleton.mp z])
        exact Nat.lt_of_lt_of_le aLow (Nat.le_trans (Nat.le_succ _) big3)
    · intro z
      have := List.mem_singleton.mp z
      rw [this] at csLow
      exact Nat.lt_irrefl _ csLow
    · intro b hb
      show b ≤ hp3.objs.size
      rcases List.mem_cons.mp hb with (z | z)
      · rw [z]
        exact Nat.le_refl _
      · exact Nat.le_of_lt (Nat.lt_of_lt_of_le (frLow b z) (Nat.le_trans (Nat.le_succ _) big3))
    · intro b hb hf
      rcases List.mem_cons.mp hb with (z | z)
      · subst z
        rcases List.mem_cons.mp hf with (y | y)
        · exact Nat.ne_of_lt big3 y
        · exact Nat.lt_irrefl _ (frLow _ y)
      · have z2 := List.mem_singleton.mp z
        subst z2
        rcases List.mem_cons.mp hf with (y | y)
        · exact Nat.ne_of_lt (Nat.lt_of_lt_of_le aLow (Nat.le_trans (Nat.le_succ _) big3)) y
        · exact aFr y
    · intro z
      rcases List.mem_cons.mp z with (y | y)
      · exact Nat.ne_of_lt (Nat.lt_of_lt_of_le csLow (Nat.le_trans (Nat.le_succ _) big3)) y
      · exact notFr _ _ csAt y
    · intro ref href
      refine ⟨fun B Ex i v t mp hB fB dB uB bT dv ns hv kept => tests_none ⟨rfl, ⟨rfl, bT, KM.exact (fun _ _ it => it)⟩⟩, fun B Ex i v t mp hB fB dB uB bT dv _ ns hv kept => ?_⟩
      rw [over_frames I1.ok.frames] at fB
      have both : ∀ b o, b ≠ P → s1.heap.get? b = some o → (b ∉ frs X.stack → t.heap.get? b = some o) ∧ ∃ sl, t.heap.get? b = some { o with slots := sl } := fun b o nb it => by
        have lt := Heap.lt_size it
        have ltc : b < hp3.objs.size := Nat.lt_of_lt_of_le lt (Nat.le_trans (Nat.le_succ _) big3)
        obtain ⟨p1, p2⟩ := kept b (List.mem_range.mpr ltc) (fun z => by rw [List.mem_singleton.mp z] at lt; exact Nat.lt_irrefl _ lt) o (href _ _ (keep3 b o nb it))
        exact ⟨fun nf => p1 fun z => (List.mem_cons.mp z).elim (fun y => Nat.ne_of_lt ltc y) nf, p2⟩
      have baseT : ∀ b o, X.base.get? b = some o → t.heap.get? b = some o := fun b o it => (both b o (baseNP b o it) (I1.bk b o it)).1 (notFr b o it)
      obtain ⟨oC, esC, epC, atC, datC, moreC⟩ := id ns
      have ltC : hp3.objs.size < t.heap.objs.size := Heap.lt_size atC
      have bszS : X.base.objs.size ≤ s1.heap.objs.size := Nat.le_trans I1.ok.bsz I1.sz
      have gi : ∀ bi : Addr, InGen X H1 s1.heap (genEnv scope (cloFrom X.env.cells scope.names []) hp3.objs.size code bi X.env) hp3.objs.size t := by
        intro bi
        refine ⟨baseT, Nat.le_trans bszS (Nat.le_of_lt (Nat.lt_of_le_of_lt (Nat.le_trans (Nat.le_succ _) big3) ltC)), ⟨?_, ⟨hp3.objs.size, oC, rfl, ?_, atC, fun vs z => ?_⟩, ?_⟩, fun b hb => ?_, ?_, bT⟩
        · show scope.kind ≠ .module
          rw [S.kind]
          exact fun z => nomatch z
        · cases eb : X.base.get? hp3.objs.size with
          | none => rfl
          | some o =>
            have := Nat.lt_of_lt_of_le (Heap.lt_size eb) bszS
            omega
        · rw [datC] at z
          cases z
        · refine Heap.FunFrames.of_keeps (fun b o it nf => ?_) I1.stack
          have nb : b ≠ P := fun z => by
            rw [z, atP] at it
            cases it
            exact nf _ rfl
          obtain ⟨_, sl, z⟩ := both b o nb it
          exact ⟨_, z, rfl⟩
        · rcases List.mem_cons.mp hb with (z | z)
          · rw [z]
            exact I1.hok.fresh (Nat.le_trans (Nat.le_succ _) big3)
          · exact I1.stkFree b z
        · refine fast_ok I1.hok fun b u o e nt it => (both b o (fun z => ?_) it).1 fun z => ?_
          · rw [z, hP] at e
            exact nt ptab (Option.some.inj e).symm
          · have := I1.stkFree b z
            rw [e] at this
            cases this
      have li : i < its.length := by
        have := (Array.getElem?_eq_some_iff.mp dv).1
        simpa using this
      have hxi : xs[i]? = some xs[i] := List.getElem?_eq_getElem (by omega)
      obtain ⟨u, hu, ru⟩ := rvs.get hxi
      have ev : u = v := by
        have q : its.toArray[i]? = some u := by simpa using hu
        rw [q] at dv
        exact Option.some.inj dv
      subst ev
      obtain ⟨cc, uc, rc, look, cellAt⟩ := Cc.at I1 hvc
      have cellT : t.heap.IsCell cc (some uc) := by
        obtain ⟨o, ho, hd⟩ := cellAt
        have nb : cc ≠ P := fun z => by
          rw [z, atP] at ho
          cases ho
          cases hd
        obtain ⟨_, sl, z⟩ := both cc o nb ho
        exact ⟨_, z, hd⟩
      refine wpAny_Call_Name_kw (Calls.Name_function_global S.kind kf (Calls.loadGlobal_global (by show t.heap.Ns X.env.globals X.mg; rw [I1.ok.glob]; exact I1.mod.glob.keeps baseT) gf ?_) df)
      refine PySem.W.callWith_K (h₀ := X.base) I1.ok.mod.kin kp ?_
      show wpAny _ B (spliced ((false, eval (.Name x p1) (genEnv scope (cloFrom X.env.cells scope.names []) hp3.objs.size code _ X.env)) :: (false, eval (.Name cn p2) (genEnv scope (cloFrom X.env.cells scope.names []) hp3.objs.size code _ X.env)) :: [])) _ _ t
      refine Calls.spliced_cons (wpAny_Name (wpAny_loadName_local (by exact S.kind) (by exact S.loc) ns hv ?_) dx)
      refine Calls.spliced_cons (Cc.eval S.kind rfl rfl look cellT ?_)
      refine Calls.spliced_nil ⟨I1.ok.mod.kin.keeps baseT, ?_⟩
      exact gen_call I1 G bd hr (gi _) hB fB dB uB (.cons ru (.cons rc .nil)) (ask _ I1.hok i xs[i] hxi) fun v2 u2 t2 qv rv2 kg => ⟨by subst qv; exact rv2, kg⟩
    · intro g hp5 tk5 gs gsb ltg szg k5 Wk at5
      refine Calls.spliced_nil (call_allV ?_)
      have pall : passing (fun _ => true) its.toArray.size 0 = List.range its.toArray.size := GxR.passing_true _
      refine Wk.in4.self _ _ _ at5 ⟨g, _, _, _, _, _, tr, rfl, Wk.in4, at5, fun j y hy => ?_, fun t' mv => ?_⟩
      · obtain ⟨i, hi2, hf⟩ := hy
        rw [pall, List.getElem?_range (by
          have := (List.getElem?_eq_some_iff.mp hi2).1
          rw [List.length_range] at this
          exact this)] at hi2
        rw [Option.some.inj hi2]
        exact hf
      · obtain ⟨more, rfl⟩ := grown
        have offW : ∀ b, b < s1.heap.objs.size → b ∉ hp3.objs.size :: [s1.heap.objs.size] := fun b lt z => by
          rcases List.mem_cons.mp z with (y | y)
          · exact Nat.ne_of_lt (Nat.lt_of_lt_of_le lt (Nat.le_trans (Nat.le_succ _) big3)) y
          · exact Nat.ne_of_lt lt (List.mem_singleton.mp y)
        have kB : ∀ b o, b < s1.heap.objs.size → hp3.get? b = some o → (b ∉ frs X.stack → t'.heap.get? b = some o) ∧ ∃ sl, t'.heap.get? b = some { o with slots := sl } := fun b o lt it => by
          obtain ⟨p1, p2⟩ := mv.heap b o (offW b lt) (k5 b o it)
          exact ⟨fun nf => p1 fun z => (List.mem_cons.mp z).elim (fun y => Nat.ne_of_lt (Nat.lt_of_lt_of_le lt (Nat.le_trans (Nat.le_succ _) big3)) y) nf, p2⟩
        have J := inv_gen (t' := t') (more := more) I1 hP mv.os mv.bare (fun b o nb it => kB b o (Heap.lt_size it) (keep3 b o nb it)) ((kB P _ ltP atP3).1 frNotP)
        have len : (passing (fun _ => true) its.toArray.size 0).length = xs.length := by
          rw [pall, List.length_range, List.size_toArray]
          omega
        rw [len]
        exact ⟨.bl _, _, J, rfl, want _ ⟨⟨ptab ++ more, upd_same, ok3⟩, fun b nb => upd_ne nb⟩⟩
  refine ⟨nol, ?_⟩
  cases among : codeAmong gpos ptab.toList with
  | none =>
    refine wpAny_genexprCodeX hcode (hdC.code atP2 htr) (hdC.tab atP2) among fun c2 hp2 tk hx2 ge2 lt2 isC _ tabA _ => ?_
    obtain ⟨o1, vs, f1, tf, fl, tg, inF, tx, tt, op, _, _, _, _, _, _, _, _, _, trs, _⟩ := isC
    exact cont _ hp2 tk _ hx2 (Nat.le_trans ge2 (Nat.le_of_lt lt2)) tabA.2 ⟨_, rfl⟩ trs
  | some cv =>
    refine wpAny_genexprCode_hit hcode (hdC.code atP2 htr) among ?_
    exact cont cv (s1.heap.push oI) s1.toks ptab (Heap.ExtBut.refl _ _) (Nat.le_refl _) atP2 ⟨#[], by simp⟩ htr
end
end V3
/-! all(v[i][j] == v[j][i] for i in range(n) for j in range(i)) as a rule. -/
namespace V3
open PySem.Spec PySem L2 PyProof.Rows GxR
/-- how many pairs stand before row i -/
def tri : Nat → Nat
  | 0 => 0
  | i + 1 => tri i + i
theorem tri_mono : ∀ {i k : Nat}, i ≤ k → tri i ≤ tri k := fun {i k} h => by
  induction h with
  | refl => exact Nat.le_refl _
  | step _ ih => exact Nat.le_trans ih (Nat.le_add_right ..)
theorem tri_inj {i j k l : Nat} (h1 : j < i) (h2 : l < k) (e : tri i + j = tri k + l) : i = k ∧ j = l := by
  have a : ∀ {i j k l : Nat}, j < i → l < k → tri i + j = tri k + l → ¬ i < k := fun {i j k l} h1 h2 e lt => by
    have m : tri (i + 1) ≤ tri k := tri_mono lt
    have s : tri (i + 1) = tri i + i := rfl
    omega
  have q : i = k := by
    rcases Nat.lt_trichotomy i k with z | z | z
    · exact absurd z (a h1 h2 e)
    · exact z
    · exact absurd z (a h2 h1 e.symm)
  subst q
  exact ⟨rfl, by omega⟩
theorem flat_all (f : Nat → Nat → Bool) : ∃ tr : Nat → Bool, (∀ i j, j < i → tr (tri i + j) = f i j) ∧ ∀ n, (List.range (tri n)).all tr = (List.range n).all fun i => (List.range i).all (f i) := by
  classical
  refine ⟨fun k => decide (∀ i j, j < i → k = tri i + j → f i j = true), ?_, ?_⟩
  · intro i j h
    cases e : f i j with
    | true =>
      refine decide_eq_true fun i2 j2 h2 q => ?_
      obtain ⟨rfl, rfl⟩ := tri_inj h h2 q
      exact e
    | false => exact decide_eq_false fun z => by rw [z i j h rfl] at e; cases e
  · have at_ : ∀ i j, j < i → (decide (∀ i2 j2, j2 < i2 → tri i + j = tri i2 + j2 → f i2 j2 = true)) = f i j := fun i j h => by
      cases e : f i j with
      | true =>
        refine decide_eq_true fun i2 j2 h2 q => ?_
        obtain ⟨rfl, rfl⟩ := tri_inj h h2 q
        exact e
      | false => exact decide_eq_false fun z => by rw [z i j h rfl] at e; cases e
    intro n
    induction n with
    | zero => rfl
    | succ n ih =>
      show (List.range (tri n + n)).all _ = _
      rw [List.range_add, List.all_append, ih, List.range_succ, List.all_append, List.all_map]
      congr 1
      simp only [List.all_cons, List.all_nil, Bool.and_true]
      (rw [Bool.eq_iff_iff, List.all_eq_true, List.all_eq_true])
      exact ⟨fun z j hj => by have := z j hj; rw [← at_ n j (List.mem_range.mp hj)]; exact this, fun z j hj => by have := z j hj; rw [← at_ n j (List.mem_range.mp hj)] at this; exact this⟩
theorem over_frames2 {A : Around} {elt : Expr} {x : Str} {px : Pos} {iter : Expr} {y : Str} {py : Pos} {iter2 : Expr} {scope : Scope} {pos : Pos} {I : Addr} {ce : Env} {l : List Env} (e : A.frames = some l) :
    (A.in4.in1.over (lp elt x px iter y py iter2 scope pos ce 0 I) []).frames = some (ce :: l) := by
  have e5 : A.in4.in1.frames = some l := e
  simp only [Around.over, List.map_nil]
  rw [e5]
  rfl
end V3
namespace V3
open PySem.Spec PySem L2 PyProof.Rows GxR
mutual
/-- data is read again where all but one address stands, and that is no list, tuple or dict -/
theorem reads_but {P : Addr} {ps : Array Value} {h h2 : Heap} (at_ : h.get? P = some { cls := .none, data := .fields ps }) (k : ∀ b o, b ≠ P → h.get? b = some o → h2.get? b = some o) : ∀ {v : Value} {d : PyData} {as : List Addr}, Reads h v d as → Reads h2 v d as
  | _, _, _, .none => .none
  | _, _, _, .bool b => .bool b
  | _, _, _, .int z tk => .int z tk
  | _, _, _, .str z tk => .str z tk
  | _, _, _, .list e1 e2 e3 r => .list (k _ _ (fun z => by rw [z, at_] at e1; cases e1; cases e3) e1) e2 e3 (readsAll_but at_ k r)
  | _, _, _, .tuple e1 e2 e3 r => .tuple (k _ _ (fun z => by rw [z, at_] at e1; cases e1; cases e3) e1) e2 e3 (readsAll_but at_ k r)
  | _, _, _, .dict e1 e2 e3 r r2 => .dict (k _ _ (fun z => by rw [z, at_] at e1; cases e1; cases e3) e1) e2 e3 (readsAll_but at_ k r) (readsAll_but at_ k r2)
theorem readsAll_but {P : Addr} {ps : Array Value} {h h2 : Heap} (at_ : h.get? P = some { cls := .none, data := .fields ps }) (k : ∀ b o, b ≠ P → h.get? b = some o → h2.get? b = some o) : ∀ {vs : List Value} {ds : List PyData} {as : List Addr}, ReadsAll h vs ds as → ReadsAll h2 vs ds as
  | _, _, _, .nil => .nil
  | _, _, _, .cons r r2 => .cons (reads_but at_ k r) (readsAll_but at_ k r2)
end
/-- the rows at a, known in H: the first N of each of the first N are the data d -/
def Square (K : PySem.W.Frag) (H : Hp) (a : Addr) (N : Nat) (d : Nat → Nat → PyData) : Prop :=
  ∃ rows, SqT K H a rows ∧ ∀ i, i < N → ∃ r cs, rows[i]? = some (.ref r) ∧ SqT K H r cs ∧ ∀ j, j < N → ∃ c, cs[j]? = some c ∧ Dp K H c (d i j) ∧ SeqAt.shaped (d i j) = true
/-- the truth of all(v[i][j] == v[j][i] for i in range(n) for j in range(i)) -/
def tAll2 (X : Cx) (P : Addr) (ic : Nat) (ta : TA) : TE := fun σ H Q => ta σ H fun vs H1 => ∃ (N : Nat) (a : Addr) (d : Nat → Nat → PyData), vs = [.int N] ∧ N < 2 ^ 62 ∧ TabG H1 P ∧ σ[ic]? = some (some (.ref a)) ∧ Square X.K H1 a N d ∧
  ∀ H2, Tabbed P H1 H2 → Q (.bl ((List.range N).all fun i => (List.range i).all fun j => PyData.eqv (d i j) (d j i))) H2
section
variable {X : Cx}
abbrev cross (v x y : Str) (q1 q2 q3 q4 q5 q6 q7 q8 q9 qa qb : Pos) : Expr := .Compare (.Subscript (.Subscript (.Name v q1) (.Name x q2) q3) (.Name y q4) q5) [.Eq] [.Subscript (.Subscript (.Name v q6) (.Name y q7) q8) (.Name x q9) qa] qb
abbrev rangeOf (e : Expr) (q0 q2 : Pos) : Expr := .Call (.Name "range" q0) [e] [] q2
theorem pe_all2 {c P : Addr} {n : Expr} {v x y : Str} {ta : TA} {px py p q1 q2 q3 q4 q5 q6 q7 q8 q9 qa qb r0 r1 r2 r3 r4 gpos pos : Pos} {scope : Scope} {k ic : Nat}
    (hr : Room (k + 1) X.A) (hg : Gl X "all") (hma : X.mg "all" = none) (hgr : Gl X "range") (hmr : X.mg "range" = none) (TB : TabB X.base X.mg c P) (hcode : X.env.code = .ref c) (S : GenS X.env scope x) (sy : scope.names.lookup y = some .local) (xy : x ≠ y) (ha : PA X [n] ta) (Cc : Cap X scope v ic)
    (kf : scope.names.lookup ("range" : Str) = some .globalImplicit) (dx : (x == ("__debug__" : Str)) = false) (dy : (y == ("__debug__" : Str)) = false)
    (hs : starEach [n] X.env = [(false, eval n X.env)] := by rfl)
    (he : starEach [gen2 (cross v x y q1 q2 q3 q4 q5 q6 q7 q8 q9 qa qb) x px (rangeOf n r0 r1) y py (rangeOf (.Name x r2) r3 r4) scope gpos] X.env = (false, eval (gen2 (cross v x y q1 q2 q3 q4 q5 q6 q7 q8 q9 qa qb) x px (rangeOf n r0 r1) y py (rangeOf (.Name x r2) r3 r4) scope gpos) X.env) :: starEach [] X.env := by rfl) :
    PE X (.Call (.Name "all" p) [gen2 (cross v x y q1 q2 q3 q4 q5 q6 q7 q8 q9 qa qb) x px (rangeOf n r0 r1) y py (rangeOf (.Name x r2) r3 r4) scope gpos] [] pos) (tAll2 X P ic ta) := by
  (refine ⟨fun pins s σ H Q I h => ?_⟩)
  refine wpAny_Call_Name_kw (ld_blt (u := .builtin "all") I hg hma (by decide +kernel) ?_)
  refine PyProof.Rows.callWith_builtin1 (id := "all") ?_ he (by rfl)
  rw [he]
  show wpAny _ _ (spliced ((false, eval (gen2 (cross v x y q1 q2 q3 q4 q5 q6 q7 q8 q9 qa qb) x px (rangeOf n r0 r1) y py (rangeOf (.Name x r2) r3 r4) scope gpos) X.env) :: backTo pos (starEach [] X.env))) _ _ s
  refine Calls.spliced_cons (genexpN hr.hd S.co (closure_ok S.free) S.cell S.dot S.loc sy xy S.kind (by have := hr.dp; omega) ?_ (fun _ => rfl))
  refine Call_ (ld_blt I hgr hmr boot_range (PyProof.Rows.callWith_type1 (thn (ha.run r1 pins s σ H _ I h) fun us s1 ⟨vs, H1, I1, rs, N, a, d, ev, big, tab, hvc, sq, want⟩ => ?_) hs rfl))
  subst ev
  cases rs with
  | cons rn rr =>
  cases rr
  obtain ⟨tn, rfl⟩ := rn
  refine call_range_1 (wpAny_pyIter_range (IsRange.new ..) (small_one (by omega) (by omega) (by omega) (by omega)) ?_)
  obtain ⟨ptab, hP, htr⟩ := tab
  have nums : ((0 : Int) + ((0 : Nat) : Int) * 1 = 0) ∧ (((N : Nat) : Int) - ((0 : Nat) : Int) = Builtin.Range.rangeSize 0 N 1) := by
    refine ⟨by simp, ?_⟩
    rw [rangeSize_one]
    split <;> omega
  obtain ⟨oR, eR⟩ : ∃ oR : Obj, oR = { cls := .type "range", data := .fields #[.int 0 s1.toks, .int N tn, .int 1 (s1.toks + 1)] } := ⟨_, rfl⟩
  obtain ⟨oJ, eJ⟩ : ∃ oJ : Obj, oJ = { cls := .type "range_iterator", data := .fields #[rawInt 0, rawInt (Builtin.Range.rangeSize 0 N 1), rawInt 1] } := ⟨_, rfl⟩
  rw [← eR, ← eJ]
  have freshO : oJ.isFreed = false := by rw [eJ]; rfl
  obtain ⟨h2, eh⟩ : ∃ h2 : Heap, h2 = (s1.heap.push oR).push oJ := ⟨_, rfl⟩
  obtain ⟨J, eA⟩ : ∃ J : Addr, J = (s1.heap.push oR).objs.size := ⟨_, rfl⟩
  have k2 : ∀ b o, s1.heap.get? b = some o → h2.get? b = some o := fun b o it => by rw [eh]; exact Heap.get?_push_of_some _ (Heap.get?_push_of_some _ it)
  have atJ : h2.get? J = some oJ := by rw [eh, eA]; exact Heap.get?_push_size _ freshO
  have Jbig : s1.heap.objs.size ≤ J := by rw [eA, Heap.size_push]; exact Nat.le_succ _
  have nol : h2.NoLimit := by rw [eh]; exact (I1.nolimit.push oR).push oJ
  rw [← eh, ← eA]
  have atP : s1.heap.get? P = some { cls := .none, data := .fields ptab } := I1.hok P _ hP
  have atP2 : h2.get? P = some { cls := .none, data := .fields ptab } := k2 _ _ atP
  have hdC : PySem.W.CodeHd h2 c P := TB.code.keeps fun b u e => k2 b u (I1.bk b u e)
  obtain ⟨tr, trAt, trAll⟩ := flat_all (fun i j => PyData.eqv (d i j) (d j i))
  have csB : ∃ o, X.base.get? cStatics = some o := by
    obtain ⟨_, z, _⟩ := I1.ok.mod.nolimit
    obtain ⟨o, _, _, ho, _⟩ := z
    exact ⟨o, ho⟩
  have baseNP : ∀ b o, X.base.get? b = some o → b ≠ P := fun b o it z => by
    have e := (I1.bs b o it).2
    rw [z, hP] at e
    cases e
  have ltP : P < s1.heap.objs.size := Heap.lt_size atP
  have frNotP : P ∉ frs X.stack := fun z => by
    have e := I1.stkFree P z
    rw [hP] at e
    cases e
  have cont : ∀ (code : Value) (hp3 : Heap) (tk : Nat) (ptab3 : Array Value), Heap.ExtBut P h2 hp3 → hp3.get? P = some { cls := .none, data := .fields ptab3 } → (∃ more, ptab3 = ptab ++ more) → TriplesOk ptab3.toList →
      wpAny (model X.prog X.w) X.A (builtinsFor X.env.globals X.env.builtins) (fun bi t4 => MadeN X.prog X.w X.A X.env (cross v x y q1 q2 q3 q4 q5 q6 q7 q8 q9 qa qb) (rangeOf n r0 r1) x px y py (rangeOf (.Name x r2) r3 r4) scope (cloFrom X.env.cells scope.names []) gpos
        (fun g t5 => wpAny (model X.prog X.w) X.A (spliced (backTo pos (starEach [] X.env))) (fun vs t6 => wpAny (model X.prog X.w) X.A (call (.builtin "all") (g :: vs)) (EP X pins σ Q) X.xe t6) X.xe t5) (.ref J) code bi t4) X.xe { s1 with heap := hp3, toks := tk } := by
    intro code hp3 tk ptab3 hx3 atP3 grown ok3
    (obtain ⟨bm, ob, e1, e2, e3, e4, e5, e6, e7, e8⟩ := TB.bm)
    have keep3 : ∀ b u, b ≠ P → s1.heap.get? b = some u → hp3.get? b = some u := fun b u nb it => hx3 b u nb (k2 b u it)
    have nJ : ∀ b u, s1.heap.get? b = some u → b ≠ J := fun b u it z => by
      have lt := Heap.lt_size it
      rw [z] at lt
      exact absurd Jbig (Nat.not_le.mpr lt)
    have JP : J ≠ P := fun z => by
      rw [z] at Jbig
      exact absurd Jbig (Nat.not_le.mpr ltP)
    obtain ⟨oCs, csAt⟩ := csB
    refine wpAny_builtinsFor (m := X.mg) (by rw [I1.ok.glob]; exact ((I1.mod.glob.keeps I1.bk).keeps k2).extBut hx3 TB.gP) e1 e2 (keep3 _ _ e4 (I1.bk _ _ e5)) e6 e7 e8 ?_
    refine ⟨I1.bare, J, [], N, (fun i => i), tri, (fun i q => ∃ ti, q = .int (0 + (i : Nat) * 1) ti), (fun _ j q => ∃ tj, q = .int (0 + (j : Nat) * 1) tj), (fun i q t1 => ∃ R tv ti tw, q = .ref R ∧ i < N ∧ IsRange t1.heap R 0 i 1 tv ti tw), (fun i h => IsRangeIter h J (0 + (i : Nat) * 1) ((N : Int) - (i : Nat)) 1), (fun k u => u = .bool (tr k)), rfl,
      fun B hB => Walks.range hB J 0 1 N, ?_, fun i h z => Heap.lt_size z, nol.extBut hx3 (baseNP _ _ csAt), nJ _ _ (I1.bk _ _ csAt), fun b z => absurd z (by simp), by simp, by simp, rfl, fun _ => rfl, fun _ => rfl, ?_, ?_, ?_, ?_⟩
    · show IsRangeIter hp3 J (0 + ((0 : Nat) : Int) * 1) (((N : Nat) : Int) - ((0 : Nat) : Int)) 1
      rw [nums.1, nums.2]
      have z := hx3 J _ JP atJ
      rw [eJ] at z
      exact z
    · intro B Ex i u0 u mp hB fB dB uB bu il dv kt ns hv
      obtain ⟨ti, rfl⟩ := dv
      have baseU : ∀ b o, X.base.get? b = some o → u.heap.get? b = some o := fun b o it => (kt b o (nJ _ _ (I1.bk b o it)) (keep3 b o (baseNP b o it) (I1.bk b o it))).1 (by simp)
      obtain ⟨mb, b1, b2⟩ := I1.mod.blt
      refine wpAny_Call_Name_kw (Calls.Name_function_global S.kind kf (Calls.loadGlobal_builtin (env := genEnv scope (cloFrom X.env.cells scope.names []) hp3.objs.size code builtinsNs X.env) (v := .type "range") (by show u.heap.Ns X.env.globals X.mg; rw [I1.ok.glob]; exact I1.mod.glob.keeps baseU) hmr (show u.heap.Ns builtinsNs mb from b1.keeps baseU) ((b2 _ (by decide)).trans boot_range) ?_))
      refine PyProof.Rows.callWith_type1 ?_ rfl rfl
      refine Calls.spliced_cons (wpAny_Name (wpAny_loadName_local (by exact S.kind) (by exact S.loc) ns hv ?_) dx)
      refine Calls.spliced_nil ?_
      have e : (0 : Int) + (i : Nat) * 1 = (i : Nat) := by simp
      rw [e]
      exact range_called (fun R t1 tv tw kg hr bt => ⟨kg, R, tv, ti, tw, rfl, il, hr⟩) bu
    · intro B Ex i q u hB p2 bu
      obtain ⟨R, tv, ti, tw, rfl, il, hr⟩ := p2
      exact range_walked hr (Nat.lt_trans il big) bu
    · intro B Ex i ui j uj u mp hB fB dB uB bu il dv jl dj kt ns hv hy
      obtain ⟨ti, rfl⟩ := dv
      obtain ⟨tj, rfl⟩ := dj
      have jN : j < N := Nat.lt_trans jl il
      have ei : (0 : Int) + (i : Nat) * 1 = (i : Nat) := by simp
      have ej : (0 : Int) + (j : Nat) * 1 = (j : Nat) := by simp
      rw [ei] at hv
      rw [ej] at hy
      have both : ∀ b o, b ≠ P → s1.heap.get? b = some o → u.heap.get? b = some o := fun b o nb it => (kt b o (nJ _ _ it) (keep3 b o nb it)).1 (by simp)
      obtain ⟨cc, uc, rc, look, cellAt⟩ := Cc.at I1 hvc
      cases rc
      have cellU : u.heap.IsCell cc (some (.ref a)) := by
        obtain ⟨o, ho, hd⟩ := cellAt
        refine ⟨o, both cc o (fun z => ?_) ho, hd⟩
        rw [z, atP] at ho
        cases ho
        cases hd
      have tupU : ∀ (b : Addr) (cs : List V), SqT X.K H1 b cs → ∃ its : List Value, Vals cs its ∧ IsTup u.heap b its.toArray ∧ its.toArray.size < 2 ^ 63 := fun b cs z => by
        obtain ⟨its, rv, pl, zl⟩ := I1.tuple z
        obtain ⟨o, o1, o2, m, o3⟩ := pl
        have l63 := line63
        have len := rv.length
        refine ⟨its, rv, ⟨o, both b o (fun z => ?_) o1, o2, m, o3⟩, by rw [List.size_toArray]; omega⟩
        rw [z, atP] at o1
        cases o1
        cases o3
      obtain ⟨rows, sqr, more⟩ := sq
      obtain ⟨its, rv, isV, zV⟩ := tupU _ _ sqr
      obtain ⟨ri, ci, gi, sqi, ati⟩ := more i il
      obtain ⟨rj, cj, gj, sqj, atj⟩ := more j jN
      obtain ⟨ii, rvi, isI, zI⟩ := tupU _ _ sqi
      obtain ⟨jj, rvj, isJ, zJ⟩ := tupU _ _ sqj
      obtain ⟨w1, v1, y1⟩ := rv.get gi
      obtain ⟨w2, v2, y2⟩ := rv.get gj
      cases y1
      cases y2
      obtain ⟨c1, g1, dp1, sh1⟩ := ati j jN
      obtain ⟨c2, g2, dp2, sh2⟩ := atj i il
      obtain ⟨w3, v3, y3⟩ := rvi.get g1
      obtain ⟨w4, v4, y4⟩ := rvj.get g2
      obtain ⟨as, rd1⟩ := Dp.reads I1 _ _ _ dp1 y3
      obtain ⟨bs, rd2⟩ := Dp.reads I1 _ _ _ dp2 y4
      have ga : ∀ pq : Pos, Gives X.prog X.w B Ex (genEnv scope (cloFrom X.env.cells scope.names []) hp3.objs.size code builtinsNs X.env) (.Name v pq) (.ref a) u := fun pq R z => Cc.eval S.kind rfl rfl look cellU z
      have gx : ∀ pq : Pos, Gives X.prog X.w B Ex (genEnv scope (cloFrom X.env.cells scope.names []) hp3.objs.size code builtinsNs X.env) (.Name x pq) (.int i ti) u := fun pq R z => wpAny_Name (wpAny_loadName_local (by exact S.kind) (by exact S.loc) ns hv z) dx
      have gy : ∀ pq : Pos, Gives X.prog X.w B Ex (genEnv scope (cloFrom X.env.cells scope.names []) hp3.objs.size code builtinsNs X.env) (.Name y pq) (.int j tj) u := fun pq R z => wpAny_Name (wpAny_loadName_local (by exact S.kind) (by exact sy) ns hy z) dy
      have plain : ∀ (z : Str) (pq : Pos), PlainIx (.Name z pq) := fun _ _ _ _ => rfl
      refine eq_cross (ga _) (ga _) (gx _) (gx _) (gy _) (gy _) (plain _ _) (plain _ _) (plain _ _) (plain _ _) isV zV (by simpa using v1) (by simpa using v2) isI zI isJ zJ (by simpa using v3) (by simpa using v4) (reads_but atP both rd1) (reads_but atP both rd2) sh1 sh2 (by have := hr.un; omega) ⟨?_, rfl, bu, KM.exact fun _ _ it => it⟩ (nomark _)
      show Value.bool _ = Value.bool (tr (tri i + j))
      rw [trAt i j jl]
    · intro g hp5 tk5 gs keep gsb ltg szg k5 inK Wk at5
      refine Calls.spliced_nil (call_allN ?_)
      refine Wk.in4.self _ _ _ at5 ⟨g, keep, [], _, _, _, tr, rfl, Wk.in4, at5, fun j u hu => hu, fun t' mv => ?_⟩
      obtain ⟨more, rfl⟩ := grown
      have fin := inv_gen (t' := t') (more := more) I1 hP mv.os mv.bare (fun b o nb it => by
        obtain ⟨z1, z2⟩ := mv.heap b (inK b o (nJ _ _ it) (keep3 b o nb it)) o (k5 b o (keep3 b o nb it))
        exact ⟨fun _ => z1 (by simp), z2⟩) ((mv.heap P (inK P _ JP.symm atP3) _ (k5 P _ atP3)).1 (by simp))
      rw [trAll]
      exact ⟨.bl _, _, fin, rfl, want _ ⟨⟨ptab ++ more, upd_same, ok3⟩, fun b nb => upd_ne nb⟩⟩
  refine ⟨nol, ?_⟩
  cases among : codeAmong gpos ptab.toList with
  | none =>
    refine wpAny_genexprCodeX hcode (hdC.code atP2 htr) (hdC.tab atP2) among fun c2 hp2 tk hx2 ge2 lt2 isC _ tabA _ => ?_
    obtain ⟨o1, vs, f1, tf, fl, tg, inF, tx, tt, op, _, _, _, _, _, _, _, _, _, trs, _⟩ := isC
    exact cont _ hp2 tk _ hx2 tabA.2 ⟨_, rfl⟩ trs
  | some cv =>
    refine wpAny_genexprCode_hit hcode (hdC.code atP2 htr) among ?_
    exact cont cv h2 _ ptab (Heap.ExtBut.refl _ _) atP2 ⟨#[], by simp⟩ htr
end
end V3
/-! Fractions as rational numbers: sizes, and what the reckoning of the program and of the law is. -/
namespace V3
theorem radd (x y : Rat) : x + y = Rat.divInt (x.num * (y.den : Int) + y.num * (x.den : Int)) ((x.den : Int) * (y.den : Int)) := by
  rw [Rat.add_def', ← Rat.divInt_ofNat, Int.natCast_mul]
theorem rsub (x y : Rat) : x - y = Rat.divInt (x.num * (y.den : Int) - y.num * (x.den : Int)) ((x.den : Int) * (y.den : Int)) := by
  rw [Rat.sub_def', ← Rat.divInt_ofNat, Int.natCast_mul]
theorem rmul (x y : Rat) : x * y = Rat.divInt (x.num * y.num) ((x.den : Int) * (y.den : Int)) := by
  rw [Rat.mul_def', ← Rat.divInt_ofNat, Int.natCast_mul]
theorem rdiv (x y : Rat) : x / y = Rat.divInt (x.num * (y.den : Int)) ((x.den : Int) * y.num) := by
  have e : x / y = (Rat.divInt x.num x.den) * (Rat.divInt y.den y.num) := by
    rw [Rat.div_def, Rat.inv_def, Rat.num_divInt_den]
  rw [e, Rat.divInt_mul_divInt]
theorem rnum_pos {y : Rat} (h : 0 < y) : 0 < y.num := by
  have := (Rat.lt_iff 0 y).mp h
  simpa using this
theorem rden_pos (x : Rat) : 0 < (x.den : Int) := by
  have := x.den_pos
  omega
theorem dnum {n u : Int} (h : 0 < u) : (Rat.divInt n u).num = n / (Int.gcd n u : Int) := by
  rw [Rat.num_divInt, Int.sign_eq_one_of_pos h, Int.one_mul, Int.gcd_comm]
theorem dden {n u : Int} (h : 0 < u) : ((Rat.divInt n u).den : Int) = u / (Int.gcd n u : Int) := by
  rw [Rat.den_divInt, if_neg (by omega), Int.gcd_comm]
  have : (u.natAbs : Int) = u := by omega
  rw [Int.natCast_ediv, this]
theorem rle (x y : Rat) : decide (x.num * (y.den : Int) ≤ y.num * (x.den : Int)) = decide (x ≤ y) := by
  rw [decide_eq_decide]
  exact (Rat.le_iff x y).symm
theorem rlt (x y : Rat) : decide (x.num * (y.den : Int) < y.num * (x.den : Int)) = decide (x < y) := by
  rw [decide_eq_decide]
  exact (Rat.lt_iff x y).symm
/-- sizes -/
structure Bq (b : Nat) (x : Rat) : Prop where
  n : x.num.natAbs < 2 ^ b
  d : x.den < 2 ^ b
theorem pw {a b : Nat} (h : a ≤ b) : 2 ^ a ≤ 2 ^ b := Nat.pow_le_pow_right (by decide) h
theorem Bq.mono {a b : Nat} {x : Rat} (h : Bq a x) (l : a ≤ b) : Bq b x := ⟨Nat.lt_of_lt_of_le h.n (pw l), Nat.lt_of_lt_of_le h.d (pw l)⟩
theorem bq_div {n u : Int} {b : Nat} (h : 0 < u) (hn : n.natAbs < 2 ^ b) (hu : u.natAbs < 2 ^ b) : Bq b (Rat.divInt n u) := by
  refine ⟨?_, ?_⟩
  · rw [dnum h]
    refine Nat.lt_of_le_of_lt ?_ hn
    rw [Int.natAbs_ediv_of_dvd (Int.gcd_dvd_left ..)]
    exact Nat.div_le_self _ _
  · have e := dden (n := n) h
    have l : u / (Int.gcd n u : Int) ≤ u := Int.ediv_le_self _ (by omega)
    omega
theorem mul_lt_pw {m n a b : Nat} (h1 : m < 2 ^ a) (h2 : n < 2 ^ b) : m * n < 2 ^ (a + b) := by
  rw [Nat.pow_add]
  exact Nat.mul_lt_mul'' h1 h2
theorem add_lt_pw {i j : Int} {a : Nat} (h1 : i.natAbs < 2 ^ a) (h2 : j.natAbs < 2 ^ a) : (i + j).natAbs < 2 ^ (a + 1) := by
  rw [Nat.pow_succ]
  omega
theorem sub_lt_pw {i j : Int} {a : Nat} (h1 : i.natAbs < 2 ^ a) (h2 : j.natAbs < 2 ^ a) : (i - j).natAbs < 2 ^ (a + 1) := by
  rw [Nat.pow_succ]
  omega
theorem mulI {i j : Int} {a b : Nat} (h1 : i.natAbs < 2 ^ a) (h2 : j.natAbs < 2 ^ b) : (i * j).natAbs < 2 ^ (a + b) := by
  rw [Int.natAbs_mul]
  exact mul_lt_pw h1 h2
theorem natI {n b : Nat} (h : n < 2 ^ b) : (n : Int).natAbs < 2 ^ b := by
  rw [Int.natAbs_natCast]
  exact h
theorem Bq.add {a b c : Nat} {x y : Rat} (hx : Bq a x) (hy : Bq b y) (hc : a + b + 1 ≤ c) : Bq c (x + y) := by
  refine Bq.mono ?_ hc
  rw [radd]
  refine bq_div (Int.mul_pos (rden_pos x) (rden_pos y)) ?_ ?_
  · refine add_lt_pw (mulI hx.n (natI hy.d)) ?_
    rw [Nat.add_comm]
    exact mulI hy.n (natI hx.d)
  · exact Nat.lt_of_lt_of_le (mulI (natI hx.d) (natI hy.d)) (pw (by omega))
theorem Bq.sub {a b c : Nat} {x y : Rat} (hx : Bq a x) (hy : Bq b y) (hc : a + b + 1 ≤ c) : Bq c (x - y) := by
  refine Bq.mono ?_ hc
  rw [rsub]
  refine bq_div (Int.mul_pos (rden_pos x) (rden_pos y)) ?_ ?_
  · refine sub_lt_pw (mulI hx.n (natI hy.d)) ?_
    rw [Nat.add_comm]
    exact mulI hy.n (natI hx.d)
  · exact Nat.lt_of_lt_of_le (mulI (natI hx.d) (natI hy.d)) (pw (by omega))
theorem Bq.mul {a b c : Nat} {x y : Rat} (hx : Bq a x) (hy : Bq b y) (hc : a + b ≤ c) : Bq c (x * y) := by
  refine Bq.mono ?_ hc
  rw [rmul]
  exact bq_div (Int.mul_pos (rden_pos x) (rden_pos y)) (mulI hx.n hy.n) (mulI (natI hx.d) (natI hy.d))
theorem Bq.div {a b c : Nat} {x y : Rat} (hx : Bq a x) (hy : Bq b y) (p : 0 < y) (hc : a + b ≤ c) : Bq c (x / y) := by
  refine Bq.mono ?_ hc
  rw [rdiv]
  exact bq_div (Int.mul_pos (rden_pos x) (rnum_pos p)) (mulI hx.n (natI hy.d)) (mulI (natI hx.d) hy.n)
/-- a number over D, the number up to Z -/
def Sc (D Z : Nat) (x : Rat) : Prop := ∃ z : Int, x = Rat.divInt z (D : Int) ∧ z.natAbs ≤ Z
theorem Sc.mono {D Z Z' : Nat} {x : Rat} (h : Sc D Z x) (l : Z ≤ Z') : Sc D Z' x := by
  obtain ⟨z, e, b⟩ := h
  exact ⟨z, e, by omega⟩
theorem Sc.up {D Z : Nat} {x : Rat} (k : Nat) (k0 : 0 < k) (h : Sc D Z x) : Sc (k * D) (k * Z) x := by
  obtain ⟨z, e, b⟩ := h
  refine ⟨k * z, ?_, ?_⟩
  · rw [e, Int.natCast_mul, Rat.divInt_mul_left (by omega)]
  · rw [Int.natAbs_mul, Int.natAbs_natCast]
    exact Nat.mul_le_mul_left k b
theorem Sc.add {D Z Z' : Nat} {x y : Rat} (d0 : 0 < D) (h : Sc D Z x) (g : Sc D Z' y) : Sc D (Z + Z') (x + y) := by
  obtain ⟨z, e, b⟩ := h
  obtain ⟨z', e', b'⟩ := g
  refine ⟨z + z', ?_, by omega⟩
  rw [e, e', Rat.divInt_add_divInt _ _ (by omega) (by omega), ← Int.add_mul, Rat.divInt_mul_right (by omega)]
theorem Sc.sub {D Z Z' : Nat} {x y : Rat} (d0 : 0 < D) (h : Sc D Z x) (g : Sc D Z' y) : Sc D (Z + Z') (x - y) := by
  obtain ⟨z, e, b⟩ := h
  obtain ⟨z', e', b'⟩ := g
  refine ⟨z - z', ?_, by omega⟩
  rw [e, e', Rat.divInt_sub_divInt _ _ (by omega) (by omega), ← Int.sub_mul, Rat.divInt_mul_right (by omega)]
theorem Sc.mul {D D' Z Z' : Nat} {x y : Rat} (h : Sc D Z x) (g : Sc D' Z' y) : Sc (D * D') (Z * Z') (x * y) := by
  obtain ⟨z, e, b⟩ := h
  obtain ⟨z', e', b'⟩ := g
  refine ⟨z * z', ?_, ?_⟩
  · rw [e, e', Rat.divInt_mul_divInt, Int.natCast_mul]
  · rw [Int.natAbs_mul]
    exact Nat.mul_le_mul b b'
theorem Sc.bq {D Z b : Nat} {x : Rat} (h : Sc D Z x) (d0 : 0 < D) (hD : D < 2 ^ b) (hZ : Z < 2 ^ b) : Bq b x := by
  obtain ⟨z, e, l⟩ := h
  rw [e]
  exact bq_div (by omega) (by omega) (natI hD)
theorem Sc.of {n : Int} {D : Nat} : Sc D n.natAbs (Rat.divInt n (D : Int)) := ⟨n, rfl, Nat.le_refl _⟩
/-! what is outside -/
def half : Rat := Rat.divInt 1 2
theorem half_two : half + half = 1 := by
  unfold half
  rw [Rat.divInt_add_divInt _ _ (by decide) (by decide)]
  rfl
def sureR (m s l h : Rat) : Bool := decide (s ≤ (m - l) * (h - m))
def stepR (m s l h : Rat) : Rat := if h < m then half * (m - h) else if m < l then s / (l - m) + 1 else if m = h then (m - l) + 1 else half * ((m - l) + s / (h - m))
theorem half_pos : 0 < half := by
  have := half_two
  grind
theorem sure_law {m s l h : Rat} (s0 : 0 ≤ s) (lh : l ≤ h) : sureR m s l h = (decide (l ≤ m) && decide (m ≤ h) && decide (s ≤ (m - l) * (h - m))) := by
  by_cases h1 : l ≤ m
  · by_cases h2 : m ≤ h
    · simp [h1, h2, sureR]
    · have e : (m - l) * (h - m) < 0 := by
        have a : 0 < m - l := by grind
        have b : 0 < m - h := by grind
        have := Rat.mul_pos a b
        grind
      have : ¬ s ≤ (m - l) * (h - m) := by grind
      simp [h1, h2, sureR, this]
  · have e : (m - l) * (h - m) < 0 := by
      have a : 0 < l - m := by grind
      have b : 0 < h - m := by grind
      have := Rat.mul_pos a b
      grind
    have : ¬ s ≤ (m - l) * (h - m) := by grind
    simp [h1, sureR, this]
theorem div_nonneg' {s a : Rat} (s0 : 0 ≤ s) (a0 : 0 < a) : 0 ≤ s / a := by
  rw [Rat.div_def]
  exact Rat.mul_nonneg s0 (Rat.le_of_lt (Rat.inv_pos.mpr a0))
theorem div_pos' {s a : Rat} (s0 : 0 < s) (a0 : 0 < a) : 0 < s / a := by
  rw [Rat.div_def]
  exact Rat.mul_pos s0 (Rat.inv_pos.mpr a0)
theorem step_pos {m s l h : Rat} (s0 : 0 ≤ s) (ns : ¬ s ≤ (m - l) * (h - m)) : 0 < stepR m s l h := by
  unfold stepR
  split
  · exact Rat.mul_pos half_pos (by grind)
  · split
    · have a : 0 < l - m := by grind
      have := div_nonneg' s0 a
      grind
    · split
      · grind
      · have a : 0 < h - m := by grind
        have b := div_nonneg' s0 a
        by_cases c : m = l
        · subst c
          have : 0 < s := by grind
          have := div_pos' this a
          exact Rat.mul_pos half_pos (by grind)
        · exact Rat.mul_pos half_pos (by grind)
theorem step_low {m s l h : Rat} (s0 : 0 ≤ s) (lh : l ≤ h) (ns : ¬ s ≤ (m - l) * (h - m)) : ¬ (l ≤ m - stepR m s l h ∧ m - stepR m s l h ≤ h) := by
  have ht := half_two
  have hp := half_pos
  unfold stepR
  split
  · rename_i c
    have e : half * (m - h) + half * (m - h) = m - h := by
      rw [← Rat.add_mul, ht, Rat.one_mul]
    have := Rat.mul_pos hp (show 0 < m - h by grind)
    grind
  · split
    · rename_i c
      have a : 0 < l - m := by grind
      have := div_nonneg' s0 a
      grind
    · split
      · grind
      · rename_i c1 c2 c3
        have a : 0 < h - m := by grind
        have k : m - l < s / (h - m) := by
          rw [Rat.lt_div_iff a]
          grind
        have e : half * ((m - l) + s / (h - m)) + half * ((m - l) + s / (h - m)) = (m - l) + s / (h - m) := by
          rw [← Rat.add_mul, ht, Rat.one_mul]
        grind
theorem step_up {m s l h : Rat} (s0 : 0 ≤ s) (lh : l ≤ h) (ns : ¬ s ≤ (m - l) * (h - m)) : ¬ (l ≤ m + s / stepR m s l h ∧ m + s / stepR m s l h ≤ h) := by
  have ht := half_two
  have hp := half_pos
  have st := step_pos s0 ns
  have q := div_nonneg' s0 st
  by_cases c1 : h < m
  · grind
  · by_cases c2 : m < l
    · have e : stepR m s l h = s / (l - m) + 1 := by
        unfold stepR
        rw [if_neg c1, if_pos c2]
      rw [e] at st q ⊢
      have a : 0 < l - m := by grind
      have k : s / (s / (l - m) + 1) < l - m := by
        rw [Rat.div_lt_iff' st]
        have := Rat.div_mul_cancel (a := s) (b := l - m) (by grind)
        grind
      grind
    · by_cases c3 : m = h
      · have : 0 < s := by
          subst c3
          grind
        have := div_pos' this st
        grind
      · have e : stepR m s l h = half * ((m - l) + s / (h - m)) := by
          unfold stepR
          rw [if_neg c1, if_neg c2, if_neg c3]
        rw [e] at st q ⊢
        have a : 0 < h - m := by grind
        have k : m - l < s / (h - m) := by
          rw [Rat.lt_div_iff a]
          grind
        have e2 : half * ((m - l) + s / (h - m)) + half * ((m - l) + s / (h - m)) = (m - l) + s / (h - m) := by
          rw [← Rat.add_mul, ht, Rat.one_mul]
        have k2 : h - m < s / (half * ((m - l) + s / (h - m))) := by
          rw [Rat.lt_div_iff st]
          have e3 := Rat.div_mul_cancel (a := s) (b := h - m) (by grind)
          generalize hz : s / (h - m) = z at *
          generalize hy : half * (m - l + z) = y at *
          have : y < z := by grind
          have := Rat.mul_lt_mul_of_pos_left this a
          grind
        grind
theorem out_facts {m s t : Rat} (s0 : 0 ≤ s) (t0 : 0 < t) : 0 < t * t + s ∧ 0 ≤ s / (t * t + s) ∧ 0 ≤ 1 - s / (t * t + s) ∧ m - t ≤ m + s / t ∧
    s / (t * t + s) * (m - t) + (1 - s / (t * t + s)) * (m + s / t) = m ∧ (m + s / t - (m - t)) * (m + s / t - (m - t)) * (s / (t * t + s) * (1 - s / (t * t + s))) = s := by
  have p : 0 < t * t + s := by
    have := Rat.mul_pos t0 t0
    grind
  have q := div_nonneg' s0 p
  have q2 := div_nonneg' s0 t0
  have e1 := Rat.div_mul_cancel (a := s) (b := t * t + s) (by grind)
  have e2 := Rat.div_mul_cancel (a := s) (b := t) (by grind)
  refine ⟨p, q, ?_, by grind, ?_, ?_⟩
  · have : s / (t * t + s) ≤ 1 := by
      rw [Rat.div_def]
      have := Rat.mul_le_mul_of_nonneg_right (show s ≤ t * t + s by have := Rat.mul_pos t0 t0; grind) (Rat.le_of_lt (Rat.inv_pos.mpr p))
      rw [Rat.mul_inv_cancel _ (by grind)] at this
      exact this
    grind
  · generalize s / (t * t + s) = x at *
    generalize s / t = y at *
    have : x * (t + y) = y := by
      have : t * (x * (t + y)) = t * y := by grind
      have h : t⁻¹ * (t * (x * (t + y))) = t⁻¹ * (t * y) := by rw [this]
      rw [← Rat.mul_assoc t⁻¹ t, ← Rat.mul_assoc t⁻¹ t, Rat.inv_mul_cancel _ (by grind), Rat.one_mul, Rat.one_mul] at h
      exact h
    grind
  · generalize s / (t * t + s) = x at *
    generalize s / t = y at *
    have k : x * (t + y) = y := by
      have : t * (x * (t + y)) = t * y := by grind
      have h : t⁻¹ * (t * (x * (t + y))) = t⁻¹ * (t * y) := by rw [this]
      rw [← Rat.mul_assoc t⁻¹ t, ← Rat.mul_assoc t⁻¹ t, Rat.inv_mul_cancel _ (by grind), Rat.one_mul, Rat.one_mul] at h
      exact h
    grind
end V3
set_option maxHeartbeats 4100000
set_option exponentiation.threshold 10000
/-! Words that stand in many laws: the well of draws, what lasts while it changes, fractions as data. -/
namespace V3
open PySem.Spec PySem L2 PyProof.Rows RZ GxR
theorem take_more {α : Type} : ∀ {l : List α} {i : Nat} {x : α}, l[i]? = some x → (l.take (i + 1) = l.take i ++ [x])
  | [], i, x, h => by simp at h
  | a :: l, 0, x, h => by
    (have e : a = x := Option.some.inj h)
    subst e
    rfl
  | a :: l, i + 1, x, h => by
    (have ih := take_more (l := l) (i := i) (x := x) h)
    (show a :: l.take (i + 1) = a :: l.take i ++ [x])
    rw [ih]
    rfl
theorem ixNat {n : Nat} {k : Int} {i : Nat} (e : k = (i : Int)) (h : i < n) : ixN n k = some i := by
  subst e
  unfold ixN
  (rw [if_pos (by omega), if_pos (by omega)])
  simp
theorem same_updN {H H' : Hp} {p : Addr} {o : HO} (s : Same H H') (h : H p = none) : Same H (upd H' p o) := fun b x e => by
  rw [upd_ne (ne_of_none e h)]
  exact s b x e
theorem dtAll_set {K : PySem.W.Frag} {H : Hp} {v : V} {d : PyData} : ∀ {vs : List V} {ds : List PyData} (i : Nat), DpTAll K H vs ds → DpT K H v d → DpTAll K H (vs.set i v) (ds.set i d)
  | _, _, _, .nil, _ => .nil
  | _, _, 0, .cons a b, h => .cons h b
  | _, _, i + 1, .cons a b, h => .cons a (dtAll_set i b h)
theorem cutV_mem {xs : List V} {lo hi : Option Int} {x : V} (h : x ∈ cutV xs lo hi) : x ∈ xs := List.mem_of_mem_drop (List.mem_of_mem_take h)
theorem tyT {K : PySem.W.Frag} {H : Hp} {a : Addr} {xs : List V} (h : SqT K H a xs) : TyX K H (.ref a) (.type "tuple") := by
  rcases h with (h | ⟨o, h⟩) | ⟨o, its, n, h1, h2, _⟩
  · exact .base (.tup h)
  · exact .fTuple h
  · exact .kTuple h1 h2
theorem tyL {K : PySem.W.Frag} {H : Hp} {a : Addr} {xs : List V} (h : SqL K H a xs) : TyX K H (.ref a) (.type "list") := by
  rcases h with (h | ⟨o, h⟩) | ⟨o, its, n, h1, h2, _⟩
  · exact .base (.lst h)
  · exact .base (.frz h)
  · exact .kList h1 h2
theorem at20 {α : Type} {x y : α} : atI [x, y] 0 = some x := atI_nat (j := 0) rfl
theorem at21 {α : Type} {x y : α} : atI [x, y] 1 = some y := atI_nat (j := 1) rfl
theorem at32 {α : Type} {x y z : α} : atI [x, y, z] 2 = some z := atI_nat (j := 2) rfl
theorem at30 {α : Type} {x y z : α} : atI [x, y, z] 0 = some x := atI_nat (j := 0) rfl
theorem at31 {α : Type} {x y z : α} : atI [x, y, z] 1 = some y := atI_nat (j := 1) rfl
theorem eqv_nil (ds : List PyData) : PyData.eqv (.list ds) (.list []) = decide (ds = []) := by
  cases ds with
  | nil => rfl
  | cons a r => rfl
/-- an item of a list, a tuple, inside of a comprehension -/
theorem ixLK {X : Cx} {K : PySem.W.Frag} (h : X.K = K) : IxR X (rIxL K) := by
  subst h
  exact ix_list
theorem ixTK {X : Cx} {K : PySem.W.Frag} (h : X.K = K) : IxR X (rIxT K) := by
  subst h
  exact ix_tup
/-! ### the well -/
def Well (H : Hp) (a : Addr) (k : Nat) : Prop := ∃ x y z : Int, H a = some (.lst [.int x, .int y, .int z]) ∧ 0 ≤ x ∧ 0 ≤ y ∧ y < 2147483647 ∧ 0 ≤ z ∧ z ≤ k
theorem Well.mono {H : Hp} {a : Addr} {k l : Nat} (h : Well H a k) (hk : k ≤ l) : Well H a l := by
  obtain ⟨x, y, z, h1, h2, h3, h4, h5, h6⟩ := h
  exact ⟨x, y, z, h1, h2, h3, h4, h5, by omega⟩
theorem Well.same {H H' : Hp} {a : Addr} {k : Nat} (h : Well H a k) (e : Same H H') : Well H' a k := by
  obtain ⟨x, y, z, h1, h2⟩ := h
  exact ⟨x, y, z, e _ _ h1, h2⟩
theorem Well.lst {H : Hp} {a : Addr} {k : Nat} (h : Well H a k) : ∃ xs, H a = some (.lst xs) := by
  obtain ⟨x, y, z, h1, _⟩ := h
  exact ⟨_, h1⟩
theorem Well.ne {H : Hp} {a p : Addr} {k : Nat} (h : Well H a k) (e : H p = none) : a ≠ p := fun z => by
  obtain ⟨xs, hx⟩ := h.lst
  rw [z, e] at hx
  cases hx
theorem Well.upd {H : Hp} {a p : Addr} {o : HO} {k : Nat} (h : Well H a k) (n : a ≠ p) : Well (L2.upd H p o) a k := by
  obtain ⟨x, y, z, h1, h2⟩ := h
  exact ⟨x, y, z, by rw [upd_ne n]; exact h1, h2⟩
theorem But.upd {P : Addr} {H H' : Hp} {o : HO} (e : But P H H') : But P H (upd H' P o) := fun b x n h => by
  rw [upd_ne n]
  exact e b x n h
theorem But.updN {P p : Addr} {H H' : Hp} {o : HO} (e : But P H H') (h : H p = none) : But P H (L2.upd H' p o) := fun b x n hb => by
  rw [upd_ne (ne_of_none hb h)]
  exact e b x n hb
theorem But.ktL {P : Addr} {H H' : Hp} {xs : List V} (h : But P H H') (hP : H P = some (.lst xs)) : KeepT H H' :=
  ⟨fun b xs e => h b _ (fun z => by rw [z, hP] at e; cases e) e, fun b o u e => h b _ (fun z => by rw [z, hP] at e; cases e) e⟩
theorem But.ktW {a : Addr} {k : Nat} {H H' : Hp} (h : But a H H') (hP : Well H a k) : KeepT H H' := by
  obtain ⟨xs, e⟩ := hP.lst
  exact h.ktL e
/-! ### fractions as data -/
def frd (x : Rat) : PyData := .tuple [.int x.num, .int (x.den : Int)]
def frO (x : Rat) : HO := .tup [.int x.num, .int (x.den : Int)]
section
variable {K : PySem.W.Frag} {H H' : Hp}
theorem fqT {v : V} {x : Rat} (h : DpT K H v (frd x)) : ∃ p, v = .ref p ∧ SqT K H p [.int x.num, .int (x.den : Int)] := dpFr (q := (x.num, (x.den : Int))) h.dp
theorem fqO {p : Addr} {x : Rat} (h : H p = some (frO x)) : DpT K H (.ref p) (frd x) := .tup (SqT.of h) (.cons (.int _) (.cons (.int _) .nil))
theorem fqI {p : Addr} {x : Rat} {a b : Int} (h : H p = some (.tup [.int a, .int b])) (e1 : x.num = a) (e2 : (x.den : Int) = b) : DpT K H (.ref p) (frd x) := by
  subst e1 e2
  exact fqO h
theorem fqSame {v : V} {x : Rat} (h : DpT K H v (frd x)) (s : Same H H') : DpT K H' v (frd x) := DpT.keep (Same.kt s) h
theorem eqv_frd (x y : Rat) : PyData.eqv (frd x) (frd y) = decide (x = y) := by
  have h : (x = y) ↔ (x.num = y.num ∧ (x.den : Int) = (y.den : Int)) := by
    constructor
    · intro h
      subst h
      exact ⟨rfl, rfl⟩
    · rintro ⟨h1, h2⟩
      exact Rat.ext h1 (by omega)
  have h2 : PyData.eqv (frd x) (frd y) = decide (x.num = y.num ∧ (x.den : Int) = (y.den : Int)) := by
    unfold frd
    simp [PyData.eqv, PyData.eqvAll]
    rfl
  rw [h2, decide_eq_decide]
  exact h.symm
theorem shaped_frd (x : Rat) : SeqAt.shaped (frd x) = true := rfl
theorem shaped_frds (qs : List Rat) : SeqAt.shaped (.list (qs.map frd)) = true := by
  have h1 : ∀ qs : List Rat, PyData.canLayAll0 (qs.map frd) = true := fun qs => by
    induction qs with
    | nil => rfl
    | cons a r ih => simp only [List.map_cons, PyData.canLayAll0, PyData.canLay0, frd, ih, Bool.and_self]
  have h2 : ∀ qs : List Rat, PyData.depthAll (qs.map frd) ≤ 1 := fun qs => by
    induction qs with
    | nil => exact Nat.zero_le _
    | cons a r ih =>
      have e : PyData.depth (frd a) = 1 := rfl
      rw [List.map_cons, PyData.depthAll, e]
      omega
  have := h2 qs
  unfold SeqAt.shaped
  rw [Bool.and_eq_true, decide_eq_true_eq, PyData.depth]
  exact ⟨by rw [PyData.canLay0]; exact h1 qs, by omega⟩
theorem fqLen {vs : List V} {qs : List Rat} (h : DpTAll K H vs (qs.map frd)) : vs.length = qs.length := by rw [dtAll_len h, List.length_map]
theorem fqGet {vs : List V} {qs : List Rat} {i : Nat} {x : Rat} (h : DpTAll K H vs (qs.map frd)) (e : qs[i]? = some x) : ∃ v, vs[i]? = some v ∧ DpT K H v (frd x) := dtAll_get h (by rw [List.getElem?_map, e]; rfl)
theorem fqGetV {vs : List V} {qs : List Rat} {i : Nat} {v : V} (h : DpTAll K H vs (qs.map frd)) (e : vs[i]? = some v) : ∃ x, qs[i]? = some x ∧ DpT K H v (frd x) := by
  obtain ⟨d, hd, hdp⟩ := dtAll_getV h e
  rw [List.getElem?_map] at hd
  obtain ⟨x, hx, rfl⟩ := Option.map_eq_some_iff.mp hd
  exact ⟨x, hx, hdp⟩
end
/-! ### promises of reckoning -/
def spFrac : Sp := fun vs H Q _ => ∃ n u : Int, vs = [.int n, .int u] ∧ 0 < u ∧ u.natAbs < 2 ^ 9000 ∧ ∀ H' p, Same H H' → H' p = some (frO (Rat.divInt n u)) → Q (.ref p) H'
def spR2 (K : PySem.W.Frag) (f : Rat → Rat → Rat) (pre : Rat → Prop) : Sp := fun vs H Q _ => ∃ (v w : V) (x y : Rat), vs = [v, w] ∧ DpT K H v (frd x) ∧ DpT K H w (frd y) ∧ Bq 4000 x ∧ Bq 4000 y ∧ pre y ∧
  ∀ H' p, Same H H' → H' p = some (frO (f x y)) → Q (.ref p) H'
def spR2b (K : PySem.W.Frag) (f : Rat → Rat → Bool) : Sp := fun vs H Q _ => ∃ (v w : V) (x y : Rat), vs = [v, w] ∧ DpT K H v (frd x) ∧ DpT K H w (frd y) ∧ Bq 4000 x ∧ Bq 4000 y ∧ Q (.bl (f x y)) H
theorem mulW4 {i j : Int} (h : i.natAbs < 2 ^ 4000) (h' : j.natAbs < 2 ^ 4000) : CMulW i j := wide_mul h h' (by decide) (by decide) (by decide)
theorem sz4 {i j : Int} (h : i.natAbs < 2 ^ 4000) (h' : j.natAbs < 2 ^ 4000) : (i * j).natAbs < 2 ^ 9000 := Nat.lt_of_lt_of_le (mulI h h') (pw (by decide))
theorem gcdP {n u : Int} (h : 0 < u) : 0 < (Int.gcd n u : Int) := by
  have : 0 < Int.gcd n u := Int.gcd_pos_of_ne_zero_right n (by omega)
  omega
theorem gcdL {n u : Int} (h : 0 < u) : (Int.gcd n u : Int) ≤ u := Int.le_of_dvd h (Int.gcd_dvd_right ..)
/-- what makes a fraction is that number -/
theorem made {n u : Int} {H : Hp} {p : Addr} (h : 0 < u) (e : H p = some (.tup [.int (n / (Int.gcd n u : Int)), .int (u / (Int.gcd n u : Int))])) : H p = some (frO (Rat.divInt n u)) := by
  rw [e]
  unfold frO
  rw [dnum h, dden h]
end V3
namespace V3
open PySem.Spec PySem L2 PyProof.Rows RZ GxR
theorem pi_listK {X : Cx} {K : PySem.W.Frag} {tg l : Expr} {tl : TE} (h : X.K = K) (hl : PE X l tl) : PI X tg l (iList K tl) := by
  subst h
  exact pi_list hl
theorem pi_tupK {X : Cx} {K : PySem.W.Frag} {tg l : Expr} {tl : TE} (h : X.K = K) (hl : PE X l tl) : PI X tg l (iTup K tl) := by
  subst h
  exact pi_tup hl
end V3
/-! Any values: their kinds, how they last, a sequence beside the empty one, repr of a truth. -/
namespace V3
open PySem.Spec PySem L2 PyProof.Rows RZ GxR
/-- a value: a whole number, a tuple, or anything else -/
inductive D where
  | int (i : Int)
  | oth
  | tup (ds : List D)
mutual
/-- v is such a value; nothing of it stands at a -/
inductive An (K : PySem.W.Frag) (a : Addr) (H : Hp) : V → D → Prop
  | int (i : Int) : An K a H (.int i) (.int i)
  | non : An K a H .non .oth
  | bl (b : Bool) : An K a H (.bl b) .oth
  | str (x : Str) : An K a H (.str x) .oth
  | lst {p : Addr} {xs : List V} : SqL K H p xs → p ≠ a → An K a H (.ref p) .oth
  | dic {p : Addr} {kvs : List (Key × V)} : (H p = some (.dK kvs) ∨ ∃ o, H p = some (.frz o (.dK kvs))) → p ≠ a → An K a H (.ref p) .oth
  | tup {p : Addr} {xs : List V} {ds : List D} : SqT K H p xs → True → AnAll K a H xs ds → An K a H (.ref p) (.tup ds)
inductive AnAll (K : PySem.W.Frag) (a : Addr) (H : Hp) : List V → List D → Prop
  | nil : AnAll K a H [] []
  | cons {v : V} {vs : List V} {d : D} {ds : List D} : An K a H v d → AnAll K a H vs ds → AnAll K a H (v :: vs) (d :: ds)
end
/-- all but what stands at a, and but tables of code, stands -/
def KeepA (a : Addr) (H H' : Hp) : Prop := ∀ b o, (b ≠ a ∨ ∀ xs, o ≠ .lst xs) → (∀ q, o ≠ .tbl q) → H b = some o → H' b = some o
section
variable {K : PySem.W.Frag} {a : Addr} {H H' H2 : Hp}
theorem KeepA.trans (h : KeepA a H H') (g : KeepA a H' H2) : KeepA a H H2 := fun b o n t e => g b o n t (h b o n t e)
theorem But.keepA {xs : List V} (h : But a H H') (l : H a = some (.lst xs)) : KeepA a H H' := fun b o n _ e => h b o (fun z => by
  subst z
  rw [l] at e
  cases e
  exact n.elim (fun u => u rfl) (fun u => u xs rfl)) e
theorem Same.keepA (h : Same H H') : KeepA a H H' := fun b o _ _ e => h b o e
theorem Tabbed.keepA {P : Addr} (t : TabG H P) (h : But P H H') : KeepA a H H' := fun b o n tb e => h b o (fun z => by
  obtain ⟨ps, hp, _⟩ := t
  rw [z, hp] at e
  exact tb ps (Option.some.inj e).symm) e
theorem KeepA.sqT {p : Addr} {xs : List V} (k : KeepA a H H') (_ : True) (h : SqT K H p xs) : SqT K H' p xs := by
  (rcases h with (h | ⟨o, h⟩) | h)
  · exact .inl (.inl (k _ _ (.inr fun _ z => nomatch z) (fun _ z => nomatch z) h))
  · exact .inl (.inr ⟨o, k _ _ (.inr fun _ z => nomatch z) (fun _ z => nomatch z) h⟩)
  · exact .inr h
theorem KeepA.sqL {p : Addr} {xs : List V} (k : KeepA a H H') (n : p ≠ a) (h : SqL K H p xs) : SqL K H' p xs := by
  (rcases h with (h | ⟨o, h⟩) | h)
  · exact .inl (.inl (k _ _ (.inl n) (fun _ z => nomatch z) h))
  · exact .inl (.inr ⟨o, k _ _ (.inl n) (fun _ z => nomatch z) h⟩)
  · exact .inr h
theorem KeepA.dic {p : Addr} {kvs : List (Key × V)} (k : KeepA a H H') (n : p ≠ a) (h : H p = some (.dK kvs) ∨ ∃ o, H p = some (.frz o (.dK kvs))) : H' p = some (.dK kvs) ∨ ∃ o, H' p = some (.frz o (.dK kvs)) := by
  rcases h with e | ⟨o, e⟩
  · exact .inl (k _ _ (.inl n) (fun _ z => nomatch z) e)
  · exact .inr ⟨o, k _ _ (.inl n) (fun _ z => nomatch z) e⟩
theorem fastDic {P : Program} {w : World} {h : Heap} {p : Addr} {kvs : List (Key × V)} (ok : HOk P w H h) (x : H p = some (.dK kvs) ∨ ∃ o, H p = some (.frz o (.dK kvs))) : V3.fast h H p = some (.dK kvs) ∨ ∃ o, V3.fast h H p = some (.frz o (.dK kvs)) := by
  rcases x with e | ⟨o, e⟩
  · exact .inr (fast_dK ok e)
  · exact .inr ⟨o, by unfold V3.fast; rw [e]⟩
end
mutual
theorem An.keep {K : PySem.W.Frag} {a : Addr} {H H' : Hp} (k : KeepA a H H') : ∀ {v : V} {d : D}, An K a H v d → An K a H' v d
  | _, _, .int i => .int i
  | _, _, .non => .non
  | _, _, .bl b => .bl b
  | _, _, .str x => .str x
  | _, _, .lst h n => .lst (k.sqL n h) n
  | _, _, .dic h n => .dic (k.dic n h) n
  | _, _, .tup h n x => .tup (k.sqT n h) n (AnAll.keep k x)
theorem AnAll.keep {K : PySem.W.Frag} {a : Addr} {H H' : Hp} (k : KeepA a H H') : ∀ {vs : List V} {ds : List D}, AnAll K a H vs ds → AnAll K a H' vs ds
  | _, _, .nil => .nil
  | _, _, .cons x y => .cons (An.keep k x) (AnAll.keep k y)
end
mutual
theorem An.fast {P : Program} {w : World} {K : PySem.W.Frag} {a : Addr} {h : Heap} {H : Hp} (ok : HOk P w H h) : ∀ {v : V} {d : D}, An K a H v d → An K a (V3.fast h H) v d
  | _, _, .int i => .int i
  | _, _, .non => .non
  | _, _, .bl b => .bl b
  | _, _, .str x => .str x
  | _, _, .lst s n => .lst (fastL ok s) n
  | _, _, .dic e n => .dic (fastDic ok e) n
  | _, _, .tup s n x => .tup (fastT ok s) n (AnAll.fast ok x)
theorem AnAll.fast {P : Program} {w : World} {K : PySem.W.Frag} {a : Addr} {h : Heap} {H : Hp} (ok : HOk P w H h) : ∀ {vs : List V} {ds : List D}, AnAll K a H vs ds → AnAll K a (V3.fast h H) vs ds
  | _, _, .nil => .nil
  | _, _, .cons x y => .cons (An.fast ok x) (AnAll.fast ok y)
end
/-- the name of the kind, as far as it is asked -/
def D.kind : D → String → Prop
  | .int _, T => T = "int"
  | .tup _, T => T = "tuple"
  | .oth, T => T ≠ "int" ∧ T ≠ "tuple"
section
variable {K : PySem.W.Frag} {a : Addr} {H : Hp}
theorem anLen {vs : List V} {ds : List D} (h : AnAll K a H vs ds) : vs.length = ds.length := by
  induction ds generalizing vs with
  | nil =>
    cases h
    rfl
  | cons d ds ih =>
    cases h with
    | cons x y => rw [List.length_cons, List.length_cons, ih y]
theorem anGetV {vs : List V} {ds : List D} {i : Nat} {v : V} (h : AnAll K a H vs ds) (e : vs[i]? = some v) : ∃ d, ds[i]? = some d ∧ An K a H v d := by
  induction ds generalizing vs i with
  | nil =>
    cases h
    simp at e
  | cons x ds ih =>
    cases h with
    | cons b c =>
      cases i with
      | zero =>
        have q := Option.some.inj e
        subst q
        exact ⟨_, rfl, b⟩
      | succ i =>
        have q := ih (i := i) c
        exact q e
theorem anGet {vs : List V} {ds : List D} {i : Nat} {d : D} (h : AnAll K a H vs ds) (e : ds[i]? = some d) : ∃ v, vs[i]? = some v ∧ An K a H v d := by
  induction ds generalizing vs i with
  | nil => simp at e
  | cons x ds ih =>
    cases h with
    | cons b c =>
      cases i with
      | zero =>
        have q : x = d := Option.some.inj e
        subst q
        exact ⟨_, rfl, b⟩
      | succ i =>
        have q := ih (i := i) c
        exact q e
theorem anApp {vs ws : List V} {ds es : List D} (h : AnAll K a H vs ds) (g : AnAll K a H ws es) : AnAll K a H (vs ++ ws) (ds ++ es) := by
  induction ds generalizing vs with
  | nil =>
    cases h
    exact g
  | cons x ds ih =>
    cases h with
    | cons b c => exact .cons b (ih c)
theorem anTake : ∀ {vs : List V} {ds : List D} (i : Nat), AnAll K a H vs ds → AnAll K a H (vs.take i) (ds.take i)
  | _, _, 0, _ => .nil
  | _, _, _ + 1, .nil => .nil
  | _, _, i + 1, .cons x y => .cons x (anTake i y)
theorem anDrop : ∀ {vs : List V} {ds : List D} (i : Nat), AnAll K a H vs ds → AnAll K a H (vs.drop i) (ds.drop i)
  | _, _, 0, h => h
  | _, _, _ + 1, .nil => .nil
  | _, _, i + 1, .cons x y => anDrop i y
theorem anTup {v : V} {ds : List D} (h : An K a H v (.tup ds)) : ∃ p xs, v = .ref p ∧ SqT K H p xs ∧ True ∧ AnAll K a H xs ds := by
  cases h with
  | tup x n y => exact ⟨_, _, rfl, x, n, y⟩
theorem anInt {v : V} {i : Int} (h : An K a H v (.int i)) : v = .int i := by
  cases h
  rfl
/-- its kind, for isinstance -/
theorem An.tyx {v : V} {d : D} (h : An K a H v d) : ∃ T, TyX K H v (.type T) ∧ d.kind T := by
  cases h with
  | int i => exact ⟨"int", .base (.int i), rfl⟩
  | non => exact ⟨"NoneType", .base .non, by decide, by decide⟩
  | bl b => exact ⟨"bool", .base (.bl b), by decide, by decide⟩
  | str x => exact ⟨"str", .base (.str x), by decide, by decide⟩
  | lst s n => exact ⟨"list", tyL s, by decide, by decide⟩
  | dic e n =>
    rcases e with e | ⟨o, e⟩
    · exact ⟨"dict", .base (.dK e), by decide, by decide⟩
    · exact ⟨"dict", .fDict e, by decide, by decide⟩
  | tup s n x => exact ⟨"tuple", tyT s, rfl⟩
end
/-! ### type(x), also of a dict that is held fast -/
section
variable {X : Cx}
variable {pins : List (Addr × Obj)} {σ : L2.St} {H : Hp} {s : Shared}
def rTypA (K : PySem.W.Frag) : List V → Hp → VK → Prop := fun vs H Q => ∃ a x d, vs = [x] ∧ An K a H x d ∧ ∀ T, d.kind T → Q (.ty T) H
theorem An.is {a : Addr} {x : V} {u : Value} {d : D} (I : Inv X pins σ H s) (rx : RelV x u) (t : An X.K a H x d) : ∃ T, s.TypeIs u T ∧ d.kind T ∧ (Value.type T == Value.type "builtin_function_or_method") = false := by
  cases t with
  | int i => exact ⟨"int", (TyB.int i).is I rx, rfl, by decide +kernel⟩
  | non => exact ⟨"NoneType", TyB.non.is I rx, ⟨by decide, by decide⟩, by decide +kernel⟩
  | bl b => exact ⟨"bool", (TyB.bl b).is I rx, ⟨by decide, by decide⟩, by decide +kernel⟩
  | str y => exact ⟨"str", (TyB.str y).is I rx, ⟨by decide, by decide⟩, by decide +kernel⟩
  | lst h n => exact ⟨"list", (TyB.lst h).is I rx, ⟨by decide, by decide⟩, by decide +kernel⟩
  | @dic p kvs h n =>
    rcases h with h | ⟨o, h⟩
    · exact ⟨"dict", (TyB.dK h).is I rx, ⟨by decide, by decide⟩, by decide +kernel⟩
    · refine ⟨"dict", ?_, ⟨by decide, by decide⟩, by decide +kernel⟩
      cases (show u = Value.ref p from rx)
      obtain ⟨_, _, _, vs, _, pr⟩ := (show ObjOk X.prog X.w H s.heap p (.frz o (.dK kvs)) from I.hok p _ h)
      exact pr.typeIs
  | tup h n y => exact ⟨"tuple", (TyB.tup h).is I rx, rfl, by decide +kernel⟩
theorem call_typeA : CallR X (.type "type") (rTypA X.K) := by
  (intro pins s σ H xs us Q I r h)
  obtain ⟨a, x, d, rfl, t, q⟩ := h
  (obtain ⟨u, rfl, rx⟩ := vals1 r)
  obtain ⟨T, h1, h2, h3⟩ := t.is I rx
  exact call_type_of h1 h3 ⟨.ty T, H, I, rfl, q T h2⟩
/-! ### repr of a truth -/
theorem call_repr_bl : CallR X (.builtin "repr") (fun xs H Q => ∃ b, xs = [.bl b] ∧ Q (.str (if b then "True" else "False")) H) := by
  (intro pins s σ H xs us Q I r h)
  obtain ⟨b, rfl, q⟩ := h
  (obtain ⟨u, rfl, rx⟩ := vals1 r)
  cases rx
  exact PySem.P.repr_of_bool ⟨.str _, H, I.tok _, ⟨_, rfl⟩, q⟩
/-! ### a list, a tuple, beside the empty one -/
def rNeNil (K : PySem.W.Frag) : R2 := fun x y H Q => ∃ p q xs, x = .ref p ∧ y = .ref q ∧ ((SqL K H p xs ∧ SqL K H q []) ∨ (SqT K H p xs ∧ SqT K H q [])) ∧ Q (.bl (!decide (xs = []))) H
theorem op_neNil (hu : X.A.units + 64 < cLine) : OpR X (compareOp .NotEq) (rNeNil X.K) := by
  (intro pins s σ H x y v u Q I rx ry h)
  obtain ⟨p, q, xs, rfl, rfl, hh, qq⟩ := h
  (cases (show v = Value.ref p from rx))
  cases (show u = Value.ref q from ry)
  have room : X.A.units < cLine := by omega
  rcases hh with ⟨h1, h2⟩ | ⟨h1, h2⟩
  · obtain ⟨its, rv, pl, zl⟩ := I.list h1
    obtain ⟨its2, rv2, pl2, zl2⟩ := I.list h2
    have l1 := rv.length
    cases rv2
    by_cases e : xs = []
    · subst e
      cases rv
      refine SeqAt.RcNeAt.lists pl.isList pl2.isList rfl room (e := fun _ => true) (fun j h1 h2 => absurd h1 (by simp)) X.prog X.w _ _ ?_
      exact ⟨.bl _, H, I, rfl, qq⟩
    · refine SeqAt.RcNeAt.lists_lengths pl.isList pl2.isList ?_ room X.prog X.w _ _ ?_
      · have : its.length ≠ 0 := by
          rw [← l1]
          exact fun z => e (List.length_eq_zero_iff.mp z)
        simp
        intro z
        rw [z] at this
        exact this rfl
      · have e2 : (!decide (xs = [])) = true := by simp [e]
        rw [e2] at qq
        exact ⟨.bl _, H, I, rfl, qq⟩
  · obtain ⟨its, rv, ⟨o1, a1, a2, n1, a3⟩, zl⟩ := I.tuple h1
    obtain ⟨its2, rv2, ⟨o2, b1, b2, n2, b3⟩, zl2⟩ := I.tuple h2
    have l1 := rv.length
    cases rv2
    refine SeqAt.RcNeAt.tuples (items := its.toArray) (items2 := #[]) ⟨o1, a1, a2, n1, a3⟩ ⟨o2, b1, b2, n2, b3⟩ room (e := fun _ => true) (fun j h1 h2 => absurd h2 (by simp)) X.prog X.w _ _ ?_
    have e2 : (!((List.range (min its.toArray.size (#[] : Array Value).size)).all (fun _ => true) && its.toArray.size == (#[] : Array Value).size)) = !decide (xs = []) := by
      cases xs with
      | nil =>
        cases rv
        rfl
      | cons x r =>
        cases rv with
        | cons u us => rfl
    rw [e2]
    exact ⟨.bl _, H, I, rfl, qq⟩
end
mutual
/-- data of tuples, numbers and others, as a value -/
def conv : PyData → D
  | .int i => .int i
  | .tuple ds => .tup (convs ds)
  | _ => .oth
def convs : List PyData → List D
  | [] => []
  | d :: r => conv d :: convs r
end
theorem convs_map : ∀ (ds : List PyData), convs ds = ds.map conv
  | [] => rfl
  | d :: r => by
    rw [List.map_cons, ← convs_map r]
    rfl
mutual
theorem DpT.an {K : PySem.W.Frag} {a : Addr} {H : Hp} : ∀ {v : V} {d : PyData}, DpT K H v d → An K a H v (conv d)
  | _, _, .non => .non
  | _, _, .bl b => .bl b
  | _, _, .int i => .int i
  | _, _, .str x => .str x
  | _, _, .tup s x => .tup s trivial (DpTAll.an x)
theorem DpTAll.an {K : PySem.W.Frag} {a : Addr} {H : Hp} : ∀ {vs : List V} {ds : List PyData}, DpTAll K H vs ds → AnAll K a H vs (convs ds)
  | _, _, .nil => .nil
  | _, _, .cons x y => .cons (DpT.an x) (DpTAll.an y)
end
end V3
/-! Defs that are called where no repr is under way: their promise, a call of one, and the law's end. -/
namespace V3
open PySem.Spec PySem L2 PyProof.Rows RZ GxR
/-- a promise of a def wherever no repr is under way -/
structure FnG (P : Program) (w : World) (K : PySem.W.Frag) (mg : Str → Option Value) (base : Heap) (k : Nat) (f : Addr) (fd : FuncData) (ps : List Str) (sp : Sp) : Prop where
  many : ∀ vs H Q E, sp vs H Q E → vs.length = ps.length
  goes : ∀ (B : Around) (over : List Env) (t : Shared) (H : Hp) (gs : Args) (ws : List Value) (vs : List V) (Q : VK) (E : XK), B.guards = some [] → Room k B → Env0 P w K mg base B over t H → BindsTo t fd gs (ps.zip ws) → Vals vs ws → sp vs H Q E →
    codeAny (model P w) B (.call (.ref f) gs) (CR CX0 over P w H t Q E) t
structure Dg (P : Program) (w : World) (K : PySem.W.Frag) (mg : Str → Option Value) (base : Heap) (x : Str) (k : Nat) (ps : List Str) (sp : Sp) : Prop where
  ex : ∃ (f : Addr) (fd : FuncData), mg x = some (.ref f) ∧ PySem.W.keepIn K (.ref f) = true ∧ Binds K fd ps [] ∧ FnG P w K mg base k f fd ps sp ∧ ∃ (oc : Value) (od : Option Addr) (osl : Array (Option Value)), K.lookup f = some ⟨oc, od, .func fd, osl⟩
section
variable {mg : Str → Option Value} {base : Heap} {K : PySem.W.Frag} {P : Program} {w : World}
theorem Df.g {x : Str} {ps : List Str} {k : Nat} {sp : Sp} (D : Df P w K mg base x k ps sp) : Dg P w K mg base x k ps sp := by
  obtain ⟨f, fd, g, kp, b, G, l⟩ := D.ex
  exact ⟨f, fd, g, kp, b, ⟨G.len, fun B over t H gs ws vs Q E _ hr => G.run B over t H gs ws vs Q E hr⟩, l⟩
theorem Dg.mk' {x : Str} {st : Stmt} {N ps : List Str} {k : Nat} {sp : Sp} (F : At K mg x st) (S : FnScope N ps (defScope st)) (many : ∀ vs H Q E, sp vs H Q E → vs.length = ps.length)
    (hb : ∀ (kV doc pm : Value) (an : Option Addr) (cdv ct : Value) (us : List Value), us.length = ps.length → bindArgs (PySem.W.fnOf x x (defArgs st) (defBody st) (defScope st) .none kV doc pm an cdv ct) ⟨us, []⟩ = pure (ps.zip us))
    (does : ∀ (f : Addr) (cdv : Value) (B : Around) (outer : List Env) (s : Shared) (H : Hp) (vs : List V) (Q : VK) (E : XK), Room k (B.deeper (envOfC x (defScope st) s.heap.objs.size f cdv)) → B.guards = some [] → sp vs H Q E →
      ∃ t, PSs (cxOf CX0 P w K mg base N x (defScope st) f cdv B outer s H E).nox (defBody st) t ∧ t { nx := fun _ H' => Q .non H', rt := Q } (start N vs) H) : Dg P w K mg base x (k + 1) ps sp := by
  obtain ⟨f, fd, g, F⟩ := F.ex
  have F' := F
  obtain ⟨oc, od, kV, doc, pm, an, cdv, ct, osl, e, lk, code⟩ := F.ex
  subst e
  refine ⟨f, _, g, F.kp, F'.binds hb, ⟨many, fun B over t H gs ws vs Q E quiet room e0 bound same ask => ?_⟩, oc, od, osl, lk⟩
  obtain ⟨tr, typed, reads⟩ := does f cdv B over t H vs Q E (room.deeper _) quiet ask
  have there : ∀ b o, base.get? b = some o → t.heap.get? b = some o := fun b o it => (e0.bs b o it).1
  have kin := e0.mod.kin.keeps there
  refine codeAny_call_function room.depth (kin _ _ lk) rfl S.co S.gen rfl (PySem.W.codeRec_of kin code) (bound _ _ _ _ (wpAny_newFunctionEnv_cells S.kind (fun y hy => ?_) fun env he t1 new => ?_))
  · obtain ⟨n, v⟩ := y
    exact (S.par n (List.of_mem_zip hy).1).imp id fun c => ⟨c, PySem.W.cellsFrom_some _ _ _ (.inl c)⟩
  subst he
  have start := inv_start (CX := CX0) (E := E) S room.hd e0 (many _ _ _ _ ask) same new
  refine ⟨(e0.mod.nolimit.keeps there).keeps new.toInCall.keep, codeAny_func (wpAny_mono (typed.nox.run [] t1 _ H _ start reads) (fun fl t2 done => ?_) fun _ _ z => z)⟩
  cases fl with
  | next =>
    obtain ⟨σ2, H2, J, q⟩ := done
    exact ⟨.non, H2, J.os, J.bare, J.base, J.hok, rfl, q⟩
  | ret u =>
    obtain ⟨v, σ2, H2, J, rv, q⟩ := done
    exact ⟨v, H2, J.os, J.bare, J.base, J.hok, rv, q⟩
  | brk =>
    obtain ⟨_, _, _, never⟩ := done
    exact never.elim
  | cont =>
    obtain ⟨_, _, _, never⟩ := done
    exact never.elim
end
section
variable {X : Cx}
/-- a call of such a def, no repr under way here -/
theorem pe_fng {x : Str} {p pos : Pos} {e : Expr} {es : List Expr} {ta : TA} {k k0 : Nat} {ps : List Str} {sp : Sp} (D : Dg X.prog X.w X.K X.mg X.base x k ps sp) (hk : k ≤ k0) (hr : Room k0 X.A) (quiet : X.A.guards = some []) (ha : PA X (e :: es) ta)
    (hg : Gl X x := by rfl) (hdb : (x == ("__debug__" : Str)) = false := by decide) (he : starEach (e :: es) X.env = (false, eval e X.env) :: starEach es X.env := by rfl) (hpl : (backTo pos (starEach es X.env)).any (·.1) = false := by rfl) :
    PE X (.Call (.Name x p) (e :: es) [] pos) (tFn sp ta) := by
  obtain ⟨f, fd, g, kept, bd, G, _⟩ := D.ex
  refine ⟨fun pins s σ H Q I asks => wpAny_Call_Name_kw (ld_glob I hg g (PySem.W.callWith_K (h₀ := X.base) I.ok.mod.kin kept (thn (ha.run pos pins s σ H _ I asks) fun us s1 ⟨vs, H1, J, same, ask⟩ => ⟨J.kIn, ?_⟩) he hpl) hdb)⟩
  have size : us.length = ps.length := same.length.symm.trans (G.many _ _ _ _ ask)
  have bs := bd s1 us J.kIn (by rw [List.append_nil]; exact size)
  rw [List.append_nil] at bs
  refine wpAny_call (codeAny_mono (G.goes X.A X.stack s1 H1 _ us vs Q E0 quiet (hr.mono hk) J.env0 bs same ask) fun r s2 done => ?_)
  match r, done with
  | .ok (.ret u), done => exact J.after done
end
end V3
/-! repr of data where none is under way; the end of a law whose defs want that. -/
namespace V3
open PySem.Spec PySem L2 PyProof.Rows RZ GxR
def rReprD (K : PySem.W.Frag) : List V → Hp → VK → Prop := fun xs H Q => ∃ v d, xs = [v] ∧ Dp K H v d ∧ isDisplay d = true ∧ d.showable = true ∧ d.hasDict = false ∧ d.depth ≤ 60 ∧ d.shown.length ≤ sizeLine ∧ Q (.str d.shown) H
theorem call_reprD {X : Cx} (quiet : X.A.guards = some []) (small : X.A.units + 64 < cLine) : CallR X (.builtin "repr") (rReprD X.K) := by
  (intro pins s σ H xs us Q I r h)
  obtain ⟨v, d, rfl, hd, disp, sh, nd, dep, len, q⟩ := h
  (obtain ⟨u, rfl, ru⟩ := vals1 r)
  obtain ⟨as, rd⟩ := Dp.reads I d v u hd ru
  obtain ⟨b, rfl⟩ := isRef_of_reads rd disp
  exact repr_of_reads' rd sh (PyData.noDict_hsm nd) quiet (by omega) (fun _ _ z => z) (fun h2 tx tk grown => ⟨.str _, H, I.kept grown, ⟨tx, rfl⟩, q⟩) len
/-- what is tracked when a law begins: its script, if it is none of the kept objects, and the tables of code -/
def scripted (K : PySem.W.Frag) (a : Addr) (T : List Addr) (o : Obj) (ns : List Int) : Hp := fun b => if b ∈ T then some (.tbl #[]) else if b = a ∧ K.lookup a = none then some (.frz o (.lst (ns.map V.int))) else none
section
variable {K : PySem.W.Frag} {a b : Addr} {T : List Addr} {o : Obj} {ns : List Int}
theorem scripted_tab (h : b ∈ T) : scripted K a T o ns b = some (.tbl #[]) := if_pos h
theorem scripted_out (h : b ∉ T) (n : b ≠ a) : scripted K a T o ns b = none := by
  unfold scripted
  rw [if_neg h, if_neg fun z => n z.1]
theorem scripted_some {u : HO} (h : scripted K a T o ns b = some u) : (b ∈ T ∧ u = .tbl #[]) ∨ (b ∉ T ∧ b = a ∧ K.lookup a = none ∧ u = .frz o (.lst (ns.map V.int))) := by
  unfold scripted at h
  by_cases hT : b ∈ T
  · rw [if_pos hT] at h
    exact .inl ⟨hT, (Option.some.inj h).symm⟩
  · rw [if_neg hT] at h
    by_cases hn : b = a ∧ K.lookup a = none
    · rw [if_pos hn] at h
      exact .inr ⟨hT, hn.1, hn.2, (Option.some.inj h).symm⟩
    · rw [if_neg hn] at h
      cases h
end
/-- what stands when a law begins -/
structure Begun (K : PySem.W.Frag) (mg : Str → Option Value) (cs : List (Addr × Addr)) (a : Addr) (vs : List Value) (ns : List Int) (s : Shared) : Prop where
  kin : K.In s.heap
  glob : s.heap.Ns mainGlobals mg
  blt : ∃ mb, s.heap.Ns builtinsNs mb ∧ ∀ x : Str, x ≠ "__name__" → mb x = bootBuiltins x
  nolim : s.heap.NoLimit
  gens : s.gens = #[]
  empty : ∀ p ∈ cs, s.heap.get? p.2 = some { cls := .none, data := .fields #[] }
  out : ∀ p ∈ cs, K.lookup p.2 = none
  head : ∀ p ∈ cs, PySem.W.CodeHd s.heap p.1 p.2
  bm : ∃ (bm : Addr) (ob : Obj), mg "__builtins__" = some (.ref bm) ∧ bm ≠ builtinsNs ∧ s.heap.get? bm = some ob ∧ ob.cls = .type "module" ∧ ob.dict = some builtinsNs ∧ ob.data = .plain
  script : s.heap.get? a = some { cls := .type "list", data := .seq vs.toArray }
  nums : IntsAre vs ns
  few : ns.length ≤ sizeLine
section
variable {K : PySem.W.Frag} {mg : Str → Option Value} {cs : List (Addr × Addr)} {a : Addr} {vs : List Value} {ns : List Int} {s : Shared}
abbrev Hb (K : PySem.W.Frag) (cs : List (Addr × Addr)) (a : Addr) (vs : List Value) (ns : List Int) : Hp := scripted K a (cs.map (·.2)) { cls := .type "list", data := .seq vs.toArray } ns
theorem Begun.tabs (B : Begun K mg cs a vs ns s) {b : Addr} (h : b ∈ cs.map (·.2)) : s.heap.get? b = some { cls := .none, data := .fields #[] } := by
  (obtain ⟨p, hp, rfl⟩ := List.mem_map.mp h)
  exact B.empty p hp
/-- what is neither a list nor a table is not tracked -/
theorem Begun.free (B : Begun K mg cs a vs ns s) {b : Addr} {o : Obj} (e : s.heap.get? b = some o) (n1 : ∀ us n, o.data ≠ .seq us n) (n2 : o.data ≠ .fields #[]) : Hb K cs a vs ns b = none := by
  refine scripted_out (fun z => ?_) fun z => ?_
  · rw [B.tabs z] at e
    exact n2 (by rw [← Option.some.inj e])
  · rw [z, B.script] at e
    cases e
    exact n1 _ _ rfl
theorem Begun.kept (B : Begun K mg cs a vs ns s) {b : Addr} {o : Obj} (e : s.heap.get? b = some o) (n : Hb K cs a vs ns b = none) : (hidT s.heap (Hb K cs a vs ns)).get? b = some o := hidT_get e n
theorem Begun.nsB (B : Begun K mg cs a vs ns s) {b : Addr} {m : Str → Option Value} (h : s.heap.Ns b m) : (hidT s.heap (Hb K cs a vs ns)).Ns b m := by
  obtain ⟨o, es, ep, e, d, r⟩ := h
  exact ⟨o, es, ep, B.kept e (B.free e (fun us n z => by rw [d] at z; cases z) fun z => by rw [d] at z; cases z), d, r⟩
theorem Begun.hok (B : Begun K mg cs a vs ns s) {P : Program} {w : World} : HOk P w (Hb K cs a vs ns) s.heap := by
  intro b u e
  rcases scripted_some e with ⟨m, rfl⟩ | ⟨_, rfl, _, rfl⟩
  · exact B.tabs m
  · exact ⟨B.script, by rw [List.length_map]; exact B.few, vs, _, vals_ints B.nums, B.script⟩
theorem Begun.kinB (B : Begun K mg cs a vs ns s) : K.In (hidT s.heap (Hb K cs a vs ns)) := by
  intro b o e
  refine B.kept (B.kin b o e) ?_
  cases q : Hb K cs a vs ns b with
  | none => rfl
  | some u =>
    rcases scripted_some q with ⟨m, _⟩ | ⟨_, rfl, n, _⟩
    · obtain ⟨p, hp, rfl⟩ := List.mem_map.mp m
      rw [B.out p hp] at e
      cases e
    · rw [n] at e
      cases e
theorem Begun.seq (B : Begun K mg cs a vs ns s) : SqL K (Hb K cs a vs ns) a (ns.map V.int) := by
  have notT : a ∉ cs.map (·.2) := fun z => by
    have e := B.tabs z
    rw [B.script] at e
    cases e
  cases hk : K.lookup a with
  | none => exact .inl (.inr ⟨{ cls := .type "list", data := .seq vs.toArray }, by show scripted _ _ _ _ _ a = _; unfold scripted; rw [if_neg notT, if_pos ⟨rfl, hk⟩]⟩)
  | some o =>
    have e := B.kin a o hk
    rw [B.script] at e
    cases e
    exact .inr ⟨_, vs.toArray, _, hk, rfl, rfl, rfl, by rw [List.size_toArray, B.nums.length]; exact B.few, by simpa using vals_ints B.nums⟩
theorem Begun.tabB (B : Begun K mg cs a vs ns s) {p : Addr × Addr} (hp : p ∈ cs) : LamX.TabB (hidT s.heap (Hb K cs a vs ns)) mg p.1 p.2 := by
  have tp := B.empty p hp
  refine ⟨?_, ?_, fun z => ?_⟩
  · obtain ⟨o, us, f1, f2, f3, f4, f5, f6, f7, at_, r1, r2, r3, r⟩ := B.head p hp
    refine ⟨o, us, f1, f2, f3, f4, f5, f6, f7, B.kept at_ (B.free at_ (fun ws n z => ?_) fun z => ?_), r1, r2, r3, r⟩
    · rw [r2] at z
      cases z
    · rw [r2] at z
      cases z
      simp at r3
  · obtain ⟨bm, ob, b1, b2, b3, b4, b5, b6⟩ := B.bm
    refine ⟨bm, ob, b1, b2, fun z => ?_, fun z => ?_, B.kept b3 (B.free b3 (fun ws n z => by rw [b6] at z; cases z) fun z => by rw [b6] at z; cases z), b4, b5, b6⟩
    · obtain ⟨o, es, ep, e, d, _⟩ := B.glob
      rw [z, e] at b3
      cases b3
      rw [d] at b6
      cases b6
    · rw [z, tp] at b3
      cases b3
      cases b6
  · obtain ⟨o, es, ep, e, d, _⟩ := B.glob
    rw [z, tp] at e
    cases e
    cases d
theorem Begun.env (B : Begun K mg cs a vs ns s) {P : Program} {w : World} : Env0 P w K mg (hidT s.heap (Hb K cs a vs ns)) callerA [] s (Hb K cs a vs ns) := by
  obtain ⟨mb, m1, m2⟩ := B.blt
  obtain ⟨mc, l1, l2⟩ := B.nolim
  exact ⟨rfl, ⟨B.kinB, B.nsB B.glob, ⟨mb, B.nsB m1, m2⟩, ⟨mc, B.nsB l1, l2⟩⟩, fun b o e => of_hidT e, Nat.le_of_eq (hidT_size _ _), trivial, (fun b hb => absurd (show b ∈ ([] : List Addr) from hb) List.not_mem_nil), B.hok, .of_eq B.gens⟩
/-- what was stands after: all but the tables, which grow -/
theorem Begun.old (B : Begun K mg cs a vs ns s) {P : Program} {w : World} {H' : Hp} {h' : Heap} (un : Un [] [] (Hb K cs a vs ns) H' s.heap h') (ok : HOk P w H' h') : OldK s.heap h' := by
  have way : ∀ b o, s.heap.get? b = some o → asItWas s.heap h' b o ∧ ∃ o', h'.get? b = some o' := fun b o e => by
    cases q : Hb K cs a vs ns b with
    | none =>
      have z := un.keep b o e q (fun x => nomatch x) (fun x => nomatch x)
      exact ⟨.inl z, o, z⟩
    | some u =>
      rcases scripted_some q with ⟨m, rfl⟩ | ⟨_, rfl, _, rfl⟩
      · obtain ⟨p, hp, rfl⟩ := List.mem_map.mp m
        obtain ⟨more, grown⟩ := un.tbls _ _ q
        have z := ok _ _ grown
        have e1 := B.empty p hp
        rw [e1] at e
        cases e
        exact ⟨.inr (.inl ⟨((B.head p hp).tab e1).isCodeTable, rfl, #[], more, rfl, z⟩), _, z⟩
      · have z := (ok _ _ (un.frzs _ _ _ q)).1
        rw [B.script] at e
        cases e
        exact ⟨.inl z, _, z⟩
  exact ⟨fun b o e => (way b o e).1, fun b o e => (way b o e).2⟩
/-- the law's end, its defs' promises given where no repr is under way -/
theorem Begun.runs (B : Begun K mg cs a vs ns s) {P : Program} {w : World} {k : Nat} {fa : Addr} {fd : FuncData} {x : Str} {sp : Sp} (room : Room k callerA)
    (F : FnG P w K mg (hidT s.heap (Hb K cs a vs ns)) k fa fd [x] sp) (bound : BindsTo s fd ⟨[.ref a], []⟩ [(x, .ref a)])
    (ask : sp [.ref a] (Hb K cs a vs ns) (fun v _ => v = .bl true) fun _ _ _ => False) :
    codeAny (model P w) callerA (.call (.ref fa) ⟨[.ref a], []⟩) (fun r s' => r = .ok (.ret (.bool true)) ∧ OldK s.heap s'.heap ∧ s'.os = s.os ∧ AllBare s'.gens) s := by
  refine codeAny_mono (F.goes callerA [] s _ _ [.ref a] [.ref a] _ _ rfl room B.env bound (.cons rfl .nil) ask) fun r s2 done => ?_
  match r, done with
  | .ok (.ret u), done =>
    obtain ⟨v, H2, os, bare, un, ok, rv, rfl⟩ := done
    exact ⟨by rw [show u = .bool true from rv], B.old un ok, os, bare⟩
end
/-- as the library's own, for promises where no repr is under way -/
def LawG (l : PySem.W.OpenLaw) (w : World) (K : PySem.W.Frag) (k n : Nat) (x : Str) (mg : Str → Option Value) (fa : Addr) (h : Heap) : Prop :=
  ∃ (fd : FuncData) (cs : List (Addr × Addr)) (sp : Sp), (∀ r ∈ cs, h.get? r.2 = some { cls := .none, data := .fields #[] }) ∧ (∀ r ∈ cs, K.lookup r.2 = none) ∧ (∀ r ∈ cs, PySem.W.CodeHd h r.1 r.2) ∧ (∀ (s : Shared) (u : Value), BindsTo s fd ⟨[u], []⟩ [(x, u)]) ∧
    (∀ (H : Hp) (a : Addr) (ns : List Int), ns.length ≤ n → (∀ p ∈ cs, H p.2 = some (.tbl #[])) → SqL K H a (ns.map V.int) → sp [.ref a] H (fun v _ => v = .bl true) fun _ _ _ => False) ∧
    ∀ base : Heap, K.In base → base.Ns mainGlobals mg → (∀ p ∈ cs, LamX.TabB base mg p.1 p.2) → FnG l.prog w K mg base k fa fd [x] sp
theorem walkG {l : PySem.W.OpenLaw} {n k : Nat} {q : Program} {loose : List Str} {XP : (Str → Option Value) → Heap → Prop} {YP : World → Heap → Prop} {d : DefRec} {x : Str} (most : l.most = some n) (few : n ≤ sizeLine) (plain : d.params.defaults = []) (room : Room k callerA)
    (F : ∀ (w : World) (mg : Str → Option Value) (fa : Addr) (h : Heap), YP w h → h.Ns mainGlobals mg → mg d.name = some (.ref fa) → ∃ K : PySem.W.Frag, K.In h ∧ LawG l w K k n x mg fa h) : PySem.W.WalkO q loose XP YP l.row.toRowW d [] (fun f vs => PySem.call f vs) := by
  refine Att.attach_callB most plain fun w s0 s mg mb fa o pm cd doc a vs ns G Y _ _ _ named script nums short _ none_ => ?_
  obtain ⟨K, kin, fd, cs, sp, empty, out, head, bound, asks, does⟩ := F w mg fa _ Y G.T.g named
  have B : Begun K mg cs a vs ns s := ⟨kin, G.T.g, ⟨mb, G.T.b, G.T.builtins⟩, G.T.nolimit, none_, empty, out, head, G.T.bmain, script, nums, Nat.le_trans short few⟩
  exact B.runs room (does _ B.kinB (B.nsB B.glob) fun p hp => B.tabB hp) (bound _ _) (asks _ a ns short (fun p hp => scripted_tab (List.mem_map.mpr ⟨p, hp, rfl⟩)) B.seq)
end V3
set_option maxHeartbeats 8100000
/-! any(x[0] for x in t). -/
namespace V3
open PySem.Spec PySem L2 PyProof.Rows GxR
theorem any_range (zs : List Int) : ((List.range zs.length).any fun i => (zs[i]?.getD 0) != 0) = zs.any fun z => z != 0 := by
  (rw [Bool.eq_iff_iff, List.any_eq_true, List.any_eq_true])
  constructor
  · rintro ⟨i, hi, h⟩
    have l := List.mem_range.mp hi
    rw [List.getElem?_eq_getElem l] at h
    exact ⟨zs[i], List.getElem_mem l, h⟩
  · rintro ⟨z, hz, h⟩
    obtain ⟨i, hi⟩ := List.getElem?_of_mem hz
    refine ⟨i, List.mem_range.mpr (List.getElem?_eq_some_iff.mp hi).1, ?_⟩
    rw [hi]
    exact h
section
variable {w : World} {prog : Program} {A : Around}
/-- any(..) over such a walk of whole numbers -/
theorem any_loopI {I : Addr} {wr fs : List Addr} {n : Nat} {P : Nat → Value → Prop} {St : Nat → Shared → Prop} {R : Result → Shared → Prop} (Wk : WalksV prog w A.in1 I wr fs n P St) (tr : Nat → Bool) (isI : ∀ i v, P i v → ∃ z tz, v = .int z tz ∧ (z != 0) = tr i) :
    ∀ (k i : Nat) (t : Shared), n - i = k → i ≤ n → St i t → (∀ t', MovedV wr fs t t' → R (.ok (.ret (.bool (((List.range n).drop i).any tr)))) t') → codeAny (model prog w) A (.builtin "any.loop" ⟨[.ref I], []⟩) R t := by
  intro k
  induction k with
  | zero =>
    intro i t ek il st want
    obtain rfl : i = n := by omega
    (refine codeAny_builtin F.entry_any_loop ?_)
    (rw [Around.under_plainId F.plain_any_loop _])
    show wpAny _ A.in1 (pyNext (.ref I) >>= _) _ _ t
    refine wpAny_bind (Wk.done t _ _ st fun t' mv => wpAny_bind (wpAny_rule (wpAny_pure ?_)))
    have z := want t' mv
    rw [List.drop_of_length_le (Nat.le_of_eq List.length_range)] at z
    exact z
  | succ k again =>
    intro i t ek il st want
    have lt : i < n := by omega
    have cut : (List.range n).drop i = i :: (List.range n).drop (i + 1) := range_drop lt
    (refine codeAny_builtin F.entry_any_loop ?_)
    (rw [Around.under_plainId F.plain_any_loop _])
    show wpAny _ A.in1 (pyNext (.ref I) >>= _) _ _ t
    refine wpAny_bind (Wk.item i t _ _ lt st fun v t' pv st' mv => ?_)
    obtain ⟨z0, tz, rfl, ez⟩ := isI i v pv
    (refine wpAny_bind (wpAny_holding (truthy_int ?_)))
    rw [ez]
    (refine wpAny_bind (wpAny_letGo ?_))
    rw [cut] at want
    cases eb : tr i with
    | false =>
      simp only [Bool.false_eq_true, if_false, ite_false]
      refine wpAny_pure ⟨plainId_quiet F.plain_any_loop _, again (i + 1) _ (by omega) lt st' fun t2 mv2 => ?_⟩
      have z := want t2 (mv.trans mv2)
      rw [List.any_cons, eb, Bool.false_or] at z
      exact z
    | true =>
      simp only [if_true]
      (refine wpAny_bind (wpAny_rule (wpAny_pure ?_)))
      have z := want t' mv
      rw [List.any_cons, eb, Bool.true_or] at z
      exact z
theorem call_anyI {E : Value → Shared → Prop} {s : Shared} {x : Value} {Q : Value → Shared → Prop}
    (h : wpAny (model prog w) A.in1 (pyIter x) (fun it t => ∃ I wr fs n P St tr, it = .ref I ∧ WalksV prog w A.in1 I wr fs n P St ∧ St 0 t ∧ (∀ i v, P i v → ∃ z tz, v = .int z tz ∧ (z != 0) = tr i) ∧ ∀ t', MovedV wr fs t t' → Q (.bool ((List.range n).any tr)) t') E s) :
    (wpAny (model prog w) A (call (.builtin "any") [x]) Q E s) := by
  (refine call_function_tree F.kind_any F.plain_any F.entry_any (F.args_any1 _) ?_)
  unfold Builtin.«any»
  (refine wpAny_bind (m := oneArg "any" _) (wpAny_pure ?_))
  refine wpAny_bind (wpAny_mono h (fun it t ht => ?_) fun _ _ z => z)
  obtain ⟨I, wr, fs, n, P, St, tr, rfl, Wk, st, isI, want⟩ := ht
  exact wpAny_pure ⟨plainId_quiet F.plain_any_loop _, any_loopI Wk tr isI n 0 t rfl (Nat.zero_le _) st fun t' mv => by simpa using want t' mv⟩
end
section
variable {X : Cx}
/-- x[0] -/
abbrev firstX (x : Str) (p0 p1 p2 : Pos) (jc : Nat) : Expr := .Subscript (.Name x p0) (.Constant (.int 0) jc p1) p2
/-- a tuple of tuples whose first items are these whole numbers -/
def Firsts (K : PySem.W.Frag) (H : Hp) (xs : List V) (zs : List Int) : Prop := xs.length = zs.length ∧ ∀ (i : Nat) (x : V) (z : Int), xs[i]? = some x → zs[i]? = some z → ∃ (b : Addr) (ys : List V), x = .ref b ∧ SqT K H b ys ∧ ys[0]? = some (.int z)
def tAnyF (X : Cx) (P : Addr) (te : TE) : TE := fun σ H Q => te σ H fun v H1 => ∃ (a : Addr) (xs : List V) (zs : List Int), v = .ref a ∧ SqT X.K H1 a xs ∧ TabG H1 P ∧ Firsts X.K H1 xs zs ∧ ∀ H2, Tabbed P H1 H2 → Q (.bl (zs.any fun z => z != 0)) H2
theorem pe_anyF {c P : Addr} {iter : Expr} {x : Str} {px p p0 p1 p2 gpos pos : Pos} {jc : Nat} {scope : Scope} {te : TE} {k : Nat}
    (hr : Room (k + 1) X.A) (hg : Gl X "any") (hma : X.mg "any" = none) (TB : TabB X.base X.mg c P) (hcode : X.env.code = .ref c) (S : GenS X.env scope x) (hi : PE X iter te)
    (dx : (x == ("__debug__" : Str)) = false) (nofold : ∀ v, genFold iter X.env v = pure v)
    (he : starEach [.GeneratorExp (firstX x p0 p1 p2 jc) [⟨.Name x px, iter, [], 0⟩] scope gpos] X.env = (false, eval (.GeneratorExp (firstX x p0 p1 p2 jc) [⟨.Name x px, iter, [], 0⟩] scope gpos) X.env) :: starEach [] X.env := by rfl) :
    PE X (.Call (.Name "any" p) [.GeneratorExp (firstX x p0 p1 p2 jc) [⟨.Name x px, iter, [], 0⟩] scope gpos] [] pos) (tAnyF X P te) := by
  (refine ⟨fun pins s σ H Q I h => ?_⟩)
  refine wpAny_Call_Name_kw (ld_blt (u := .builtin "any") I hg hma (by decide +kernel) ?_)
  refine PyProof.Rows.callWith_builtin1 (id := "any") ?_ he (by rfl)
  rw [he]
  show wpAny _ _ (spliced ((false, eval (.GeneratorExp (firstX x p0 p1 p2 jc) [⟨.Name x px, iter, [], 0⟩] scope gpos) X.env) :: backTo pos (starEach [] X.env))) _ _ s
  refine Calls.spliced_cons (genexpF hr.hd S.co (closure_ok S.free) S.cell S.dot S.loc S.kind (by have := hr.dp; omega) ?_ nofold)
  refine thn (hi.run pins s σ H _ I h) fun xv s1 ⟨v, H1, I1, rv, a, xs, zs, ev, hsq, tab, firsts, want⟩ => ?_
  subst ev
  cases rv
  obtain ⟨ptab, hP, htr⟩ := tab
  obtain ⟨its, rvs, pl, zl⟩ := I1.tuple hsq
  have lenI := rvs.length
  have tupA : s1.heap.IsTuple a its.toArray := by
    obtain ⟨ob, q1, q2, q3, q4⟩ := pl
    exact ⟨ob, q1, q2, q3, q4⟩
  refine wpAny_pyIter_tuple tupA ?_
  obtain ⟨oI, hoI⟩ : ∃ oI : Obj, oI = { cls := .type "tuple_iterator", data := .fields #[.ref a, .int 0 0] } := ⟨_, rfl⟩
  rw [← hoI]
  have freshO : oI.isFreed = false := by rw [hoI]; rfl
  have atP : s1.heap.get? P = some { cls := .none, data := .fields ptab } := I1.hok P _ hP
  have ltP : P < s1.heap.objs.size := Heap.lt_size atP
  have atP2 : (s1.heap.push oI).get? P = some { cls := .none, data := .fields ptab } := Heap.get?_push_of_some _ atP
  have hdC : PySem.W.CodeHd (s1.heap.push oI) c P := TB.code.keeps fun b u e => Heap.get?_push_of_some _ (I1.bk b u e)
  have nol : (s1.heap.push oI).NoLimit := I1.nolimit.push oI
  have szO : (s1.heap.push oI).objs.size = s1.heap.objs.size + 1 := Heap.size_push ..
  have csB : ∃ o, X.base.get? cStatics = some o := by
    obtain ⟨_, q, _⟩ := I1.ok.mod.nolimit
    obtain ⟨o, es, ep, ho, _⟩ := q
    exact ⟨o, ho⟩
  have notFr : ∀ b o, X.base.get? b = some o → b ∉ frs X.stack := fun b o it z => by
    have := (frs_apart I1.stack z).1
    rw [it] at this
    cases this
  have frLow : ∀ b ∈ frs X.stack, b < s1.heap.objs.size := fun b z => by
    obtain ⟨_, o, ho, _⟩ := frs_apart I1.stack z
    exact Heap.lt_size ho
  have frNotP : P ∉ frs X.stack := fun z => by
    have := I1.stkFree P z
    rw [hP] at this
    cases this
  have aFr : a ∉ frs X.stack := fun z => by
    rcases hsq with ((e | ⟨o, e⟩) | ⟨o, it2, n2, e, _⟩)
    · have := I1.stkFree a z
      rw [e] at this
      cases this
    · have := I1.stkFree a z
      rw [e] at this
      cases this
    · exact notFr a o (I1.ok.mod.kin a o e) z
  have aLow : a < s1.heap.objs.size := by
    obtain ⟨ob, q1, _⟩ := tupA
    exact Heap.lt_size q1
  -- behind the code object
  have cont : ∀ (code : Value) (hp3 : Heap) (tk : Nat) (ptab3 : Array Value), Heap.ExtBut P (s1.heap.push oI) hp3 → (s1.heap.push oI).objs.size ≤ hp3.objs.size → hp3.get? P = some { cls := .none, data := .fields ptab3 } → (∃ more, ptab3 = ptab ++ more) → TriplesOk ptab3.toList →
      wpAny (model X.prog X.w) X.A (builtinsFor X.env.globals X.env.builtins) (fun bi t4 => MadeF X.prog X.w X.A X.env (firstX x p0 p1 p2 jc) iter x px [] scope (cloFrom X.env.cells scope.names []) gpos
        (fun g t5 => wpAny (model X.prog X.w) X.A (spliced (backTo pos (starEach [] X.env))) (fun vs t6 => wpAny (model X.prog X.w) X.A (call (.builtin "any") (g :: vs)) (EP X pins σ Q) X.xe t6) X.xe t5) (.ref s1.heap.objs.size) code bi t4) X.xe { s1 with heap := hp3, toks := tk } := by
    intro code hp3 tk ptab3 hx3 sz3 atP3 grown ok3
    (obtain ⟨bm, ob, e1, e2, e3, e4, e5, e6, e7, e8⟩ := TB.bm)
    have keep3 : ∀ b u, b ≠ P → s1.heap.get? b = some u → hp3.get? b = some u := fun b u nb it => hx3 b u nb (Heap.get?_push_of_some _ it)
    have big3 : s1.heap.objs.size + 1 ≤ hp3.objs.size := by
      rw [← szO]
      exact sz3
    have baseNP : ∀ b o, X.base.get? b = some o → b ≠ P := fun b o it z => by
      have := (I1.bs b o it).2
      rw [z, hP] at this
      cases this
    obtain ⟨oCs, csAt⟩ := csB
    have csLow : cStatics < s1.heap.objs.size := Heap.lt_size (I1.bk _ _ csAt)
    have aNP : a ≠ P := fun z => by
      obtain ⟨ob2, q1, _, _, q4⟩ := tupA
      rw [z, atP] at q1
      cases q1
      cases q4
    refine wpAny_builtinsFor (m := X.mg) (by rw [I1.ok.glob]; exact ((I1.mod.glob.keeps I1.bk).push oI).extBut hx3 TB.gP) e1 e2 (keep3 _ _ e4 (I1.bk _ _ e5)) e6 e7 e8 ?_
    refine ⟨I1.bare, s1.heap.objs.size, [s1.heap.objs.size, a], [s1.heap.objs.size], hp3.objs.size :: frs X.stack, its.toArray.size, (fun i v => its.toArray[i]? = some v), (fun i h => h.IsTupleIter s1.heap.objs.size a i ∧ h.IsTuple a its.toArray), (fun _ => true), (fun i y => ∃ z tz, zs[i]? = some z ∧ y = .int z tz), rfl,
      fun B hB => Walks.tuple hB _ a (Nat.ne_of_lt aLow) _, ⟨⟨oI, hx3 _ _ (Nat.ne_of_gt ltP) (Heap.get?_push_size _ freshO), by rw [hoI], by rw [hoI]; rfl⟩, ?_⟩, ?_, nol.extBut hx3 (baseNP _ _ csAt), ?_, ?_, ?_, ?_, ?_, ?_⟩
    · obtain ⟨ob2, q1, q2⟩ := tupA
      exact ⟨ob2, keep3 _ _ aNP q1, q2⟩
    · intro b hb
      show b < hp3.objs.size
      rcases List.mem_cons.mp hb with (z | z)
      · rw [z]
        exact big3
      · (rw [List.mem_singleton.mp z])
        exact Nat.lt_of_lt_of_le aLow (Nat.le_trans (Nat.le_succ _) big3)
    · intro z
      have := List.mem_singleton.mp z
      rw [this] at csLow
      exact Nat.lt_irrefl _ csLow
    · intro b hb
      show b ≤ hp3.objs.size
      rcases List.mem_cons.mp hb with (z | z)
      · rw [z]
        exact Nat.le_refl _
      · exact Nat.le_of_lt (Nat.lt_of_lt_of_le (frLow b z) (Nat.le_trans (Nat.le_succ _) big3))
    · intro b hb hf
      rcases List.mem_cons.mp hb with (z | z)
      · subst z
        rcases List.mem_cons.mp hf with (y | y)
        · exact Nat.ne_of_lt big3 y
        · exact Nat.lt_irrefl _ (frLow _ y)
      · have z2 := List.mem_singleton.mp z
        subst z2
        rcases List.mem_cons.mp hf with (y | y)
        · exact Nat.ne_of_lt (Nat.lt_of_lt_of_le aLow (Nat.le_trans (Nat.le_succ _) big3)) y
        · exact aFr y
    · intro z
      rcases List.mem_cons.mp z with (y | y)
      · exact Nat.ne_of_lt (Nat.lt_of_lt_of_le csLow (Nat.le_trans (Nat.le_succ _) big3)) y
      · exact notFr _ _ csAt y
    · intro ref href
      refine ⟨fun B Ex i v t mp hB fB dB uB bT dv ns hv kept => tests_none ⟨rfl, ⟨rfl, bT, KM.exact (fun _ _ it => it)⟩⟩, fun B Ex i v t mp hB fB dB uB bT dv _ ns hv kept => ?_⟩
      rw [over_frames I1.ok.frames] at fB
      have both : ∀ b o, b ≠ P → s1.heap.get? b = some o → (b ∉ frs X.stack → t.heap.get? b = some o) ∧ ∃ sl, t.heap.get? b = some { o with slots := sl } := fun b o nb it => by
        have lt := Heap.lt_size it
        have ltc : b < hp3.objs.size := Nat.lt_of_lt_of_le lt (Nat.le_trans (Nat.le_succ _) big3)
        obtain ⟨p1, p2⟩ := kept b (List.mem_range.mpr ltc) (fun z => by rw [List.mem_singleton.mp z] at lt; exact Nat.lt_irrefl _ lt) o (href _ _ (keep3 b o nb it))
        exact ⟨fun nf => p1 fun z => (List.mem_cons.mp z).elim (fun y => Nat.ne_of_lt ltc y) nf, p2⟩
      have baseT : ∀ b o, X.base.get? b = some o → t.heap.get? b = some o := fun b o it => (both b o (baseNP b o it) (I1.bk b o it)).1 (notFr b o it)
      obtain ⟨oC, esC, epC, atC, datC, moreC⟩ := id ns
      have ltC : hp3.objs.size < t.heap.objs.size := Heap.lt_size atC
      have bszS : X.base.objs.size ≤ s1.heap.objs.size := Nat.le_trans I1.ok.bsz I1.sz
      have li : i < its.length := by
        have := (Array.getElem?_eq_some_iff.mp dv).1
        simpa using this
      have hxi : xs[i]? = some xs[i] := List.getElem?_eq_getElem (by omega)
      obtain ⟨u, hu, ru⟩ := rvs.get hxi
      have ev : u = v := by
        have q : its.toArray[i]? = some u := by simpa using hu
        rw [q] at dv
        exact Option.some.inj dv
      subst ev
      have lz : i < zs.length := by
        rw [← firsts.1]
        omega
      have hzi : zs[i]? = some zs[i] := List.getElem?_eq_getElem lz
      obtain ⟨bb, ys, exi, sqb, hy0⟩ := firsts.2 i _ _ hxi hzi
      rw [exi] at ru
      cases (show u = Value.ref bb from ru)
      obtain ⟨its2, rv2, pl2, zl2⟩ := I1.tuple sqb
      obtain ⟨u0, hu0, ru0⟩ := rv2.get hy0
      obtain ⟨tz, rfl⟩ : ∃ tz, u0 = .int zs[i] tz := ru0
      have tupB : t.heap.IsTuple bb its2.toArray := by
        obtain ⟨ob2, q1, q2, q3, q4⟩ := pl2
        have nb : bb ≠ P := fun z => by
          rw [z, atP] at q1
          cases q1
          cases q4
        have nf : bb ∉ frs X.stack := fun z => by
          obtain ⟨_, o3, ho3, n3⟩ := frs_apart I1.stack z
          rcases sqb with ((e | ⟨o, e⟩) | ⟨o, it2, n2, e, _⟩)
          · have := I1.stkFree bb z
            rw [e] at this
            cases this
          · have := I1.stkFree bb z
            rw [e] at this
            cases this
          · exact notFr bb o (I1.ok.mod.kin bb o e) z
        exact ⟨ob2, (both bb ob2 nb q1).1 nf, q2, q3, q4⟩
      have small : its2.toArray.size < 2 ^ 63 := by
        rw [List.size_toArray, ← rv2.length]
        exact Nat.lt_of_le_of_lt zl2 (by decide)
      refine Subscript_ (wpAny_Name (wpAny_loadName_local (by exact S.kind) (by exact S.loc) ns hv ?_) dx)
      refine wpAny_Constant_int (subscriptTail_builtinR (x := .int zs[i] tz) tupB.typeIs slot_tuple_getitem.lookup (getItem_tuple (j := 0) tupB (by omega) (by omega) ?_ (by simpa using hu0) ⟨rfl, ⟨⟨_, _, hzi, rfl⟩, rfl, bT, KM.exact fun _ _ it => it⟩⟩) rfl)
      exact PySem.StrLaws.seqIndex_nonneg (by decide) (by rw [List.size_toArray]; have := (List.getElem?_eq_some_iff.mp hu0).1; omega)
    · intro g hp5 tk5 gs gsb ltg szg k5 Wk at5
      refine Calls.spliced_nil (call_anyI ?_)
      have pall : passing (fun _ => true) its.toArray.size 0 = List.range its.toArray.size := GxR.passing_true _
      refine Wk.in4.self _ _ _ at5 ⟨g, _, _, _, _, _, (fun i => (zs[i]?.getD 0) != 0), rfl, Wk.in4, at5, fun j y hy => ?_, fun t' mv => ?_⟩
      · obtain ⟨i, hi2, hf⟩ := hy
        rw [pall, List.getElem?_range (by
          have := (List.getElem?_eq_some_iff.mp hi2).1
          rw [List.length_range] at this
          exact this)] at hi2
        obtain ⟨z0, tz, h1, h2⟩ := hf
        rw [← Option.some.inj hi2] at h1
        refine ⟨z0, tz, h2, ?_⟩
        show (z0 != 0) = ((zs[j]?.getD 0) != 0)
        rw [h1]
        rfl
      · obtain ⟨more, rfl⟩ := grown
        have offW : ∀ b, b < s1.heap.objs.size → b ∉ hp3.objs.size :: [s1.heap.objs.size] := fun b lt z => by
          rcases List.mem_cons.mp z with (y | y)
          · exact Nat.ne_of_lt (Nat.lt_of_lt_of_le lt (Nat.le_trans (Nat.le_succ _) big3)) y
          · exact Nat.ne_of_lt lt (List.mem_singleton.mp y)
        have kB : ∀ b o, b < s1.heap.objs.size → hp3.get? b = some o → (b ∉ frs X.stack → t'.heap.get? b = some o) ∧ ∃ sl, t'.heap.get? b = some { o with slots := sl } := fun b o lt it => by
          obtain ⟨p1, p2⟩ := mv.heap b o (offW b lt) (k5 b o it)
          exact ⟨fun nf => p1 fun z => (List.mem_cons.mp z).elim (fun y => Nat.ne_of_lt (Nat.lt_of_lt_of_le lt (Nat.le_trans (Nat.le_succ _) big3)) y) nf, p2⟩
        have J := inv_gen (t' := t') (more := more) I1 hP mv.os mv.bare (fun b o nb it => kB b o (Heap.lt_size it) (keep3 b o nb it)) ((kB P _ ltP atP3).1 frNotP)
        have len : (passing (fun _ => true) its.toArray.size 0).length = xs.length := by
          rw [pall, List.length_range, List.size_toArray]
          omega
        rw [len]
        have ev : ((List.range xs.length).any fun i => (zs[i]?.getD 0) != 0) = zs.any fun z => z != 0 := by
          rw [firsts.1]
          exact any_range zs
        rw [ev]
        exact ⟨.bl _, _, J, rfl, want _ ⟨⟨ptab ++ more, upd_same, ok3⟩, fun b nb => upd_ne nb⟩⟩
  refine ⟨nol, ?_⟩
  cases among : codeAmong gpos ptab.toList with
  | none =>
    refine wpAny_genexprCodeX hcode (hdC.code atP2 htr) (hdC.tab atP2) among fun c2 hp2 tk hx2 ge2 lt2 isC _ tabA _ => ?_
    obtain ⟨o1, vs, f1, tf, fl, tg, inF, tx, tt, op, _, _, _, _, _, _, _, _, _, trs, _⟩ := isC
    exact cont _ hp2 tk _ hx2 (Nat.le_trans ge2 (Nat.le_of_lt lt2)) tabA.2 ⟨_, rfl⟩ trs
  | some cv =>
    refine wpAny_genexprCode_hit hcode (hdC.code atP2 htr) among ?_
    exact cont cv (s1.heap.push oI) s1.toks ptab (Heap.ExtBut.refl _ _) (Nat.le_refl _) atP2 ⟨#[], by simp⟩ htr
end
end V3
set_option maxHeartbeats 4100000
/-! A generator expression with any target, told by what each turn binds. -/
namespace V3
open PySem.Spec PySem L2 PyProof.Rows GxR
/-- each turn: what is next, the owned tuple let go, the target bound -/
structure Draws2 (prog : Program) (w : World) (tgt : Expr) (ce : Env) (I : Addr) (fp wr : List Addr) (n : Nat) (Bd : Nat → (Str → Option Value) → Prop) (St : Nat → Heap → Prop) : Prop where
  sub : ∀ b ∈ wr, b ∈ fp
  (frame : ∀ i h h', St i h → (∀ b ∈ fp, ∀ o, h.get? b = some o → h'.get? b = some o) → St i h')
  one : ∀ (B : Around), B.handled = none → ∀ i (t : Shared) mp (K : Option Value → Shared → Prop) (E : Value → Shared → Prop), i < n → St i t.heap → t.heap.Ns ce.locals mp →
    (∀ v t1, wpAny (model prog w) B (letOwnedTupleGo tgt (.ref I) v) (fun _ t2 => wpAny (model prog w) B (assign tgt ce v) (fun _ t3 => ∃ h' tk mp', t3 = { t with heap := h', toks := tk } ∧ Bd i mp' ∧ St (i + 1) h' ∧ h'.Ns ce.locals mp' ∧
      ∀ b o, b ≠ ce.locals → b ∉ wr → t.heap.get? b = some o → h'.get? b = some o) (fun _ _ => False) t2) (fun _ _ => False) t1 → K (some v) t1) → wpAny (model prog w) B (pyNext (.ref I)) K E t
  done : ∀ (B : Around), B.handled = none → ∀ (t : Shared) (K : Option Value → Shared → Prop) (E : Value → Shared → Prop), St n t.heap →
    (∀ h' tk, (∀ b o, b ∉ wr → t.heap.get? b = some o → h'.get? b = some o) → K none { t with heap := h', toks := tk }) → wpAny (model prog w) B (pyNext (.ref I)) K E t
  self : ∀ (B : Around), B.handled = none → ∀ (t : Shared) (K : Value → Shared → Prop) (E : Value → Shared → Prop), St 0 t.heap → K (.ref I) t → wpAny (model prog w) B (pyIter (.ref I)) K E t
structure QuietD (prog : Program) (w : World) (ce : Env) (ifs : List Expr) (elt : Expr) (old wr fs : List Addr) (Bd : Nat → (Str → Option Value) → Prop) (pz : Nat → Bool) (F : Nat → Value → Prop) (ref : Heap) (fr : Option (List Env)) (D U : Nat) : Prop where
  tests : ∀ (B : Around) Ex i (t : Shared) mp, B.handled = none → B.frames = fr → B.depth ≤ D → B.units ≤ U → AllBare t.gens → Bd i mp → t.heap.Ns ce.locals mp → KeptO old wr fs ref t.heap →
    wpAny (model prog w) B (testsOf ifs ce) (fun ok t' => ok = pz i ∧ KeptG fs t t') Ex t
  elt : ∀ (B : Around) Ex i (t : Shared) mp, B.handled = none → B.frames = fr → B.depth ≤ D → B.units ≤ U → AllBare t.gens → Bd i mp → pz i = true → t.heap.Ns ce.locals mp → KeptO old wr fs ref t.heap →
    wpAny (model prog w) B (eval elt ce) (fun y t' => F i y ∧ KeptG fs t t') Ex t
section
variable {w : World} {prog : Program} {A : Around}
abbrev loopD (elt : Expr) (tgt : Expr) (iter : Expr) (ifs : List Expr) (scope : Scope) (pos : Pos) (I : Addr) (ce : Env) : Code := .compLoop (.GeneratorExp elt [⟨tgt, iter, ifs, 0⟩] scope pos) 0 (.ref I) .none ce
abbrev startD (elt : Expr) (tgt : Expr) (iter : Expr) (ifs : List Expr) (scope : Scope) (pos : Pos) (I : Addr) (ce : Env) : Code := .compStart (.GeneratorExp elt [⟨tgt, iter, ifs, 0⟩] scope pos) 0 (.ref I) .none ce
theorem seg_loopD {elt iter : Expr} {tgt : Expr} {ifs : List Expr} {scope : Scope} {pos : Pos} {I : Addr} {fp old wr fs : List Addr} {n : Nat} {Bd : Nat → (Str → Option Value) → Prop} {St : Nat → Heap → Prop} {ce : Env} {fr : Option (List Env)}
    (quiet0 : A.handled = none) (frA : (A.over (loopD elt tgt iter ifs scope pos I ce) []).frames = fr) (Wk : Draws2 prog w tgt ce I fp wr n Bd St) (pz : Nat → Bool) (F : Nat → Value → Prop) (ref : Heap)
    (noco : ce.scope.isCoroutine = false) (apart : ce.locals ∉ fp) (apartO : ce.locals ∉ old) (sepF : ∀ b ∈ fp, b ∉ fs) (hQ : QuietD prog w ce ifs elt old wr fs Bd pz F ref fr (A.depth + 1) (A.units + 3)) :
    ∀ (k i : Nat) (t0 t : Shared) (mp : Str → Option Value), n - i = k → i ≤ n → St i t.heap → t.heap.Ns ce.locals mp → SinceG ce.locals wr fs t0 t →
      KeptO old wr fs ref t.heap →
      Seg (model prog w) A (endB ce.locals wr fs) (protoB ce.locals fp old wr fs pz n F) (passing pz n i).length t0 (loopD elt tgt iter ifs scope pos I ce) ((model prog w).den (loopD elt tgt iter ifs scope pos I ce)) [] t := by
  have q0 : (A.over (loopD elt tgt iter ifs scope pos I ce) []).handled = none := quiet0
  have qd : (A.over (loopD elt tgt iter ifs scope pos I ce) []).depth ≤ A.depth + 1 := Nat.le_of_eq rfl
  have qu : (A.over (loopD elt tgt iter ifs scope pos I ce) []).units ≤ A.units + 3 := Nat.le_of_eq rfl
  have offW : ce.locals ∉ wr := fun z => apart (Wk.sub _ z)
  intro k
  induction k with
  | zero =>
    intro i t0 t mp ek il st ns since kept
    obtain rfl : i = n := by omega
    show Seg _ A _ _ _ t0 _ ((compTurn (.GeneratorExp elt [⟨tgt, iter, ifs, 0⟩] scope pos) 0 (.ref I) .none ce).onRaise (leaving ce)) [] t
    (rw [compTurn_gen, Sem.onRaise_eq_wrap])
    (refine seg_bind_wrap (wpAny_standAt ?_))
    refine seg_bind_wrap (Wk.done _ q0 t _ _ st fun hp tk stay => ?_)
    exact seg_end (.ok .next) ⟨rfl, by rw [passing_end]; rfl, since.step fun b o _ nw it => stay b o nw it⟩
  | succ k again =>
    intro i t0 t mp ek il st ns since kept
    have more : i < n := by omega
    show Seg _ A _ _ _ t0 _ ((compTurn (.GeneratorExp elt [⟨tgt, iter, ifs, 0⟩] scope pos) 0 (.ref I) .none ce).onRaise (leaving ce)) [] t
    (rw [compTurn_gen, Sem.onRaise_eq_wrap])
    (refine seg_bind_wrap (wpAny_standAt ?_))
    refine seg_bind_wrap (Wk.one _ q0 i t mp _ _ more st ns fun v t1 h1 => ?_)
    refine seg_bind_wrap (wpAny_mono h1 (fun _ t2 h2 => ?_) fun _ _ z => z.elim)
    refine seg_bind_wrap (wpAny_mono h2 (fun _ t3 h3 => ?_) fun _ _ z => z.elim)
    obtain ⟨hb, tk, mp', rfl, bound, stb, nsb, stayB⟩ := h3
    have keptB : KeptO old wr fs ref hb := kept.exact fun b hm nw o it => stayB b o (fun z => apartO (z ▸ hm)) nw it
    have bareT : AllBare t.gens := since.bare
    refine seg_bind_wrap (GenW.wpAny_gsz (n := t.gens.size) (Nat.le_refl _) (wpAny_mono (hQ.tests _ _ i _ _ q0 frA qd qu bareT bound nsb keptB) (fun ok tc kc szc => ?_) fun _ _ z => z))
    obtain ⟨rfl, kc⟩ := kc
    have stc : St (i + 1) tc.heap := Wk.frame _ _ _ stb fun b hm o it => (kc.heap b o it).1 (sepF b hm)
    have nsc := kc.heap.ns nsb
    have sinceC : SinceG ce.locals wr fs t0 tc := (since.step stayB).more szc kc
    cases ep : pz i with
    | false =>
      rw [passing_false more ep]
      (simp only [Bool.false_eq_true, if_false])
      exact seg_again rfl (again (i + 1) t0 _ _ (by omega) more stc nsc sinceC (keptB.km kc.heap))
    | true =>
      rw [passing_true more ep, List.length_cons]
      simp only [if_true]
      have out : ∀ v, yieldOut ce v = yieldValue v := fun v => by simp only [yieldOut, noco, Bool.false_eq_true, if_false]
      simp only [out]
      (rw [Sem.bind_eq_wrap', Sem.bind_eq_wrap', Sem.wrap_wrap, Sem.wrap_wrap])
      refine seg_wrap (GenW.wpAny_gsz (n := tc.gens.size) (Nat.le_refl _) (wpAny_mono (hQ.elt _ _ i _ _ q0 frA qd qu sinceC.bare bound ep nsc (keptB.km kc.heap)) (fun y td hd szd => ?_) fun _ _ z => z))
      obtain ⟨fy, kd⟩ := hd
      refine seg_at (seg_yield rfl rfl rfl ⟨⟨i, passing_here more ep, fy⟩, sinceC.more szd kd, fun u hal bu => ?_⟩)
      refine seg_again rfl (again (i + 1) u u _ (by omega) more (Wk.frame _ _ _ stc fun b hm o it => hal b (List.mem_cons_of_mem _ (List.mem_append_left _ hm)) o ((kd.heap b o it).1 (sepF b hm)))
        ((kd.heap.ns nsc).at' fun o it => hal _ (List.mem_cons_self ..) o it) (SinceG.refl bu) (((keptB.km kc.heap).km kd.heap).exact fun b hm _ o it => hal b (List.mem_cons_of_mem _ (List.mem_append_right _ hm)) o it))
theorem seg_startD {elt iter : Expr} {tgt : Expr} {ifs : List Expr} {scope : Scope} {pos : Pos} {I : Addr} {fp old wr fs : List Addr} {n : Nat} {Bd : Nat → (Str → Option Value) → Prop} {St : Nat → Heap → Prop} {ce : Env} {fr : Option (List Env)}
    (quiet0 : A.handled = none) (frA : (A.over (loopD elt tgt iter ifs scope pos I ce) []).frames = fr) (Wk : Draws2 prog w tgt ce I fp wr n Bd St) (pz : Nat → Bool) (F : Nat → Value → Prop) (ref : Heap)
    (noco : ce.scope.isCoroutine = false) (apart : ce.locals ∉ fp) (apartO : ce.locals ∉ old) (sepF : ∀ b ∈ fp, b ∉ fs) (hQ : QuietD prog w ce ifs elt old wr fs Bd pz F ref fr (A.depth + 1) (A.units + 3))
    (t0 t : Shared) (mp : Str → Option Value) (st : St 0 t.heap) (ns : t.heap.Ns ce.locals mp) (since : SinceG ce.locals wr fs t0 t) (kept : KeptO old wr fs ref t.heap) :
    Seg (model prog w) A (endB ce.locals wr fs) (protoB ce.locals fp old wr fs pz n F) (passing pz n 0).length t0 (startD elt tgt iter ifs scope pos I ce) ((model prog w).den (startD elt tgt iter ifs scope pos I ce)) [] t := by
  have q0 : (A.over (startD elt tgt iter ifs scope pos I ce) []).handled = none := quiet0
  have lp := seg_loopD (iter := iter) (scope := scope) (pos := pos) quiet0 frA Wk pz F ref noco apart apartO sepF hQ n 0 t0 t mp (Nat.sub_zero _) (Nat.zero_le _) st ns since kept
  show Seg _ A _ _ _ t0 _ ((compStart (.GeneratorExp elt [⟨tgt, iter, ifs, 0⟩] scope pos) 0 (.ref I) .none ce).onRaise (leaving ce)) [] t
  unfold compStart
  rw [Sem.onRaise_eq_wrap]
  show Seg _ A _ _ _ t0 _ ((ask >>= _).wrap _ _ _ _) [] t
  (refine seg_bind_wrap (wpAny_askSetting ?_))
  split
  · exact seg_again rfl lp
  · first
      | exact seg_bind_wrap (wpAny_rule (seg_bind_wrap (wpAny_standAt (seg_bind_wrap (Wk.self _ q0 t _ _ st (seg_again rfl lp))))))
      | (refine seg_bind_wrap (wpAny_rule ?_)
         show Seg _ A _ _ _ t0 _ ((standAt iter.pos >>= _).wrap _ _ _ _) [] t
         exact seg_bind_wrap (wpAny_standAt (seg_bind_wrap (Wk.self _ q0 t _ _ st (seg_again rfl lp)))))
theorem AtB.freshD {elt iter : Expr} {tgt : Expr} {ifs : List Expr} {scope : Scope} {pos : Pos} {I a : Addr} {g : Nat} {fp old wr fs : List Addr} {n : Nat} {Bd : Nat → (Str → Option Value) → Prop} {St : Nat → Heap → Prop} {ce : Env} {fr : Option (List Env)}
    (quiet0 : A.handled = none) (frA : (A.in1.over (loopD elt tgt iter ifs scope pos I ce) []).frames = fr) (Wk : Draws2 prog w tgt ce I fp wr n Bd St) (pz : Nat → Bool) (F : Nat → Value → Prop)
    (noco : ce.scope.isCoroutine = false) (apart : ce.locals ∉ fp) (apartO : ce.locals ∉ old) (sepF : ∀ b ∈ fp, b ∉ fs) {t : Shared} {mp : Str → Option Value} (hQ : QuietD prog w ce ifs elt old wr fs Bd pz F t.heap fr (A.depth + 1) (A.units + 4))
    (gen : t.heap.IsGen a g) (new : t.gens[g]? = some (.fresh (startD elt tgt iter ifs scope pos I ce))) (st : St 0 t.heap) (ns : t.heap.Ns ce.locals mp) (lim : t.heap.NoLimit) (bare : AllBare t.gens) : AtB prog w A a g ce.locals fp old wr fs pz n F 0 t :=
  ⟨gen, lim, bare, _, new, fun u hal bu => ⟨rfl, seg_startD (A := A.in1) quiet0 frA Wk pz F t.heap noco apart apartO sepF hQ u u mp (Wk.frame _ _ _ st fun b hm o it => hal b (List.mem_cons_of_mem _ (List.mem_append_left _ hm)) o it)
    (ns.at' fun o it => hal _ (List.mem_cons_self ..) o it) (SinceG.refl bu) fun b hm _ o it => ⟨fun _ => hal b (List.mem_cons_of_mem _ (List.mem_append_right _ hm)) o it, o.slots, hal b (List.mem_cons_of_mem _ (List.mem_append_right _ hm)) o it⟩⟩⟩
end
section
variable {w : World} {prog : Program} {A : Around} {E : Value → Shared → Prop} {s : Shared}
/-- what the maker of such a generator has to know, behind the code object and the builtins -/
def MadeD (prog : Program) (w : World) (A : Around) (env : Env) (elt iter tgt : Expr) (ifs : List Expr) (scope : Scope) (cl : List (Str × Addr)) (pos : Pos) (Q : Value → Shared → Prop) (it code : Value) (bi : Addr) (t : Shared) : Prop :=
  AllBare t.gens ∧ ∃ (I : Addr) (fp wr fs : List Addr) (n : Nat) (Bd : Nat → (Str → Option Value) → Prop) (St : Nat → Heap → Prop) (pz : Nat → Bool) (F : Nat → Value → Prop), it = .ref I ∧ Draws2 prog w tgt (genEnv scope cl t.heap.objs.size code bi env) I fp wr n Bd St ∧ St 0 t.heap ∧
    (∀ b ∈ fp, b < t.heap.objs.size) ∧ t.heap.NoLimit ∧ cStatics ∉ wr ∧ (∀ b ∈ fs, b ≤ t.heap.objs.size) ∧ (∀ b ∈ fp, b ∉ fs) ∧ cStatics ∉ fs ∧
    (∀ ref : Heap, (∀ b o, t.heap.get? b = some o → ref.get? b = some o) →
      QuietD prog w (genEnv scope cl t.heap.objs.size code bi env) ifs elt (List.range t.heap.objs.size) wr fs Bd pz F ref (A.in4.in1.over (loopD elt tgt iter ifs scope pos I (genEnv scope cl t.heap.objs.size code bi env)) []).frames (A.depth + 1) (A.units + 8)) ∧
    ∀ a hp tk gs, gs.bare = true → t.heap.objs.size < a → hp.objs.size = a + 1 → (∀ b o, t.heap.get? b = some o → hp.get? b = some o) →
      WalksV prog w A.in4 a (t.heap.objs.size :: wr) fs (passing pz n 0).length (fun j y => ∃ i, (passing pz n 0)[j]? = some i ∧ F i y) (AtB prog w A.in4 a t.gens.size t.heap.objs.size fp (List.range t.heap.objs.size) wr fs pz n F) →
      AtB prog w A.in4 a t.gens.size t.heap.objs.size fp (List.range t.heap.objs.size) wr fs pz n F 0 { t with gens := t.gens.push gs, toks := tk, heap := hp } → Q (.ref a) { t with gens := t.gens.push gs, toks := tk, heap := hp }
theorem genexpD {env : Env} {elt iter : Expr} {tgt : Expr} {ifs : List Expr} {scope : Scope} {cl : List (Str × Addr)} {pos : Pos} {Q : Value → Shared → Prop}
    (quiet0 : A.handled = none) (noco : scope.isCoroutine = false) (clo : closureFor scope env = pure cl) (nocell : ∀ y ∈ scope.names, y.2 ≠ .cell) (dot0 : scope.names.lookup (".0" : Str) = some NameKind.local)
    (kd : scope.kind = .function) (room : A.depth < recursionLimit)
    (h : wpAny (model prog w) A (eval iter env) (fun xv t1 => wpAny (model prog w) A (pyIter xv) (fun it t2 => t2.heap.NoLimit ∧
      wpAny (model prog w) A (genexprCode env pos (env.qual ++ "<genexpr>") scope) (fun code t3 => wpAny (model prog w) A (builtinsFor env.globals env.builtins) (fun bi t4 => MadeD prog w A env elt iter tgt ifs scope cl pos Q it code bi t4) E t3) E t2) E t1) E s)
    (nofold : ∀ v, genFold iter env v = pure v) : wpAny (model prog w) A (eval (.GeneratorExp elt [⟨tgt, iter, ifs, 0⟩] scope pos) env) Q E s := by
  refine wpAny_GeneratorExp_make noco clo nocell dot0 kd room (wpAny_mono h (fun xv t1 a1 => wpAny_mono a1 (fun it t2 a2 => ⟨a2.1, wpAny_mono a2.2 (fun code t3 a3 => wpAny_mono a3 (fun bi t4 a4 => ?_)
    fun _ _ z => z) fun _ _ z => z⟩) fun _ _ z => z) fun _ _ z => z) nofold
  obtain ⟨bare, I, fp, wr, fs, n, Bd, St, pz, F, rfl, Wk, st, low, lim, csW, lowF, sepF, csF, hQ, want⟩ := a4
  have cl4 : cStatics < t4.heap.objs.size := by
    obtain ⟨_, q, _⟩ := lim
    exact q.lt
  intro hp nsp same
  have sz : hp.objs.size = t4.heap.objs.size + 1 := by rw [same.1, Heap.size_push]
  have keep : ∀ b o, t4.heap.get? b = some o → hp.get? b = some o := fun b o it => same.extBut b o (Nat.ne_of_lt (Heap.lt_size it)) (Heap.get?_push_of_some _ it)
  have inR : ∀ b ∈ wr, b ∈ List.range t4.heap.objs.size := fun b hb => List.mem_range.mpr (low b (Wk.sub b hb))
  have nC : hp.objs.size ≠ t4.heap.objs.size := by
    rw [sz]
    exact Nat.succ_ne_self _
  have nR : hp.objs.size ∉ List.range t4.heap.objs.size := fun z => by
    have := List.mem_range.mp z
    omega
  have keep5 : ∀ b o, t4.heap.get? b = some o → (hp.push { cls := .type "generator", data := .fields #[.int t4.gens.size 0, .str "<genexpr>" (t4.toks + 1), .str (env.qual ++ "<genexpr>") (t4.toks + 1 + 1)] }).get? b = some o :=
    fun b o it => Heap.get?_push_of_some _ (keep b o it)
  refine want _ _ _ _ rfl (by omega) (by rw [Heap.size_push]) keep5 (walksB (A := A.in4) quiet0 _ _ _ fp _ wr fs pz n F nC (fun z => nR (inR _ z)) (fun z => by have h9 : (hp.objs.size : Nat) ≤ t4.heap.objs.size := lowF _ z; omega) room (Nat.ne_of_lt cl4) csW csF) ?_
  refine AtB.freshD (A := A.in4) (ce := genEnv scope cl t4.heap.objs.size code bi env) (mp := fun y => if y = ".0" then some (.ref I) else none) quiet0 rfl
    Wk pz F noco
    (fun z => Nat.lt_irrefl _ (low _ z)) (fun z => Nat.lt_irrefl _ (List.mem_range.mp z)) sepF (hQ _ keep5) ⟨_, _, _, Heap.get?_push_size _ rfl, rfl, rfl, rfl⟩ (Array.getElem?_push_size ..) (Wk.frame _ _ _ st fun b _ o it => keep5 b o it) (nsp.push _) (lim.keeps keep5) (bare.push rfl)
end
end V3
/-! Turns over pairs: the target is two names. -/
namespace V3
open PySem.Spec PySem L2 PyProof.Rows GxR
section
variable {w : World} {prog : Program}
theorem Draws2.pair {a b : Str} {pa pb tp : Pos} {kk : Nat} {ce : Env} {I : Addr} {fp wr : List Addr} {n : Nat} {Pt : Nat → Array Value → Prop} {St : Nat → Heap → Prop} {Mid : Nat → Addr → Heap → Prop}
    (Wk : ∀ B : Around, B.handled = none → WalksT prog w B I fp wr n Pt St Mid) (two : ∀ i vals, Pt i vals → ∃ x y, vals = #[x, y]) (ka : ce.kindOf a = some .local) (kb : ce.kindOf b = some .local) (ab : (a = b) = False)
    (plain : (ce.scope.kind == .class || (ce.scope.kind == .module && ce.locals != ce.globals)) = false) (apart : ce.locals ∉ fp) :
    Draws2 prog w (.Tuple [.Name a pa, .Name b pb] kk tp) ce I fp wr n (fun i mp => ∃ x y, Pt i #[x, y] ∧ mp a = some x ∧ mp b = some y) St where
  sub := (Wk callerA rfl).sub
  frame := (Wk callerA rfl).frame
  one := fun B q i t mp K E il st ns told => by
    have offW : ce.locals ∉ wr := fun z => apart ((Wk B q).sub _ z)
    refine (Wk B q).item i t K E il st fun T vals h1 tk pt low tup mid keep1 => told _ _ ((Wk B q).go _ _ _ i T _ _ _ mid fun h2 st2 keep2 => ?_)
    obtain ⟨x, y, rfl⟩ := two i vals pt
    have tup2 : h2.IsTuple T #[x, y] := by
      obtain ⟨o, e, r⟩ := tup
      exact ⟨o, keep2 T o ((Wk B q).apart i T _ mid) e, r⟩
    have ns2 : h2.Ns ce.locals mp := ns.at' fun o it => keep2 _ o offW (keep1 _ o offW it)
    refine wpAny_assign_Tuple (s := { t with heap := h2, toks := tk }) q tup2 rfl rfl fun h3 ext => ?_
    have keep3 : ∀ c o, h2.get? c = some o → h3.get? c = some o := fun c o it => ext c o (Nat.ne_of_lt (Heap.lt_size it)) it
    refine assignInOrder_cons (wpAny_assign_Name (wpAny_storeName_local ka (ns2.at' fun o it => keep3 _ o it) (fun h4 ns4 same4 => ?_) plain))
    refine assignInOrder_cons (wpAny_assign_Name (wpAny_storeName_local kb ns4 (fun h5 ns5 same5 => ?_) plain))
    refine assignInOrder_nil ⟨h5, _, _, rfl, ⟨x, y, pt, ?_, by simp⟩, (Wk B q).frame _ h2 h5 st2 fun c hc o it => same5.extBut c o (fun z => apart (z ▸ hc)) (same4.extBut c o (fun z => apart (z ▸ hc)) (keep3 c o it)), ns5, fun c o nc nw it =>
      same5.extBut c o nc (same4.extBut c o nc (keep3 c o (keep2 c o nw (keep1 c o nw it))))⟩
    rw [if_neg (fun z => by rw [← ab]; exact z), if_pos rfl]
  done := fun B q t K E st k => (Wk B q).done t K E st k
  self := fun B q t K E st k => (Wk B q).self 0 t K E st k
end
end V3
/-! sum over a generator expression. -/
namespace V3
open PySem.Spec PySem L2 PyProof.Rows GxR
section
variable {w : World} {prog : Program} {A : Around}
theorem MovedV.wide {wr wr2 fs : List Addr} {t t' : Shared} (m : MovedV wr fs t t') (h : ∀ b ∈ wr, b ∈ wr2) : MovedV wr2 fs t t' := ⟨m.os, m.bare, fun b o n it => m.heap b o (fun z => n (h b z)) it⟩
/-- the running sum is written -/
theorem MovedV.wrote {wr fs : List Addr} {t t' : Shared} {S : Addr} {h' : Heap} {tk : Nat} (m : MovedV wr fs t t') (k : ∀ b o, b ≠ S → t'.heap.get? b = some o → h'.get? b = some o) : MovedV (S :: wr) fs t { t' with heap := h', toks := tk } :=
  ⟨m.os, m.bare, fun b o n it => by
    obtain ⟨p1, sl, p2⟩ := m.heap b o (fun z => n (List.mem_cons_of_mem _ z)) it
    have nS : b ≠ S := fun z => n (z ▸ List.mem_cons_self ..)
    exact ⟨fun nf => k b o nS (p1 nf), sl, k b _ nS p2⟩⟩
theorem sum_loopV {I : Addr} {wr fs : List Addr} {n : Nat} {P : Nat → Value → Prop} {St : Nat → Shared → Prop} {R : Result → Shared → Prop} (Wk : WalksV prog w A.in1 I wr fs n P St) (S : Addr) (Sw : S ∉ wr) (Sf : S ∉ fs)
    (fr : ∀ i (t : Shared) h' tk, St i t → (∀ b o, b ≠ S → t.heap.get? b = some o → h'.get? b = some o) → St i { t with heap := h', toks := tk }) (val : Nat → Int) (isI : ∀ i v, P i v → ∃ tz, v = .int (val i) tz) :
    ∀ (k i : Nat) (t : Shared) (ta : Tok) (c : Nat) (stage : Int), (stage = 0 ∨ stage = 2) → n - i = k → i ≤ n → St i t → t.heap.get? S = some { cls := .type "list", dict := none, data := .seq #[.int (preSum val i) ta] c, slots := #[] } →
      (∀ t' tz, MovedV (S :: wr) fs t t' → R (.ok (.ret (.int (preSum val n) tz))) t') → codeAny (model prog w) A (.builtin "sum.loop" ⟨[.ref I, .ref S, rawInt stage, rawInt 0], []⟩) R t := by
  intro k
  induction k with
  | zero =>
    intro i t ta c stage _ ek il st atS want
    obtain rfl : i = n := by omega
    (refine codeAny_builtin F.entry_sum_loop ?_)
    (rw [Around.under_plainId F.plain_sum_loop _])
    show wpAny _ A.in1 (seqItems? (.ref S) >>= _) _ _ t
    refine wpAny_bind (wpAny_seqItems atS rfl ?_)
    show wpAny _ A.in1 (tryCatch (pyNext (.ref I)) _ >>= _) _ _ t
    exact wpAny_bind (wpAny_tryCatch (Wk.done t _ _ st fun t' mv => wpAny_pure (want t' ta (mv.wide fun b hb => List.mem_cons_of_mem _ hb))))
  | succ k again =>
    intro i t ta c stage two ek il st atS want
    have lt : i < n := by omega
    (refine codeAny_builtin F.entry_sum_loop ?_)
    (rw [Around.under_plainId F.plain_sum_loop _])
    show wpAny _ A.in1 (seqItems? (.ref S) >>= _) _ _ t
    refine wpAny_bind (wpAny_seqItems atS rfl ?_)
    show wpAny _ A.in1 (tryCatch (pyNext (.ref I)) _ >>= _) _ _ t
    refine wpAny_bind (wpAny_tryCatch (Wk.item i t _ _ lt st fun v u pv su mv => ?_))
    obtain ⟨tz, rfl⟩ := isI i v pv
    have atU := (mv.heap S _ Sw atS).1 Sf
    -- the sum is written, once or twice; then on
    have on : ∀ (h' : Heap) (tk c2 : Nat) (t2 : Tok) (stage2 : Int), (stage2 = 0 ∨ stage2 = 2) → (∀ b o, b ≠ S → u.heap.get? b = some o → h'.get? b = some o) → h'.get? S = some { cls := .type "list", dict := none, data := .seq #[.int (preSum val (i + 1)) t2] c2, slots := #[] } →
        codeAny (model prog w) A (.builtin "sum.loop" ⟨[.ref I, .ref S, rawInt stage2, rawInt 0], []⟩) R { u with heap := h', toks := tk } := fun h' tk c2 t2 stage2 two2 keep at2 =>
      again (i + 1) _ t2 c2 stage2 two2 (by omega) lt (fr _ u h' tk su keep) at2 fun t' tz' mv2 => want t' tz' ((mv.wrote keep).trans mv2)
    have other : ∀ (f : Obj → Obj) (h0 : Heap) b o, b ≠ S → h0.get? b = some o → (h0.update S f).get? b = some o := fun f h0 b o n it => (Heap.get?_update_other _ _ (Ne.symm n)).trans it
    rcases two with rfl | rfl
    · (show wpAny _ A.in1 (if (_ : Bool) = true then (mkInt (preSum val i + val i) >>= _) else _) _ _ _)
      split
      · (refine wpAny_bind (wpAny_mkInt ?_))
        show wpAny _ A.in1 (updateSeq S (fun _ => #[.int (preSum val i + val i) u.toks]) >>= _) _ _ _
        exact wpAny_bind (wpAny_updateSeq atU rfl (wpAny_pure ⟨plainId_quiet F.plain_sum_loop _, on _ _ _ _ 0 (.inl rfl) (fun b o n it => other _ _ b o n it) (Heap.get?_update_self _ atU rfl)⟩))
      · (refine wpAny_bind (wpAny_rule ?_))
        (refine wpAny_bind (wpAny_attempt (wpAny_holding (wpAny_add_int ?_))))
        show wpAny _ A.in1 (updateSeq S (fun _ => #[.int (preSum val i + val i) u.toks]) >>= _) _ _ _
        refine wpAny_bind (wpAny_updateSeq atU rfl ?_)
        have atV := Heap.get?_update_self (Obj.mapSeq fun _ => #[Value.int (preSum val i + val i) u.toks]) atU rfl
        exact wpAny_bind (wpAny_letGo (wpAny_bind (wpAny_updateSeq atV rfl (wpAny_pure ⟨plainId_quiet F.plain_sum_loop _, on _ _ _ _ 2 (.inr rfl) (fun b o n it => other _ _ b o n (other _ _ b o n it)) (Heap.get?_update_self _ atV rfl)⟩))))
    · show wpAny _ A.in1 ((holding [Value.int (val i) tz] (binaryOp .Add (.int (preSum val i) ta) (.int (val i) tz))).attempt >>= _) _ _ _
      (refine wpAny_bind (wpAny_attempt (wpAny_holding (wpAny_add_int ?_))))
      show wpAny _ A.in1 (updateSeq S (fun _ => #[.int (preSum val i + val i) u.toks]) >>= _) _ _ _
      refine wpAny_bind (wpAny_updateSeq atU rfl ?_)
      have atV := Heap.get?_update_self (Obj.mapSeq fun _ => #[Value.int (preSum val i + val i) u.toks]) atU rfl
      exact wpAny_bind (wpAny_letGo (wpAny_bind (wpAny_updateSeq atV rfl (wpAny_pure ⟨plainId_quiet F.plain_sum_loop _, on _ _ _ _ 2 (.inr rfl) (fun b o n it => other _ _ b o n (other _ _ b o n it)) (Heap.get?_update_self _ atV rfl)⟩))))
theorem call_sumV {E : Value → Shared → Prop} {s : Shared} {x : Value} {Q : Value → Shared → Prop}
    (h : wpAny (model prog w) A.in1 (pyIter x) (fun it t => ∃ I wr fs n P St val, it = .ref I ∧ WalksV prog w A.in1 I wr fs n P St ∧ St 0 t ∧ (∀ i v, P i v → ∃ tz, v = .int (val i) tz) ∧ t.heap.objs.size ∉ wr ∧ t.heap.objs.size ∉ fs ∧
      (∀ i (t2 : Shared) h' tk, St i t2 → (∀ b o, b ≠ t.heap.objs.size → t2.heap.get? b = some o → h'.get? b = some o) → St i { t2 with heap := h', toks := tk }) ∧
      ∀ (t' : Shared) tz, t'.os = t.os → AllBare t'.gens → (∀ b o, b ∉ wr → t.heap.get? b = some o → (b ∉ fs → t'.heap.get? b = some o) ∧ ∃ sl, t'.heap.get? b = some { o with slots := sl }) → Q (.int (preSum val n) tz) t') E s) : (wpAny (model prog w) A (call (.builtin "sum") [x]) Q E s) := by
  (refine call_function_tree F.kind_sum F.plain_sum F.entry_sum (F.args_sum1 _) ?_)
  unfold Builtin.«sum»
  (simp only [List.length_cons, List.length_nil])
  rw [if_neg (by decide)]
  have no1 := PySem.sub_int_str
  have no2 := sub_int_bytes
  have no3 := sub_int_bytearray
  -- no start is given: it is 0, which is no text and no bytes
  refine wpAny_bind (wpAny_of_eq (rfl : Builtin.Builtins.bindParams "sum" ["start"] 0 { } = pure [none]) (wpAny_bind (wpAny_mono h (fun it t ht => ?_) fun _ _ z => z)))
  obtain ⟨I, wr, fs, n, P, St, val, rfl, Wk, st, isI, Sw, Sf, fr, want⟩ := ht
  refine wpAny_bind (wpAny_mkInt (wpAny_bind (wpAny_pure ?_)))
  (simp only [List.forIn_cons, List.forIn_nil])
  refine wpAny_bind (wpAny_bind (wpAny_bind (wpAny_isInstance (b := false) (typeIs_int _ _ _) no1 ?_)))
  (simp only [Bool.false_eq_true, if_false])
  refine wpAny_pure (wpAny_bind (wpAny_bind (wpAny_isInstance (b := false) (typeIs_int _ _ _) no2 ?_)))
  (simp only [Bool.false_eq_true, if_false])
  refine wpAny_pure (wpAny_bind (wpAny_bind (wpAny_isInstance (b := false) (typeIs_int _ _ _) no3 ?_)))
  (simp only [Bool.false_eq_true, if_false])
  refine wpAny_pure (wpAny_pure (wpAny_bind (wpAny_newObj_type ?_)))
  have kept : ∀ b o, t.heap.get? b = some o → (t.heap.push { cls := .type "list", data := .seq #[Value.int 0 t.toks] }).get? b = some o := fun b o it => Heap.get?_push_of_some _ it
  refine wpAny_pure ⟨plainId_quiet F.plain_sum_loop _, sum_loopV Wk t.heap.objs.size Sw Sf fr val isI n 0 _ t.toks 0 0 (.inl rfl) rfl (Nat.zero_le _) (fr 0 t _ _ st fun b o _ it => kept b o it) (Heap.get?_push_size _ rfl) fun t' tz mv => ?_⟩
  refine want t' tz mv.os mv.bare fun b o n it => mv.heap b o (fun z => ?_) (kept b o it)
  rcases List.mem_cons.mp z with e | e
  · exact Nat.lt_irrefl _ (e ▸ Heap.lt_size it)
  · exact n e
end
end V3
set_option maxHeartbeats 8100000
/-! sum(a * b for a, b in zip(one, other)), one and other lists of whole numbers. -/
namespace V3
open PySem.Spec PySem L2 PyProof.Rows GxR RZ
/-- the generator stands as it stood where one new object is written -/
theorem AtB.frame {prog : Program} {w : World} {A : Around} {a S : Addr} {g : Nat} {C : Addr} {fp old wr fs : List Addr} {pz : Nat → Bool} {n : Nat} {F : Nat → Value → Prop} {j : Nat} {t : Shared} {h' : Heap} {tk : Nat}
    (st : AtB prog w A a g C fp old wr fs pz n F j t) (k : ∀ b o, b ≠ S → t.heap.get? b = some o → h'.get? b = some o) (na : a ≠ S) (nc : cStatics ≠ S) (off : ∀ b ∈ C :: (fp ++ old), b ≠ S) : AtB prog w A a g C fp old wr fs pz n F j { t with heap := h', toks := tk } := by
  obtain ⟨⟨o, nm, qn, ho, more⟩, ⟨mc, nsc, nol⟩, bare, gs, at_, goes⟩ := st
  exact ⟨⟨o, nm, qn, k a o na ho, more⟩, ⟨mc, nsc.at' fun o it => k _ o nc it, nol⟩, bare, gs, at_, fun u hal bu => goes u (fun b hb o it => hal b hb o (k b o (off b hb) it)) bu⟩
def dotZ (xs ys : List Int) : Int := preSum (fun i => xs.getD i 0 * ys.getD i 0) (min xs.length ys.length)
section
variable {X : Cx}
abbrev genZ (a b : Str) (pa pb tp pz pz2 p1 p2 p3 gpos : Pos) (kk : Nat) (e1 e2 : Expr) (scope : Scope) : Expr := .GeneratorExp (.BinOp (.Name a p1) .Mult (.Name b p2) p3) [⟨.Tuple [.Name a pa, .Name b pb] kk tp, .Call (.Name "zip" pz) [e1, e2] [] pz2, [], 0⟩] scope gpos
def tSumZ (X : Cx) (P : Addr) (ta : TA) : TE := fun σ H Q => ta σ H fun vs H1 => ∃ (p q : Addr) (xs ys : List Int) (m : Nat), vs = [.ref p, .ref q] ∧ SqL X.K H1 p (xs.map V.int) ∧ SqL X.K H1 q (ys.map V.int) ∧ TabG H1 P ∧ (∀ x ∈ xs, x.natAbs < 2 ^ m) ∧ (∀ y ∈ ys, y.natAbs < 2 ^ m) ∧ 0 < m ∧ m ≤ 400000 ∧
  ∀ H2, Tabbed P H1 H2 → Q (.int (dotZ xs ys)) H2
theorem pe_sumZ {c P : Addr} {e1 e2 : Expr} {a b : Str} {pa pb tp p pz pz2 p1 p2 p3 gpos pos : Pos} {kk : Nat} {scope : Scope} {ta : TA} {k : Nat}
    (hr : Room (k + 1) X.A) (hg : Gl X "sum") (hma : X.mg "sum" = none) (hgz : Gl X "zip") (hmz : X.mg "zip" = none) (TB : TabB X.base X.mg c P) (hcode : X.env.code = .ref c) (S : GenS X.env scope a) (kb : scope.names.lookup b = some .local) (ab : (a = b) = False) (ha : PA X [e1, e2] ta)
    (da : (a == ("__debug__" : Str)) = false) (db : (b == ("__debug__" : Str)) = false) (nofold : ∀ v, genFold (.Call (.Name "zip" pz) [e1, e2] [] pz2) X.env v = pure v)
    (hs : starEach [e1, e2] X.env = (false, eval e1 X.env) :: starEach [e2] X.env := by rfl) (hpl : (backTo pz2 (starEach [e2] X.env)).any (·.1) = false := by rfl)
    (he : starEach [genZ a b pa pb tp pz pz2 p1 p2 p3 gpos kk e1 e2 scope] X.env = (false, eval (genZ a b pa pb tp pz pz2 p1 p2 p3 gpos kk e1 e2 scope) X.env) :: starEach [] X.env := by rfl) :
    PE X (.Call (.Name "sum" p) [genZ a b pa pb tp pz pz2 p1 p2 p3 gpos kk e1 e2 scope] [] pos) (tSumZ X P ta) := by
  (refine ⟨fun pins s σ H Q I h => ?_⟩)
  refine wpAny_Call_Name_kw (ld_blt (u := .builtin "sum") I hg hma (by decide +kernel) ?_)
  refine PyProof.Rows.callWith_builtin1 (id := "sum") ?_ he (by rfl)
  rw [he]
  show wpAny _ _ (spliced ((false, eval (genZ a b pa pb tp pz pz2 p1 p2 p3 gpos kk e1 e2 scope) X.env) :: backTo pos (starEach [] X.env))) _ _ s
  refine Calls.spliced_cons (genexpD hr.hd S.co (closure_ok S.free) S.cell S.dot S.kind (by have := hr.dp; omega) ?_ nofold)
  refine Call_ (ld_blt I hgz hmz PyProof.Rows.boot_zip (PyProof.Rows.callWith_type1 (thn (ha.run pz2 pins s σ H _ I h) fun us s0 ⟨vs, H1, I0, rvs0, lp, lq, xs, ys, m, evs, hsx, hsy, tab, bx, by_, m0, ml, want⟩ => ?_) hs hpl))
  subst evs
  obtain ⟨up, uq, rfl, rp, rq⟩ : ∃ up uq, us = [up, uq] ∧ RelV (.ref lp) up ∧ RelV (.ref lq) uq := by
    cases rvs0 with
    | cons r rr =>
      cases rr with
      | cons r2 rr =>
        cases rr
        exact ⟨_, _, rfl, r, r2⟩
  cases (show up = Value.ref lp from rp)
  cases (show uq = Value.ref lq from rq)
  obtain ⟨itx, rvx, plx, zlx⟩ := I0.list hsx
  obtain ⟨ity, rvy, ply, zly⟩ := I0.list hsy
  refine call_zip_2 plx.isList ply.isList fun hz isz isTI isTO it1 it2 szz keptz => wpAny_pyIter_zip isz ?_
  have I1 : Inv X pins σ H1 { s0 with heap := hz } := I0.kept (t' := s0.toks) keptz
  have D := PySem.W.ktu_apart s0.heap.objs.size lp lq plx.lt ply.lt
  have lpN : lp < s0.heap.objs.size := plx.lt
  have lqN : lq < s0.heap.objs.size := ply.lt
  obtain ⟨ptab, hP, htr⟩ := tab
  have atP : s0.heap.get? P = some { cls := .none, data := .fields ptab } := I0.hok P _ hP
  have ltP : P < s0.heap.objs.size := Heap.lt_size atP
  have atP2 : hz.get? P = some { cls := .none, data := .fields ptab } := keptz _ _ atP
  have hdC : PySem.W.CodeHd hz c P := TB.code.keeps fun b u e => I1.bk b u e
  have nol : hz.NoLimit := I1.nolimit
  have csB : ∃ o, X.base.get? cStatics = some o := by
    obtain ⟨_, q, _⟩ := I0.ok.mod.nolimit
    obtain ⟨o, es, ep, ho, _⟩ := q
    exact ⟨o, ho⟩
  have notFr : ∀ b o, X.base.get? b = some o → b ∉ frs X.stack := fun b o it z => by
    have := (frs_apart I0.stack z).1
    rw [it] at this
    cases this
  have frLow : ∀ b ∈ frs X.stack, b < s0.heap.objs.size := fun b z => by
    obtain ⟨_, o, ho, _⟩ := frs_apart I0.stack z
    exact Heap.lt_size ho
  have frNotP : P ∉ frs X.stack := fun z => by
    have := I0.stkFree P z
    rw [hP] at this
    cases this
  have lFr : ∀ (l : Addr) (ws : List V), SqL X.K H1 l ws → l ∉ frs X.stack := fun l ws hq z => by
    rcases hq with ((e | ⟨o, e⟩) | ⟨o, it2, n2, e, _⟩)
    · have := I0.stkFree l z
      rw [e] at this
      cases this
    · have := I0.stkFree l z
      rw [e] at this
      cases this
    · exact notFr l o (I0.ok.mod.kin l o e) z
  have lNP : ∀ (l : Addr) (its : Array Value), s0.heap.IsList l its → l ≠ P := fun l its hl z => by
    obtain ⟨o, q1, _, q3⟩ := hl
    rw [z, atP] at q1
    cases q1
    obtain ⟨_, q3⟩ := q3
    cases q3
  have lx := lNP lp _ plx.isList
  have ly := lNP lq _ ply.isList
  -- behind the code object
  have cont : ∀ (code : Value) (hp3 : Heap) (tk : Nat) (ptab3 : Array Value), Heap.ExtBut P hz hp3 → hz.objs.size ≤ hp3.objs.size → hp3.get? P = some { cls := .none, data := .fields ptab3 } → (∃ more, ptab3 = ptab ++ more) → TriplesOk ptab3.toList →
      wpAny (model X.prog X.w) X.A (builtinsFor X.env.globals X.env.builtins) (fun bi t4 => MadeD X.prog X.w X.A X.env (.BinOp (.Name a p1) .Mult (.Name b p2) p3) (.Call (.Name "zip" pz) [e1, e2] [] pz2) (.Tuple [.Name a pa, .Name b pb] kk tp) [] scope (cloFrom X.env.cells scope.names []) gpos
        (fun g t5 => wpAny (model X.prog X.w) X.A (spliced (backTo pos (starEach [] X.env))) (fun vs t6 => wpAny (model X.prog X.w) X.A (call (.builtin "sum") (g :: vs)) (EP X pins σ Q) X.xe t6) X.xe t5) (.ref (s0.heap.objs.size + 4)) code bi t4) X.xe { s0 with heap := hp3, toks := tk } := by
    intro code hp3 tk ptab3 hx3 sz3 atP3 grown ok3
    (obtain ⟨bm, ob, e1, e2, e3, e4, e5, e6, e7, e8⟩ := TB.bm)
    have keep3 : ∀ b u, b ≠ P → hz.get? b = some u → hp3.get? b = some u := fun b u nb it => hx3 b u nb it
    have keep0 : ∀ b u, b ≠ P → s0.heap.get? b = some u → hp3.get? b = some u := fun b u nb it => hx3 b u nb (keptz b u it)
    have big3 : s0.heap.objs.size + 5 ≤ hp3.objs.size := by
      rw [← szz]
      exact sz3
    have baseNP : ∀ b o, X.base.get? b = some o → b ≠ P := fun b o it z => by
      have := (I0.bs b o it).2
      rw [z, hP] at this
      cases this
    obtain ⟨oCs, csAt⟩ := csB
    have csLow : cStatics < s0.heap.objs.size := Heap.lt_size (I0.bk _ _ csAt)
    have up : ∀ j, s0.heap.objs.size + j ≠ P := fun j z => by
      rw [← z] at ltP
      exact absurd ltP (Nat.not_lt_of_le (Nat.le_add_right _ _))
    have lowN : s0.heap.objs.size ≤ hp3.objs.size := Nat.le_trans (Nat.le_add_right _ 5) big3
    have upLow : ∀ j : Nat, j < 5 → s0.heap.objs.size + j < hp3.objs.size := fun j hj => Nat.lt_of_lt_of_le (Nat.add_lt_add_left hj _) big3
    have fpLow : ∀ b ∈ [s0.heap.objs.size + 4, s0.heap.objs.size + 2, s0.heap.objs.size + 3, s0.heap.objs.size, s0.heap.objs.size + 1, lp, lq], b < hp3.objs.size := fun b hb => by
      (simp only [List.mem_cons, List.not_mem_nil, or_false] at hb)
      rcases hb with z | z | z | z | z | z | z <;> subst z
      · exact upLow 4 (by decide)
      · exact upLow 2 (by decide)
      · exact upLow 3 (by decide)
      · exact upLow 0 (by decide)
      · exact upLow 1 (by decide)
      · exact Nat.lt_of_lt_of_le lpN lowN
      · exact Nat.lt_of_lt_of_le lqN lowN
    have wrHigh : ∀ b ∈ [s0.heap.objs.size + 4, s0.heap.objs.size + 3, s0.heap.objs.size, s0.heap.objs.size + 1], s0.heap.objs.size ≤ b ∧ b < hp3.objs.size := fun b hb => by
      (simp only [List.mem_cons, List.not_mem_nil, or_false] at hb)
      rcases hb with z | z | z | z <;> subst z
      · exact ⟨Nat.le_add_right _ _, upLow 4 (by decide)⟩
      · exact ⟨Nat.le_add_right _ _, upLow 3 (by decide)⟩
      · exact ⟨Nat.le_refl _, upLow 0 (by decide)⟩
      · exact ⟨Nat.le_add_right _ _, upLow 1 (by decide)⟩
    refine wpAny_builtinsFor (m := X.mg) (by rw [I0.ok.glob]; exact (I1.mod.glob.keeps I1.bk).extBut hx3 TB.gP) e1 e2 (keep3 _ _ e4 (I1.bk _ _ e5)) e6 e7 e8 ?_
    refine ⟨I0.bare, s0.heap.objs.size + 4, [s0.heap.objs.size + 4, s0.heap.objs.size + 2, s0.heap.objs.size + 3, s0.heap.objs.size, s0.heap.objs.size + 1, lp, lq], [s0.heap.objs.size + 4, s0.heap.objs.size + 3, s0.heap.objs.size, s0.heap.objs.size + 1], hp3.objs.size :: frs X.stack, min itx.toArray.size ity.toArray.size, _, _, (fun _ => true), (fun i y => ∃ tz, y = .int (xs.getD i 0 * ys.getD i 0) tz), rfl,
      Draws2.pair (fun B q => WalksT.zip2 q _ _ _ _ _ _ _ D itx.toArray ity.toArray) (fun i vals pt => by obtain ⟨x, y, _, _, e⟩ := pt; exact ⟨x, y, e⟩) S.loc kb ab (by simp [genEnv, S.kind]) (fun z => Nat.lt_irrefl _ (fpLow _ z)),
      ⟨keep3 _ _ (up 4) isz, keep3 _ _ (up 2) isTI, ⟨_, _, keep3 _ _ (up 3) isTO⟩, it1.at fun o e => keep3 _ o (up 0) e, it2.at fun o e => keep3 _ o (up 1) e, plx.isList.at fun o e => keep0 _ o lx e, ply.isList.at fun o e => keep0 _ o ly e⟩, fpLow, nol.extBut hx3 (baseNP _ _ csAt), ?_, ?_, ?_, ?_, ?_, ?_⟩
    · intro z
      exact absurd (wrHigh _ z).1 (Nat.not_le_of_lt csLow)
    · intro b hb
      show b ≤ hp3.objs.size
      rcases List.mem_cons.mp hb with (z | z)
      · rw [z]
        exact Nat.le_refl _
      · exact Nat.le_of_lt (Nat.lt_of_lt_of_le (frLow b z) lowN)
    · intro b hb hf
      rcases List.mem_cons.mp hf with (y | y)
      · have := fpLow b hb
        rw [y] at this
        exact Nat.lt_irrefl _ this
      · have low := frLow b y
        (simp only [List.mem_cons, List.not_mem_nil, or_false] at hb)
        rcases hb with z | z | z | z | z | z | z
        · rw [z] at low
          exact absurd low (Nat.not_lt_of_le (Nat.le_add_right _ _))
        · rw [z] at low
          exact absurd low (Nat.not_lt_of_le (Nat.le_add_right _ _))
        · rw [z] at low
          exact absurd low (Nat.not_lt_of_le (Nat.le_add_right _ _))
        · rw [z] at low
          exact absurd low (Nat.not_lt_of_le (Nat.le_refl _))
        · rw [z] at low
          exact absurd low (Nat.not_lt_of_le (Nat.le_add_right _ _))
        · subst z
          exact lFr _ _ hsx y
        · subst z
          exact lFr _ _ hsy y
    · intro z
      rcases List.mem_cons.mp z with (y | y)
      · have e : cStatics = hp3.objs.size := y
        rw [e] at csLow
        exact absurd csLow (Nat.not_lt_of_le lowN)
      · exact notFr _ _ csAt y
    · intro ref href
      refine ⟨fun B Ex i t mp hB fB dB uB bT bd ns kept => tests_none ⟨rfl, ⟨rfl, bT, KM.exact (fun _ _ it => it)⟩⟩, fun B Ex i t mp hB fB dB uB bT bd _ ns kept => ?_⟩
      obtain ⟨x, y, ⟨x', y', hx, hy, exy⟩, ma, mb⟩ := bd
      obtain ⟨rfl, rfl⟩ : x = x' ∧ y = y' := by simpa using exy
      have lxi : i < xs.length := by
        have h1 := (Array.getElem?_eq_some_iff.mp hx).1
        have h2 := rvx.length
        rw [List.length_map] at h2
        rw [List.size_toArray] at h1
        omega
      have lyi : i < ys.length := by
        have h1 := (Array.getElem?_eq_some_iff.mp hy).1
        have h2 := rvy.length
        rw [List.length_map] at h2
        rw [List.size_toArray] at h1
        omega
      obtain ⟨tx, hx2⟩ := vals_int_get rvx (List.getElem?_eq_getElem lxi)
      obtain ⟨ty, hy2⟩ := vals_int_get rvy (List.getElem?_eq_getElem lyi)
      rw [hx2] at hx
      rw [hy2] at hy
      cases hx
      cases hy
      have okm := (wide_mul (bx _ (List.getElem_mem lxi)) (by_ _ (List.getElem_mem lyi)) m0 m0 (by omega)).ok
      refine wpAny_BinOp (wpAny_Name (wpAny_loadName_local (by exact S.kind) (by exact S.loc) ns ma ?_) da)
      refine wpAny_Name (wpAny_loadName_local (by exact S.kind) (by exact kb) ns mb ?_) db
      refine mul_int ⟨⟨t.toks, ?_⟩, rfl, bT, KM.exact (fun _ _ it => it)⟩ okm
      rw [List.getD_eq_getElem?_getD, List.getElem?_eq_getElem lxi, List.getD_eq_getElem?_getD, List.getElem?_eq_getElem lyi]
      rfl
    · intro g hp5 tk5 gs gsb ltg szg k5 Wk at5
      refine Calls.spliced_nil (call_sumV ?_)
      have hg5 : hp3.objs.size < hp5.objs.size := by
        rw [szg]
        exact Nat.lt_succ_of_lt ltg
      have pall : passing (fun _ => true) (min itx.toArray.size ity.toArray.size) 0 = List.range (min itx.toArray.size ity.toArray.size) := GxR.passing_true _
      refine Wk.in4.self _ _ _ at5 ⟨g, _, _, _, _, _, (fun i => xs.getD i 0 * ys.getD i 0), rfl, Wk.in4, at5, fun j y hy => ?_, fun z => ?_, fun z => ?_, fun i t2 h' tk2 st2 kk2 => AtB.frame st2 kk2 ?_ ?_ ?_, fun t' tz os' bare' heap' => ?_⟩
      · obtain ⟨i, hi2, hf⟩ := hy
        rw [pall, List.getElem?_range (by
          have := (List.getElem?_eq_some_iff.mp hi2).1
          rw [List.length_range] at this
          exact this)] at hi2
        rw [Option.some.inj hi2]
        exact hf
      · rcases List.mem_cons.mp z with (y | y)
        · have e : hp5.objs.size = hp3.objs.size := y
          rw [e] at hg5
          exact Nat.lt_irrefl _ hg5
        · exact Nat.lt_asymm hg5 (wrHigh _ y).2
      · rcases List.mem_cons.mp z with (y | y)
        · have e : hp5.objs.size = hp3.objs.size := y
          rw [e] at hg5
          exact Nat.lt_irrefl _ hg5
        · exact absurd (frLow _ y) (Nat.not_lt_of_le (Nat.le_trans lowN (Nat.le_of_lt hg5)))
      · show g ≠ hp5.objs.size
        rw [szg]
        exact Nat.ne_of_lt (Nat.lt_succ_self _)
      · exact Nat.ne_of_lt (Nat.lt_of_lt_of_le csLow (Nat.le_trans lowN (Nat.le_of_lt hg5)))
      · intro b hb
        show b ≠ hp5.objs.size
        rcases List.mem_cons.mp hb with (y | y)
        · have e : b = hp3.objs.size := y
          rw [e]
          exact Nat.ne_of_lt hg5
        · rcases List.mem_append.mp y with (v | v)
          · exact Nat.ne_of_lt (Nat.lt_trans (fpLow b v) hg5)
          · exact Nat.ne_of_lt (Nat.lt_trans (List.mem_range.mp v) hg5)
      · obtain ⟨more, rfl⟩ := grown
        have offW : ∀ b, b < s0.heap.objs.size → b ∉ hp3.objs.size :: [s0.heap.objs.size + 4, s0.heap.objs.size + 3, s0.heap.objs.size, s0.heap.objs.size + 1] := fun b lt z => by
          rcases List.mem_cons.mp z with (y | y)
          · rw [y] at lt
            exact absurd lt (Nat.not_lt_of_le lowN)
          · exact absurd lt (Nat.not_lt_of_le (wrHigh _ y).1)
        have kB : ∀ b o, b < s0.heap.objs.size → hp3.get? b = some o → (b ∉ frs X.stack → t'.heap.get? b = some o) ∧ ∃ sl, t'.heap.get? b = some { o with slots := sl } := fun b o lt it => by
          obtain ⟨p1, p2⟩ := heap' b o (offW b lt) (k5 b o it)
          exact ⟨fun nf => p1 fun z => (List.mem_cons.mp z).elim (fun y => absurd (Nat.lt_of_lt_of_le lt lowN) (by rw [y]; exact Nat.lt_irrefl _)) nf, p2⟩
        have J := inv_gen (t' := t') (more := more) I0 hP os' bare' (fun b o nb it => kB b o (Heap.lt_size it) (keep0 b o nb it)) ((kB P _ ltP atP3).1 frNotP)
        have len : (passing (fun _ => true) (min itx.toArray.size ity.toArray.size) 0).length = min xs.length ys.length := by
          have h1 := rvx.length
          have h2 := rvy.length
          rw [List.length_map] at h1 h2
          rw [pall, List.length_range, List.size_toArray, List.size_toArray, h1, h2]
        rw [len]
        exact ⟨.int _, _, J, ⟨tz, rfl⟩, want _ ⟨⟨ptab ++ more, upd_same, ok3⟩, fun b nb => upd_ne nb⟩⟩
  refine ⟨nol, ?_⟩
  cases among : codeAmong gpos ptab.toList with
  | none =>
    refine wpAny_genexprCodeX hcode (hdC.code atP2 htr) (hdC.tab atP2) among fun c2 hp2 tk hx2 ge2 lt2 isC _ tabA _ => ?_
    obtain ⟨o1, vs, f1, tf, fl, tg, inF, tx, tt, op, _, _, _, _, _, _, _, _, _, trs, _⟩ := isC
    exact cont _ hp2 tk _ hx2 (Nat.le_trans ge2 (Nat.le_of_lt lt2)) tabA.2 ⟨_, rfl⟩ trs
  | some cv =>
    refine wpAny_genexprCode_hit hcode (hdC.code atP2 htr) among ?_
    exact cont cv hz s0.toks ptab (Heap.ExtBut.refl _ _) (Nat.le_refl _) atP2 ⟨#[], by simp⟩ htr
end
end V3
/-! A generator expression over any iterator, its element told by small rules inside its own frame; all and any over it. -/
namespace V3
open PySem.Spec PySem L2 PyProof.Rows GxR RZ
theorem KeptG.refl {fs : List Addr} {t : Shared} (b : AllBare t.gens) : KeptG fs t t := ⟨rfl, b, KM.exact fun _ _ it => it⟩
theorem KeptG.trans {fs : List Addr} {t t1 t2 : Shared} (p : KeptG fs t t1) (q : KeptG fs t1 t2) : KeptG fs t t2 := ⟨q.os.trans p.os, q.bare, p.heap.trans q.heap⟩
/-- the element's own frame; Ok: the states that it may stand in -/
structure GF (X : Cx) (H : Hp) (h : Heap) (σ : L2.St) (scope : Scope) (ce : Env) (B : Around) (mp : Str → Option Value) (Ok : Shared → Prop) : Prop where
  inv : ∃ (pins : List (Addr × Obj)) (s : Shared), s.heap = h ∧ Inv X pins σ H s
  b0 : B.handled = none
  bf : B.frames = some (ce :: X.stack)
  bd : B.depth ≤ X.A.depth + 1
  bu : B.units ≤ X.A.units + 8
  sc : ce.scope = scope
  kind : scope.kind = .function
  glob : ce.globals = mainGlobals
  inGen : ∀ t, Ok t → InGen X H h ce 0 t
  ns : ∀ t, Ok t → t.heap.Ns ce.locals mp
  next : ∀ t t', Ok t → KeptG (frs (ce :: X.stack)) t t' → Ok t'
  tok : ∀ t n, Ok t → Ok { t with toks := n }
  cell : ∀ (cn : Str) (ic : Nat) (vc : V), Cap X scope cn ic → σ[ic]? = some (some vc) → ∃ uc, RelV vc uc ∧ ∀ (p : Pos) Ex (R : Value → Shared → Prop) t, Ok t → R uc t → wpAny (model X.prog X.w) B (eval (.Name cn p) ce) R Ex t
def GE (X : Cx) (ce : Env) (B : Around) (Ok : Shared → Prop) (e : Expr) (P : V → Prop) : Prop :=
  ∀ (Ex : Value → Shared → Prop) (t : Shared), Ok t → wpAny (model X.prog X.w) B (eval e ce) (fun u t' => (∃ v, RelV v u ∧ P v) ∧ KeptG (frs (ce :: X.stack)) t t') Ex t
section
variable {X : Cx} {H : Hp} {h : Heap} {σ : L2.St} {scope : Scope} {ce : Env} {B : Around} {mp : Str → Option Value} {Ok : Shared → Prop} {e e1 e2 : Expr} {P P1 P2 : V → Prop}
theorem GF.bare (G : GF X H h σ scope ce B mp Ok) {t : Shared} (ok : Ok t) : AllBare t.gens := (G.inGen t ok).bare
theorem ge_loc {x : Str} {p : Pos} {u : Value} {v : V} (G : GF X H h σ scope ce B mp Ok) (hl : scope.names.lookup x = some .local) (hm : mp x = some u) (r : RelV v u) (pv : P v) (dx : (x == ("__debug__" : Str)) = false := by decide) : GE X ce B Ok (.Name x p) P :=
  fun Ex t ok => wpAny_Name (wpAny_loadName_local (by rw [G.sc]; exact G.kind) (by show ce.scope.names.lookup x = _; rw [G.sc]; exact hl) (G.ns t ok) hm ⟨⟨v, r, pv⟩, KeptG.refl (G.bare ok)⟩) dx
theorem ge_cap {x : Str} {p : Pos} {ic : Nat} {v : V} (G : GF X H h σ scope ce B mp Ok) (C : Cap X scope x ic) (hv : σ[ic]? = some (some v)) (pv : P v) : GE X ce B Ok (.Name x p) P := fun Ex t ok => by
  obtain ⟨uc, r, go⟩ := G.cell x ic v C hv
  exact go p Ex _ t ok ⟨⟨v, r, pv⟩, KeptG.refl (G.bare ok)⟩
theorem ge_glob {x : Str} {p : Pos} {u : Value} {v : V} (G : GF X H h σ scope ce B mp Ok) (kf : scope.names.lookup x = some .globalImplicit) (hm : X.mg x = some u) (r : RelV v u) (pv : P v) (dx : (x == ("__debug__" : Str)) = false := by decide) : GE X ce B Ok (.Name x p) P := fun Ex t ok => by
  obtain ⟨pins, s, _, I⟩ := G.inv
  exact Calls.Name_function_global (by rw [G.sc]; exact G.kind) (by show ce.scope.names.lookup x = _; rw [G.sc]; exact kf) (Calls.loadGlobal_global (by rw [G.glob]; exact I.mod.glob.keeps (G.inGen t ok).base) hm ⟨⟨v, r, pv⟩, KeptG.refl (G.bare ok)⟩) dx
theorem ge_int {i : Int} {j : Nat} {p : Pos} (G : GF X H h σ scope ce B mp Ok) (pv : P (.int i)) : GE X ce B Ok (.Constant (.int i) j p) P := fun Ex t ok =>
  wpAny_Constant_int ⟨⟨.int i, ⟨_, rfl⟩, pv⟩, ⟨rfl, G.bare (t := t) ok, KM.exact fun _ _ it => it⟩⟩
theorem ge_imp {P2 : V → Prop} (a : GE X ce B Ok e P) (i : ∀ v, P v → P2 v) : GE X ce B Ok e P2 := fun Ex t ok => thn (a Ex t ok) fun u t' ⟨⟨v, r, pv⟩, k⟩ => ⟨⟨v, r, i v pv⟩, k⟩
theorem ge_add {p : Pos} (G : GF X H h σ scope ce B mp Ok) (a : GE X ce B Ok e1 P1) (b : GE X ce B Ok e2 P2) (q : ∀ x y, P1 x → P2 y → ∃ i j, x = .int i ∧ y = .int j ∧ P (.int (i + j))) : GE X ce B Ok (.BinOp e1 .Add e2 p) P := fun Ex t ok => by
  refine wpAny_BinOp (thn (a Ex t ok) fun u1 t1 ⟨⟨x, r1, p1⟩, k1⟩ => thn (b Ex t1 (G.next _ _ ok k1)) fun u2 t2 ⟨⟨y, r2, p2⟩, k2⟩ => ?_)
  obtain ⟨i, j, rfl, rfl, pv⟩ := q x y p1 p2
  obtain ⟨t', rfl⟩ := r1
  obtain ⟨t'', rfl⟩ := r2
  exact add_int ⟨⟨.int _, ⟨_, rfl⟩, pv⟩, k1.trans (k2.trans ⟨rfl, k2.bare, KM.exact fun _ _ it => it⟩)⟩
theorem ge_cmp {p : Pos} {op : CmpOp} {f : Int → Int → Bool} (G : GF X H h σ scope ce B mp Ok) (a : GE X ce B Ok e1 P1) (b : GE X ce B Ok e2 P2) (hm : behindInMarks op e2 = false)
    (rule : ∀ (i j : Int) (t u : Tok) (Q E : Value → Shared → Prop) (s : Shared), Q (.bool (f i j)) s → wpAny (model X.prog X.w) B (compareOp op (.int i t) (.int j u)) Q E s)
    (q : ∀ x y, P1 x → P2 y → ∃ i j, x = .int i ∧ y = .int j ∧ P (.bl (f i j))) : GE X ce B Ok (.Compare e1 [op] [e2] p) P := fun Ex t ok => by
  refine wpAny_Compare1 (thn (a Ex t ok) fun u1 t1 ⟨⟨x, r1, p1⟩, k1⟩ => thn (b Ex t1 (G.next _ _ ok k1)) fun u2 t2 ⟨⟨y, r2, p2⟩, k2⟩ => ?_) (by first | exact hm | assumption)
  obtain ⟨i, j, rfl, rfl, pv⟩ := q x y p1 p2
  obtain ⟨t', rfl⟩ := r1
  obtain ⟨t'', rfl⟩ := r2
  exact rule _ _ _ _ _ _ _ ⟨⟨.bl _, rfl, pv⟩, k1.trans k2⟩
theorem ge_not {p : Pos} (G : GF X H h σ scope ce B mp Ok) (a : GE X ce B Ok e P1) (q : ∀ x, P1 x → ∃ c, x = .bl c ∧ P (.bl (!c))) : GE X ce B Ok (.UnaryOp .Not e p) P := fun Ex t ok => by
  refine UnaryOp_ (thn (a Ex t ok) fun u1 t1 ⟨⟨x, r1, p1⟩, k1⟩ => ?_)
  obtain ⟨c, rfl, pv⟩ := q x p1
  cases r1
  exact not_of (wpAny_truthy_bool ⟨⟨.bl (!c), rfl, pv⟩, k1⟩)
theorem ge_one {p : Pos} {op : BoolOp} (a : GE X ce B Ok e P) : GE X ce B Ok (.BoolOp op [e] p) P := fun Ex t ok => BoolOp_one (a Ex t ok)
theorem ge_and {p : Pos} {rest : List Expr} {c : Bool} (G : GF X H h σ scope ce B mp Ok) (a : GE X ce B Ok e1 (· = .bl c)) (b : c = true → GE X ce B Ok (.BoolOp .And (e2 :: rest) p) P) (q : c = false → P (.bl false)) : GE X ce B Ok (.BoolOp .And (e1 :: e2 :: rest) p) P := fun Ex t ok => by
  refine BoolOp_and (thn (a Ex t ok) fun u1 t1 ⟨⟨x, r1, p1⟩, k1⟩ => ?_)
  subst p1
  cases r1
  refine wpAny_truthy_bool ?_
  cases c with
  | true => exact thn (b rfl Ex t1 (G.next _ _ ok k1)) fun u t' ⟨z, k2⟩ => ⟨z, k1.trans k2⟩
  | false => exact ⟨⟨.bl false, rfl, q rfl⟩, k1⟩
/-- an item of a tuple that stood when the generator was made -/
theorem ge_ix {p : Pos} {a : Addr} {xs : List V} {i : Int} {v : V} (G : GF X H h σ scope ce B mp Ok) (h1 : GE X ce B Ok e1 (· = .ref a)) (h2 : GE X ce B Ok e2 (· = .int i)) (hq : SqT X.K (fast h H) a xs) (he : atI xs i = some v) (pv : P v)
    (hs : ∀ o i, subscripted e2 false o i = operate [o, i] (getItem o i)) : GE X ce B Ok (.Subscript e1 e2 p) P := fun Ex t ok => by
  refine Subscript_ (thn (h1 Ex t ok) fun u1 t1 ⟨⟨x, r1, p1⟩, k1⟩ => thn (h2 Ex t1 (G.next _ _ ok k1)) fun u2 t2 ⟨⟨y, r2, p2⟩, k2⟩ => ?_)
  subst p1 p2
  cases r1
  obtain ⟨tk, rfl⟩ := r2
  have ok2 := G.next _ _ (G.next _ _ ok k1) k2
  have g := G.inGen t2 ok2
  obtain ⟨pins, s, _, I⟩ := G.inv
  have tup : ∃ its : List Value, Vals xs its ∧ IsTup t2.heap a its.toArray ∧ xs.length ≤ sizeLine := by
    rcases hq with z | ⟨o, its, n, hk, hc, hs2, hz, r⟩
    · obtain ⟨z, its, r, pp⟩ := z.ok g.ok
      exact ⟨its, r, pp, z⟩
    · refine ⟨its.toList, r, ⟨o, (I.mod.kin.keeps g.base) a o hk, hc, n, by simpa using hs2⟩, ?_⟩
      have e := r.length
      (simp only [Array.length_toList] at e)
      omega
  obtain ⟨its, r, pl, hz⟩ := tup
  (obtain ⟨j, h1, h2, h3, h4, h5⟩ := atI_get he)
  (obtain ⟨w, ew, rw'⟩ := r.get h2)
  have hl := r.length
  have hn := line63
  exact subscriptTail_builtinR (x := w) pl.typeIs slot_tuple_getitem.lookup (getItem_tuple (j := j) (Q := fun r s' => r = w ∧ ((∃ v, RelV v r ∧ P v) ∧ KeptG (frs (ce :: X.stack)) t s')) pl (by omega) (by omega) (by rw [List.size_toArray, ← hl]; exact h1) (by simpa using ew) ⟨rfl, ⟨v, rw', pv⟩, k1.trans k2⟩) (hs _ _)
theorem ge_call1 {fn : Str} {p0 pos0 : Pos} {k : Nat} {ps : List Str} {sp : Sp} (G : GF X H h σ scope ce B mp Ok) (D : Df X.prog X.w X.K X.mg X.base fn k ps sp) (hr : Room (k + 1) X.A) (kf : scope.names.lookup fn = some .globalImplicit) (h1 : GE X ce B Ok e1 P1)
    (ask : ∀ x, P1 x → sp [x] (fast h H) (fun v _ => P v) E0) (df : (fn == ("__debug__" : Str)) = false := by decide) (hs : ∀ env, starEach [e1] env = (false, eval e1 env) :: starEach [] env := by intro _; rfl) : GE X ce B Ok (.Call (.Name fn p0) [e1] [] pos0) P := fun Ex t ok => by
  obtain ⟨f, fd, gf, kp, bd, F, _⟩ := D.ex
  obtain ⟨pins, s, rfl, I⟩ := G.inv
  refine wpAny_Call_Name_kw (Calls.Name_function_global (by rw [G.sc]; exact G.kind) (by show ce.scope.names.lookup fn = _; rw [G.sc]; exact kf) (Calls.loadGlobal_global (by rw [G.glob]; exact I.mod.glob.keeps (G.inGen t ok).base) gf ?_) df)
  refine PySem.W.callWith_K (h₀ := X.base) I.ok.mod.kin kp ?_ (hs ce) (by rfl)
  rw [hs]
  show wpAny _ B (spliced ((false, eval e1 ce) :: [])) _ _ t
  refine Calls.spliced_cons (thn (h1 _ t ok) fun u1 t1 ⟨⟨x, r1, p1⟩, k1⟩ => ?_)
  have ok1 := G.next _ _ ok k1
  refine Calls.spliced_nil ⟨I.ok.mod.kin.keeps (G.inGen t1 ok1).base, ?_⟩
  exact gen_call (q := P) I F bd hr (G.inGen t1 ok1) G.b0 G.bf G.bd G.bu (.cons r1 .nil) (ask x p1) fun v2 u2 t2 qv rv2 kg => ⟨⟨v2, rv2, qv⟩, k1.trans kg⟩
theorem ge_call2 {fn : Str} {p0 pos0 : Pos} {k : Nat} {ps : List Str} {sp : Sp} (G : GF X H h σ scope ce B mp Ok) (D : Df X.prog X.w X.K X.mg X.base fn k ps sp) (hr : Room (k + 1) X.A) (kf : scope.names.lookup fn = some .globalImplicit) (h1 : GE X ce B Ok e1 P1) (h2 : GE X ce B Ok e2 P2)
    (ask : ∀ x y, P1 x → P2 y → sp [x, y] (fast h H) (fun v _ => P v) E0) (df : (fn == ("__debug__" : Str)) = false := by decide) (hs : ∀ env, starEach [e1, e2] env = (false, eval e1 env) :: starEach [e2] env := by intro _; rfl) (hs2 : ∀ env, starEach [e2] env = (false, eval e2 env) :: starEach [] env := by intro _; rfl) : GE X ce B Ok (.Call (.Name fn p0) [e1, e2] [] pos0) P := fun Ex t ok => by
  obtain ⟨f, fd, gf, kp, bd, F, _⟩ := D.ex
  obtain ⟨pins, s, rfl, I⟩ := G.inv
  refine wpAny_Call_Name_kw (Calls.Name_function_global (by rw [G.sc]; exact G.kind) (by show ce.scope.names.lookup fn = _; rw [G.sc]; exact kf) (Calls.loadGlobal_global (by rw [G.glob]; exact I.mod.glob.keeps (G.inGen t ok).base) gf ?_) df)
  refine PySem.W.callWith_K (h₀ := X.base) I.ok.mod.kin kp ?_ (hs ce) (by rw [hs2]; rfl)
  rw [hs, hs2]
  show wpAny _ B (spliced ((false, eval e1 ce) :: (false, eval e2 ce) :: [])) _ _ t
  refine Calls.spliced_cons (thn (h1 _ t ok) fun u1 t1 ⟨⟨x, r1, p1⟩, k1⟩ => ?_)
  have ok1 := G.next _ _ ok k1
  refine Calls.spliced_cons (thn (h2 _ t1 ok1) fun u2 t2 ⟨⟨y, r2, p2⟩, k2⟩ => ?_)
  have ok2 := G.next _ _ ok1 k2
  refine Calls.spliced_nil ⟨I.ok.mod.kin.keeps (G.inGen t2 ok2).base, ?_⟩
  exact gen_call (q := P) I F bd hr (G.inGen t2 ok2) G.b0 G.bf G.bd G.bu (.cons r1 (.cons r2 .nil)) (ask x y p1 p2) fun v2 u2 t2 qv rv2 kg => ⟨⟨v2, rv2, qv⟩, (k1.trans k2).trans kg⟩
end
/-- an iterator that stands ready -/
structure ItReady (X : Cx) (P : Addr) (h0 hz : Heap) (tgt : Expr) (scope : Scope) (I : Addr) (fp wr : List Addr) (n : Nat) (Bd : Nat → (Str → Option Value) → Prop) (St : Nat → Heap → Prop) : Prop where
  keep : ∀ b o, h0.get? b = some o → hz.get? b = some o
  grow : h0.objs.size ≤ hz.objs.size
  draws : ∀ ce : Env, ce.scope = scope → ce.locals ∉ fp → Draws2 X.prog X.w tgt ce I fp wr n Bd St
  sub : ∀ b ∈ wr, b ∈ fp
  st : St 0 hz
  low : ∀ b ∈ fp, b < hz.objs.size
  high : ∀ b ∈ wr, h0.objs.size ≤ b
  offP : ∀ b ∈ fp, b ≠ P
  offF : ∀ b ∈ fp, b ∉ frs X.stack
structure GenS0 (env : Env) (scope : Scope) : Prop where
  kind : scope.kind = .function
  (co : scope.isCoroutine = false)
  (cell : ∀ y ∈ scope.names, y.2 ≠ .cell)
  (dot : scope.names.lookup (".0" : Str) = some NameKind.local)
  (free : ∀ y ∈ scope.names, y.2 = .free → ∃ c, env.cells.lookup y.1 = some c)
section
variable {X : Cx}
theorem gen_core {pins : List (Addr × Obj)} {σ : L2.St} {H1 : Hp} {s0 : Shared} {hz : Heap} {c P I : Addr} {elt iter tgt : Expr} {scope : Scope} {gpos : Pos} {fp wr : List Addr} {n : Nat} {Bd : Nat → (Str → Option Value) → Prop} {St : Nat → Heap → Prop} {E : Value → Shared → Prop} {F : Nat → V → Prop} {Qg : Value → Shared → Prop} {k : Nat}
    (I0 : Inv X pins σ H1 s0) (hr : Room k X.A) (TB : TabB X.base X.mg c P) (hcode : X.env.code = .ref c) (S : GenS0 X.env scope) (rdy : ItReady X P s0.heap hz tgt scope I fp wr n Bd St) (tab : TabG H1 P)
    (helt : ∀ (ce : Env) (B : Around) (mp : Str → Option Value) (Ok : Shared → Prop) (i : Nat), Bd i mp → GF X H1 s0.heap σ scope ce B mp Ok → GE X ce B Ok elt (F i))
    (want : ∀ (g : Addr) (t5 : Shared) (wr' fs' : List Addr) (St' : Nat → Shared → Prop), WalksV X.prog X.w X.A.in4 g wr' fs' n (fun j y => ∃ v, RelV v y ∧ F j v) St' → St' 0 t5 → (∀ t', MovedV wr' fs' t5 t' → ∃ H2, Tabbed P H1 H2 ∧ Inv X pins σ H2 t') → Qg (.ref g) t5) :
    hz.NoLimit ∧ wpAny (model X.prog X.w) X.A (genexprCode X.env gpos (X.env.qual ++ "<genexpr>") scope) (fun code t3 => wpAny (model X.prog X.w) X.A (builtinsFor X.env.globals X.env.builtins) (fun bi t4 => MadeD X.prog X.w X.A X.env elt iter tgt [] scope (cloFrom X.env.cells scope.names []) gpos Qg (.ref I) code bi t4) E t3) E { s0 with heap := hz } := by
  obtain ⟨ptab, hP, htr⟩ := tab
  have I1 : Inv X pins σ H1 { s0 with heap := hz } := I0.kept (t' := s0.toks) rdy.keep
  have atP : s0.heap.get? P = some { cls := .none, data := .fields ptab } := I0.hok P _ hP
  have ltP : P < s0.heap.objs.size := Heap.lt_size atP
  have atP2 : hz.get? P = some { cls := .none, data := .fields ptab } := rdy.keep _ _ atP
  have hdC : PySem.W.CodeHd hz c P := TB.code.keeps fun b u e => I1.bk b u e
  have nol : hz.NoLimit := I1.nolimit
  have csB : ∃ o, X.base.get? cStatics = some o := by
    obtain ⟨_, q, _⟩ := I0.ok.mod.nolimit
    obtain ⟨o, es, ep, ho, _⟩ := q
    exact ⟨o, ho⟩
  have notFr : ∀ b o, X.base.get? b = some o → b ∉ frs X.stack := fun b o it z => by
    have := (frs_apart I0.stack z).1
    rw [it] at this
    cases this
  have frLow : ∀ b ∈ frs X.stack, b < s0.heap.objs.size := fun b z => by
    obtain ⟨_, o, ho, _⟩ := frs_apart I0.stack z
    exact Heap.lt_size ho
  have frNotP : P ∉ frs X.stack := fun z => by
    have := I0.stkFree P z
    rw [hP] at this
    cases this
  have cont : ∀ (code : Value) (hp3 : Heap) (tk : Nat) (ptab3 : Array Value), Heap.ExtBut P hz hp3 → hz.objs.size ≤ hp3.objs.size → hp3.get? P = some { cls := .none, data := .fields ptab3 } → (∃ more, ptab3 = ptab ++ more) → TriplesOk ptab3.toList →
      wpAny (model X.prog X.w) X.A (builtinsFor X.env.globals X.env.builtins) (fun bi t4 => MadeD X.prog X.w X.A X.env elt iter tgt [] scope (cloFrom X.env.cells scope.names []) gpos Qg (.ref I) code bi t4) E { s0 with heap := hp3, toks := tk } := by
    intro code hp3 tk ptab3 hx3 sz3 atP3 grown ok3
    (obtain ⟨bm, ob, e1, e2, e3, e4, e5, e6, e7, e8⟩ := TB.bm)
    have keep3 : ∀ b u, b ≠ P → hz.get? b = some u → hp3.get? b = some u := fun b u nb it => hx3 b u nb it
    have keep0 : ∀ b u, b ≠ P → s0.heap.get? b = some u → hp3.get? b = some u := fun b u nb it => hx3 b u nb (rdy.keep b u it)
    have baseNP : ∀ b o, X.base.get? b = some o → b ≠ P := fun b o it z => by
      have := (I0.bs b o it).2
      rw [z, hP] at this
      cases this
    obtain ⟨oCs, csAt⟩ := csB
    have csLow : cStatics < s0.heap.objs.size := Heap.lt_size (I0.bk _ _ csAt)
    have lowN : s0.heap.objs.size ≤ hp3.objs.size := Nat.le_trans rdy.grow sz3
    have fpLow : ∀ b ∈ fp, b < hp3.objs.size := fun b hb => Nat.lt_of_lt_of_le (rdy.low b hb) sz3
    have pall : passing (fun _ => true) n 0 = List.range n := GxR.passing_true _
    have wrHigh : ∀ b ∈ wr, s0.heap.objs.size ≤ b ∧ b < hp3.objs.size := fun b hb => ⟨rdy.high b hb, fpLow b (rdy.sub b hb)⟩
    refine wpAny_builtinsFor (m := X.mg) (by rw [I0.ok.glob]; exact (I1.mod.glob.keeps I1.bk).extBut hx3 TB.gP) e1 e2 (keep3 _ _ e4 (I1.bk _ _ e5)) e6 e7 e8 ?_
    have dr := rdy.draws (genEnv scope (cloFrom X.env.cells scope.names []) hp3.objs.size code builtinsNs X.env) rfl (fun z => Nat.lt_irrefl _ (fpLow _ z))
    refine ⟨I0.bare, I, fp, wr, hp3.objs.size :: frs X.stack, n, Bd, St, (fun _ => true), (fun i y => ∃ v, RelV v y ∧ F i v), rfl, dr, dr.frame 0 _ _ rdy.st (fun b hb o it => keep3 b o (rdy.offP b hb) it), fpLow, nol.extBut hx3 (baseNP _ _ csAt), ?_, ?_, ?_, ?_, ?_, ?_⟩
    · intro z
      exact absurd (wrHigh _ z).1 (Nat.not_le_of_lt csLow)
    · intro b hb
      show b ≤ hp3.objs.size
      rcases List.mem_cons.mp hb with (z | z)
      · rw [z]
        exact Nat.le_refl _
      · exact Nat.le_of_lt (Nat.lt_of_lt_of_le (frLow b z) lowN)
    · intro b hb hf
      rcases List.mem_cons.mp hf with (y | y)
      · have := fpLow b hb
        rw [y] at this
        exact Nat.lt_irrefl _ this
      · exact rdy.offF b hb y
    · intro z
      rcases List.mem_cons.mp z with (y | y)
      · have e : cStatics = hp3.objs.size := y
        rw [e] at csLow
        exact absurd csLow (Nat.not_lt_of_le lowN)
      · exact notFr _ _ csAt y
    · intro ref href
      refine ⟨fun B Ex i t mp hB fB dB uB bT bd ns kept => tests_none ⟨rfl, ⟨rfl, bT, KM.exact (fun _ _ it => it)⟩⟩, fun B Ex i t mp hB fB dB uB bT bd _ ns kept => ?_⟩
      have fB' : B.frames = some (genEnv scope (cloFrom X.env.cells scope.names []) hp3.objs.size code builtinsNs X.env :: X.stack) := by
        have e5 : X.A.in4.in1.frames = some X.stack := I0.ok.frames
        rw [fB]
        simp only [Around.over, List.map_nil]
        rw [e5]
        rfl
      have bszS : X.base.objs.size ≤ s0.heap.objs.size := Nat.le_trans I0.ok.bsz I0.sz
      have both : ∀ u : Heap, KeptO (List.range hp3.objs.size) wr (hp3.objs.size :: frs X.stack) ref u → ∀ b o, b ≠ P → s0.heap.get? b = some o → (b ∉ frs X.stack → u.get? b = some o) ∧ ∃ sl, u.get? b = some { o with slots := sl } := fun u kept b o nb it => by
        have lt := Heap.lt_size it
        have ltc : b < hp3.objs.size := Nat.lt_of_lt_of_le lt lowN
        obtain ⟨p1, p2⟩ := kept b (List.mem_range.mpr ltc) (fun z => absurd lt (Nat.not_lt_of_le (wrHigh b z).1)) o (href _ _ (keep0 b o nb it))
        exact ⟨fun nf => p1 fun z => (List.mem_cons.mp z).elim (fun y => Nat.ne_of_lt ltc y) nf, p2⟩
      have G : GF X H1 s0.heap σ scope (genEnv scope (cloFrom X.env.cells scope.names []) hp3.objs.size code builtinsNs X.env) B mp (fun u => AllBare u.gens ∧ u.heap.Ns hp3.objs.size mp ∧ KeptO (List.range hp3.objs.size) wr (hp3.objs.size :: frs X.stack) ref u.heap) := by
        refine ⟨⟨pins, s0, rfl, I0⟩, hB, fB', dB, uB, rfl, S.kind, I0.ok.glob, fun u ⟨ub, un, uk⟩ => ?_, fun u ok => ok.2.1, fun u u' ⟨ub, un, uk⟩ kg => ⟨kg.bare, kg.heap.ns un, uk.km kg.heap⟩, fun u n ok => ok, fun cn ic vc Cc hvc => ?_⟩
        · have bu := both u.heap uk
          have baseT : ∀ b o, X.base.get? b = some o → u.heap.get? b = some o := fun b o it => (bu b o (baseNP b o it) (I0.bk b o it)).1 (notFr b o it)
          obtain ⟨oC, esC, epC, atC, datC, moreC⟩ := id un
          have ltC : hp3.objs.size < u.heap.objs.size := Heap.lt_size atC
          refine ⟨baseT, Nat.le_trans bszS (Nat.le_of_lt (Nat.lt_of_le_of_lt lowN ltC)), ⟨?_, ⟨hp3.objs.size, oC, rfl, ?_, atC, fun vs z => ?_⟩, ?_⟩, fun b hb => ?_, ?_, ub⟩
          · show scope.kind ≠ .module
            rw [S.kind]
            exact fun z => nomatch z
          · cases eb : X.base.get? hp3.objs.size with
            | none => rfl
            | some o =>
              have := Nat.lt_of_lt_of_le (Heap.lt_size eb) bszS
              exact absurd this (Nat.not_lt_of_le lowN)
          · rw [datC] at z
            cases z
          · refine Heap.FunFrames.of_keeps (fun b o it nf => ?_) I0.stack
            have nb : b ≠ P := fun z => by
              rw [z, atP] at it
              cases it
              exact nf _ rfl
            obtain ⟨_, sl, z⟩ := bu b o nb it
            exact ⟨_, z, rfl⟩
          · rcases List.mem_cons.mp hb with (z | z)
            · rw [z]
              exact I0.hok.fresh lowN
            · exact I0.stkFree b z
          · refine fast_ok I0.hok fun b u2 o e nt it => (bu b o (fun z => ?_) it).1 fun z => ?_
            · rw [z, hP] at e
              exact nt ptab (Option.some.inj e).symm
            · have := I0.stkFree b z
              rw [e] at this
              cases this
        · obtain ⟨cc, uc, rc, look, cellAt⟩ := Cc.at I0 hvc
          refine ⟨uc, rc, fun p Ex R u ok q => Cc.eval S.kind rfl rfl look ?_ q⟩
          obtain ⟨o, ho, hd⟩ := cellAt
          have nb : cc ≠ P := fun z => by
            rw [z, atP] at ho
            cases ho
            cases hd
          obtain ⟨_, sl, z⟩ := both u.heap ok.2.2 cc o nb ho
          exact ⟨_, z, hd⟩
      exact helt _ B mp _ i bd G Ex t ⟨bT, ns, kept⟩
    · intro g hp5 tk5 gs gsb ltg szg k5 Wk at5
      have hg5 : hp3.objs.size < hp5.objs.size := by
        rw [szg]
        exact Nat.lt_succ_of_lt ltg
      have len : (passing (fun _ => true) n 0).length = n := by rw [pall, List.length_range]
      rw [len] at Wk
      refine want g _ _ _ _ ⟨fun i t Q E hi st kq => Wk.item i t Q E hi st fun v t' hy => kq v t' ?_, Wk.done, Wk.self⟩ at5 fun t' mv => ?_
      · obtain ⟨i2, hi2, hf⟩ := hy
        rw [pall, List.getElem?_range hi] at hi2
        rw [Option.some.inj hi2]
        exact hf
      · obtain ⟨more, rfl⟩ := grown
        have offW : ∀ b, b < s0.heap.objs.size → b ∉ hp3.objs.size :: wr := fun b lt z => by
          rcases List.mem_cons.mp z with (y | y)
          · rw [y] at lt
            exact absurd lt (Nat.not_lt_of_le lowN)
          · exact absurd lt (Nat.not_lt_of_le (wrHigh _ y).1)
        have kB : ∀ b o, b < s0.heap.objs.size → hp3.get? b = some o → (b ∉ frs X.stack → t'.heap.get? b = some o) ∧ ∃ sl, t'.heap.get? b = some { o with slots := sl } := fun b o lt it => by
          obtain ⟨p1, p2⟩ := mv.heap b o (offW b lt) (k5 b o it)
          exact ⟨fun nf => p1 fun z => (List.mem_cons.mp z).elim (fun y => absurd (Nat.lt_of_lt_of_le lt lowN) (by rw [y]; exact Nat.lt_irrefl _)) nf, p2⟩
        have J := inv_gen (t' := t') (more := more) I0 hP mv.os mv.bare (fun b o nb it => kB b o (Heap.lt_size it) (keep0 b o nb it)) ((kB P _ ltP atP3).1 frNotP)
        exact ⟨_, ⟨⟨ptab ++ more, upd_same, ok3⟩, fun b nb => upd_ne nb⟩, J⟩
  refine ⟨nol, ?_⟩
  cases among : codeAmong gpos ptab.toList with
  | none =>
    refine wpAny_genexprCodeX hcode (hdC.code atP2 htr) (hdC.tab atP2) among fun c2 hp2 tk hx2 ge2 lt2 isC _ tabA _ => ?_
    obtain ⟨o1, vs, f1, tf, fl, tg, inF, tx, tt, op, _, _, _, _, _, _, _, _, _, trs, _⟩ := isC
    exact cont _ hp2 tk _ hx2 (Nat.le_trans ge2 (Nat.le_of_lt lt2)) tabA.2 ⟨_, rfl⟩ trs
  | some cv =>
    refine wpAny_genexprCode_hit hcode (hdC.code atP2 htr) among ?_
    exact cont cv hz s0.toks ptab (Heap.ExtBut.refl _ _) (Nat.le_refl _) atP2 ⟨#[], by simp⟩ htr
end
end V3
/-! all(.. for i, x in enumerate(t)), the element told by small rules. -/
namespace V3
open PySem.Spec PySem L2 PyProof.Rows GxR RZ
section
variable {X : Cx}
/-- all over a generator that stands -/
theorem all_end {pins : List (Addr × Obj)} {σ : L2.St} {H1 : Hp} {P g : Addr} {t5 : Shared} {wr' fs' : List Addr} {St' : Nat → Shared → Prop} {n : Nat} {tr : Nat → Bool} {pos : Pos} {Q : VK}
    (Wk : WalksV X.prog X.w X.A.in4 g wr' fs' n (fun j y => ∃ v, RelV v y ∧ v = .bl (tr j)) St') (st : St' 0 t5) (on : ∀ t', MovedV wr' fs' t5 t' → ∃ H2, Tabbed P H1 H2 ∧ Inv X pins σ H2 t') (q : ∀ H2, Tabbed P H1 H2 → Q (.bl ((List.range n).all tr)) H2) :
    wpAny (model X.prog X.w) X.A (spliced (backTo pos (starEach [] X.env))) (fun vs t6 => wpAny (model X.prog X.w) X.A (call (.builtin "all") (.ref g :: vs)) (EP X pins σ Q) X.xe t6) X.xe t5 := by
  refine Calls.spliced_nil (call_allV ?_)
  refine Wk.in4.self _ _ _ st ⟨g, _, _, _, _, _, tr, rfl, Wk.in4, st, fun j y hy => ?_, fun t' mv => ?_⟩
  · obtain ⟨v, r, rfl⟩ := hy
    exact r
  · obtain ⟨H2, tb, J⟩ := on t' mv
    exact ⟨.bl _, H2, J, rfl, q H2 tb⟩
abbrev genEn (a b : Str) (pa pb tp pe pe2 gpos : Pos) (kk : Nat) (e1 elt : Expr) (scope : Scope) : Expr := .GeneratorExp elt [⟨.Tuple [.Name a pa, .Name b pb] kk tp, .Call (.Name "enumerate" pe) [e1] [] pe2, [], 0⟩] scope gpos
def tAllEn (X : Cx) (P : Addr) (scope : Scope) (elt : Expr) (a b : Str) (ta : TA) : TE := fun σ H Q => ta σ H fun vs H1 => ∃ (p : Addr) (xs : List V) (tr : Nat → Bool), vs = [.ref p] ∧ SqT X.K H1 p xs ∧ TabG H1 P ∧
  (∀ (h : Heap), HOk X.prog X.w H1 h → ∀ (ce : Env) (B : Around) (mp : Str → Option Value) (Ok : Shared → Prop) (i : Nat) (x : V) (ti : Tok) (u : Value), xs[i]? = some x → mp a = some (.int (i : Int) ti) → mp b = some u → RelV x u → GF X H1 h σ scope ce B mp Ok → GE X ce B Ok elt (· = .bl (tr i))) ∧
  ∀ H2, Tabbed P H1 H2 → Q (.bl ((List.range xs.length).all tr)) H2
theorem pe_allEn {c P : Addr} {e1 elt : Expr} {a b : Str} {pa pb tp p pe pe2 gpos pos : Pos} {kk : Nat} {scope : Scope} {ta : TA} {k : Nat}
    (hr : Room k X.A) (hg : Gl X "all") (hma : X.mg "all" = none) (hge : Gl X "enumerate") (hme : X.mg "enumerate" = none) (TB : TabB X.base X.mg c P) (hcode : X.env.code = .ref c) (S : GenS0 X.env scope) (ka : scope.names.lookup a = some .local) (kb : scope.names.lookup b = some .local) (ab : (a = b) = False) (ha : PA X [e1] ta)
    (nofold : ∀ v, genFold (.Call (.Name "enumerate" pe) [e1] [] pe2) X.env v = pure v)
    (hs : starEach [e1] X.env = [(false, eval e1 X.env)] := by rfl)
    (he : starEach [genEn a b pa pb tp pe pe2 gpos kk e1 elt scope] X.env = (false, eval (genEn a b pa pb tp pe pe2 gpos kk e1 elt scope) X.env) :: starEach [] X.env := by rfl) :
    PE X (.Call (.Name "all" p) [genEn a b pa pb tp pe pe2 gpos kk e1 elt scope] [] pos) (tAllEn X P scope elt a b ta) := by
  (refine ⟨fun pins s σ H Q I h => ?_⟩)
  refine wpAny_Call_Name_kw (ld_blt (u := .builtin "all") I hg hma (by decide +kernel) ?_)
  refine PyProof.Rows.callWith_builtin1 (id := "all") ?_ he (by rfl)
  rw [he]
  show wpAny _ _ (spliced ((false, eval (genEn a b pa pb tp pe pe2 gpos kk e1 elt scope) X.env) :: backTo pos (starEach [] X.env))) _ _ s
  refine Calls.spliced_cons (genexpD hr.hd S.co (closure_ok S.free) S.cell S.dot S.kind (by have := hr.dp; omega) ?_ nofold)
  refine Call_ (ld_blt I hge hme boot_enumerate (PyProof.Rows.callWith_type1 (thn (ha.run pe2 pins s σ H _ I h) fun us s1 ⟨vs, H1, I1, r1, q1⟩ => ?_) hs rfl))
  obtain ⟨l, xs, tr, rfl, hsq, tab, ask, q⟩ := q1
  cases r1 with
  | cons r rr =>
    cases rr
    cases r
    obtain ⟨its, rv, pl, hz⟩ := I1.tuple hsq
    have ht : s1.heap.IsTuple l its.toArray := by
      obtain ⟨ob, h1, h2, n, h3⟩ := pl
      exact ⟨ob, h1, h2, n, h3⟩
    have hal : l < s1.heap.objs.size := by obtain ⟨_, q0, _⟩ := ht; exact Heap.lt_size q0
    refine call_enum_begins (begins_tuple l its.toArray) ht fun hq isE hit hsz hk => wpAny_pyIter_enum isE ?_
    have lenE : its.toArray.size = xs.length := by
      rw [List.size_toArray]
      exact rv.length.symm
    obtain ⟨ptab, hP, htr⟩ := id tab
    have atP : s1.heap.get? P = some { cls := .none, data := .fields ptab } := I1.hok P _ hP
    have ltP : P < s1.heap.objs.size := Heap.lt_size atP
    have lNP : l ≠ P := fun z => by
      obtain ⟨ob2, q1, _, _, q4⟩ := ht
      rw [z, atP] at q1
      cases q1
      cases q4
    have notFr : ∀ b o, X.base.get? b = some o → b ∉ frs X.stack := fun b o it z => by
      have := (frs_apart I1.stack z).1
      rw [it] at this
      cases this
    have frLow : ∀ b ∈ frs X.stack, b < s1.heap.objs.size := fun b z => by
      obtain ⟨_, o, ho, _⟩ := frs_apart I1.stack z
      exact Heap.lt_size ho
    have lFr : l ∉ frs X.stack := fun z => by
      rcases hsq with ((e | ⟨o, e⟩) | ⟨o, it2, n2, e, _⟩)
      · have := I1.stkFree l z
        rw [e] at this
        cases this
      · have := I1.stkFree l z
        rw [e] at this
        cases this
      · exact notFr l o (I1.ok.mod.kin l o e) z
    have rdy : ItReady X P s1.heap hq (.Tuple [.Name a pa, .Name b pb] kk tp) scope (s1.heap.objs.size + 1) [s1.heap.objs.size + 1, s1.heap.objs.size, l] [s1.heap.objs.size + 1, s1.heap.objs.size] its.toArray.size
        (fun i mp => ∃ x y, (∃ t x', its.toArray[i]? = some x' ∧ #[x, y] = #[.int (i : Int) t, x']) ∧ mp a = some x ∧ mp b = some y) (fun i h => (∃ old, IsEnum h (s1.heap.objs.size + 1) s1.heap.objs.size i old) ∧ h.IsTupleIter s1.heap.objs.size l i ∧ h.IsTuple l its.toArray) := by
      refine ⟨hk, by rw [hsz]; exact Nat.le_add_right _ _, fun ce hsc hlo => ?_, fun b hb => ?_, ⟨⟨_, isE⟩, ⟨_, hit, rfl, rfl⟩, ?_⟩, fun b hb => ?_, fun b hb => ?_, fun b hb => ?_, fun b hb => ?_⟩
      · refine Draws2.pair (Mid := fun i T h => (∃ x, IsEnumOut h (s1.heap.objs.size + 1) s1.heap.objs.size ((i : Int) + 1) x T) ∧ (h.IsTupleIter s1.heap.objs.size l (i + 1) ∧ h.IsTuple l its.toArray) ∧ T ≠ s1.heap.objs.size + 1 ∧ T ≠ s1.heap.objs.size) (fun B hB => WalksT.enumerateD (A := B) (Draws.tuple (by exact hB) s1.heap.objs.size l (Nat.ne_of_lt hal) its.toArray) (s1.heap.objs.size + 1) (Nat.succ_ne_self _) (fun z => ?_) (List.mem_cons_self ..)) (fun i vals pt => ?_) (by show ce.scope.names.lookup a = _; rw [hsc]; exact ka) (by show ce.scope.names.lookup b = _; rw [hsc]; exact kb) ab (by rw [hsc]; simp [S.kind]) hlo
        · simp only [List.mem_cons, List.not_mem_nil, or_false] at z
          rcases z with z | z
          · exact Nat.succ_ne_self _ z
          · exact Nat.ne_of_lt (Nat.lt_succ_of_lt hal) z.symm
        · obtain ⟨t, x, _, e⟩ := pt
          exact ⟨_, _, e⟩
      · simp only [List.mem_cons, List.not_mem_nil, or_false] at hb ⊢
        rcases hb with z | z
        · exact .inl z
        · exact .inr (.inl z)
      · obtain ⟨ob, h1, h2, n, h3⟩ := ht
        exact ⟨ob, hk _ _ h1, h2, n, h3⟩
      · rw [hsz]
        (simp only [List.mem_cons, List.not_mem_nil, or_false] at hb)
        rcases hb with z | z | z <;> subst z
        · exact Nat.lt_succ_self _
        · (exact Nat.lt_succ_of_lt (Nat.lt_succ_self _))
        · exact Nat.lt_succ_of_lt (Nat.lt_succ_of_lt hal)
      · simp only [List.mem_cons, List.not_mem_nil, or_false] at hb
        rcases hb with z | z <;> subst z
        · exact Nat.le_add_right _ _
        · exact Nat.le_refl _
      · simp only [List.mem_cons, List.not_mem_nil, or_false] at hb
        rcases hb with z | z | z <;> subst z
        · exact Nat.ne_of_gt (Nat.lt_succ_of_lt ltP)
        · exact Nat.ne_of_gt ltP
        · exact lNP
      · intro z
        (simp only [List.mem_cons, List.not_mem_nil, or_false] at hb)
        rcases hb with y | y | y <;> subst y
        · exact absurd (frLow _ z) (Nat.not_lt_of_le (Nat.le_add_right _ _))
        · exact absurd (frLow _ z) (Nat.not_lt_of_le (Nat.le_refl _))
        · exact lFr z
    refine gen_core (F := fun i v => v = .bl (tr i)) I1 hr TB hcode S rdy tab (fun ce B mp Ok i bd G => ?_) (fun g t5 wr' fs' St' Wk st on => all_end (P := P) (H1 := H1) Wk st on fun H2 tb => ?_)
    · obtain ⟨x, y, ⟨t, x', hx, exy⟩, ma, mb⟩ := bd
      have e1 : x = .int (i : Int) t ∧ y = x' := by simpa using exy
      obtain ⟨rfl, rfl⟩ := e1
      have li : i < xs.length := by
        have := (Array.getElem?_eq_some_iff.mp hx).1
        omega
      obtain ⟨u, hu, ru⟩ := rv.get (List.getElem?_eq_getElem li)
      have eu : u = y := by
        have q : its.toArray[i]? = some u := by simpa using hu
        rw [q] at hx
        exact Option.some.inj hx
      subst eu
      exact ask _ I1.hok ce B mp Ok i _ t u (List.getElem?_eq_getElem li) ma mb ru G
    · rw [lenE]
      exact q H2 tb
end
end V3
/-! t[::-1] of a tuple; parts of tuples of data, and one behind the other. -/
namespace HT
open PySem PySem.Spec PyProof.Rows PySem.Calls
section
variable {prog : Program} {A : Around}
variable {w : World} {s : Shared}
variable {E : Value → Shared → Prop}
theorem getItem_tuple_rev {t sl : Addr} {items : Array Value} {vs : Value} {Q : Value → Shared → Prop} (ht : IsTup s.heap t items) (hs : s.heap.IsSliceOf sl .none .none vs) (ps : IsPart vs (some (-1)))
    (h : Q (.ref s.heap.objs.size) { s with heap := s.heap.push { cls := .type "tuple", data := .seq items.toList.reverse.toArray } }) (hsz : items.size ≤ sizeLine) :
    wpAny (model prog w) A (getItem (.ref t) (.ref sl)) Q E s := by
  have htake : sizeOk (.seq items.toList.reverse.toArray) := by
    show items.toList.reverse.toArray.size ≤ sizeLine
    rw [List.size_toArray, List.length_reverse, Array.length_toList]
    exact hsz
  (obtain ⟨os, hos, hcs, hds⟩ := id hs)
  (have hTs : s.TypeIs (.ref sl) "slice" := ⟨os, hos, hcs⟩)
  unfold getItem
  (try with_reducible refine wpAny_holding ?_)
  (first | refine wpAny_bind (wpAny_pure ?_) | skip)
  (refine wpAny_bind (wpAny_sequenceKey ht.typeIs (by decide) ?_))
  refine wpAny_bind (wpAny_callSpecial?_slot (name := Str.ofString "__getitem__") ht.typeIs PyProof.Rows.slot_tuple_getitem (wpAny_call_entry PyProof.Rows.slot_tuple_getitem ht.typeIs entry_tuple_getitem ?_ (args_tuple_getitem _ _)))
  (show wpAny _ _ (Builtin.Tuple.tupleItemsOf (.ref t) >>= _) _ _ s)
  (refine wpAny_bind (tupleItemsOf_ ht ?_))
  (refine wpAny_bind (wpAny_typeOf hTs ?_))
  rw [if_pos (by decide)]
  have app : ∀ {Q2 : Int × Int × Nat → Shared → Prop} {E2 : Value → Shared → Prop} {A2 : Around}, Q2 ((items.size : Int) - 1, -1, items.size) s → wpAny (model prog w) A2 (Builtin.Slice.sliceApplied (.ref sl) (pure (items.size : Int))) Q2 E2 s := fun {Q2 E2 A2} h => by
    (unfold Builtin.Slice.sliceApplied Builtin.Slice.sliceFields)
    refine wpAny_bind (wpAny_bind (wpAny_field hos hds (x := .none) rfl (wpAny_bind (wpAny_field hos hds (x := .none) rfl (wpAny_bind (wpAny_field hos hds (x := vs) rfl (wpAny_pure ?_)))))))
    refine wpAny_bind (slicePart_ ps ?_)
    show wpAny _ _ (if ((-1 : Int) == 0) = true then _ else _) _ _ s
    rw [if_neg (by decide)]
    refine wpAny_bind (slicePart_none (wpAny_bind (slicePart_none (wpAny_bind (wpAny_pure ?_)))))
    show wpAny _ _ (match Builtin.Slice.sliceAdjust none none (-1) (items.size : Int) with | (lo, hi) => pure (lo, (-1 : Int), Builtin.Slice.slicePlaces lo hi (-1))) _ _ s
    have e1 : Builtin.Slice.sliceAdjust none none (-1) (items.size : Int) = ((items.size : Int) - 1, -1) := by
      first
        | rfl
        | simp [Builtin.Slice.sliceAdjust]
    rw [e1]
    have e2 : Builtin.Slice.slicePlaces ((items.size : Int) - 1) (-1) (-1) = items.size := by
      (unfold Builtin.Slice.slicePlaces)
      (have h1 : ¬ ((-1 : Int) > 0) := by decide)
      by_cases h : (items.size : Int) - 1 > -1
      · have e : ((items.size : Int) - 1 - -1 - 1) / (- -1) + 1 = (items.size : Int) := by
          (rw [show (- -1 : Int) = 1 by decide, Int.ediv_one])
          omega
        (simp only [h1, if_false, h, if_true, e, Int.toNat_natCast])
      · have e : items.size = 0 := by omega
        simp [e]
    show wpAny _ _ (pure ((items.size : Int) - 1, (-1 : Int), Builtin.Slice.slicePlaces ((items.size : Int) - 1) (-1) (-1))) _ _ s
    rw [e2]
    exact wpAny_pure h
  refine wpAny_bind (app ?_)
  have hno : ¬ ((((items.size : Int) - 1) == 0 && (-1 : Int) == 1 && items.size == items.size) = true) := by
    intro q
    (rw [Bool.and_eq_true, Bool.and_eq_true] at q)
    exact absurd q.1.2 (by decide)
  show wpAny _ _ (if (((items.size : Int) - 1) == 0 && (-1 : Int) == 1 && items.size == items.size) = true then _ else _) _ _ s
  rw [if_neg hno]
  have pick : ((List.range items.size).filterMap fun (m : Nat) => items[(((items.size : Int) - 1) + (m : Int) * (-1)).toNat]?).toArray = items.toList.reverse.toArray := by
    have e : (List.range items.size).filterMap (fun (m : Nat) => items[(((items.size : Int) - 1) + (m : Int) * (-1)).toNat]?) = ((List.range items.size).map fun k => items.size - 1 - k).filterMap (items[·]?) := by
      rw [List.filterMap_map]
      congr 1
      funext m
      have e : (((items.size : Int) - 1) + (m : Int) * (-1)).toNat = items.size - 1 - m := by omega
      show items[(((items.size : Int) - 1) + (m : Int) * (-1)).toNat]? = items[items.size - 1 - m]?
      rw [e]
    rw [e, PySem.W.krv_range, List.filterMap_reverse, PySem.W.krv_all]
  rw [pick]
  first | (exact wpAny_bind (m := Builtin.Tuple.tupleExact _) (wpAny_newObj_type (wpAny_pure ⟨_, rfl, wpAny_pure h⟩) htake)) | (exact wpAny_bind (m := Builtin.Tuple.tupleExact _) (wpAny_newObj_type (wpAny_bind (wpAny_pure (wpAny_pure ⟨_, rfl, wpAny_pure h⟩))) htake)) | (exact wpAny_bind (wpAny_bind (m := Builtin.Tuple.tupleExact _) (wpAny_newObj_type (wpAny_pure (wpAny_pure ⟨_, rfl, wpAny_pure h⟩)) htake))) | (exact wpAny_bind (wpAny_bind (m := Builtin.Tuple.tupleExact _) (wpAny_newObj_type (wpAny_pure ⟨_, rfl, wpAny_pure h⟩) htake)))
end
end HT
namespace V3
open PySem.Spec PySem L2 PyProof.Rows GxR RZ
section
variable {X : Cx}
def tRevT (K : PySem.W.Frag) (te : TE) : TE := fun σ H Q => te σ H fun x H1 => ∃ a xs, x = .ref a ∧ SqT K H1 a xs ∧ ∀ p, H1 p = none → Q (.ref p) (upd H1 p (.tup xs.reverse))
theorem pe_revT {e : Expr} {te : TE} {k : Nat} {p1 p2 p3 pos : Pos} (he : PE X e te) : PE X (.Subscript e (.Slice none none (some (.UnaryOp .USub (.Constant (.int 1) k p1) p2)) p3) pos) (tRevT X.K te) := by
  (refine ⟨fun pins s σ H Q I h => ?_⟩)
  (refine Subscript_ (thn (he.run pins s σ H _ I h) fun v s1 ⟨x, H1, I1, r1, q1⟩ => ?_))
  (obtain ⟨a, xs, ex, hx, q⟩ := q1)
  subst ex
  cases r1
  (have hst : PO X (some (.UnaryOp .USub (.Constant (.int 1) k p1) p2)) (tPart (tUn (rU fun i => .int (-i)) (tC (.int 1)))) := po_some (pe_un un_neg pe_int))
  (refine wpAny_Slice (thn (po_none.run pins s1 σ H1 (fun o H2 => o = none ∧ H2 = H1) I1 ⟨rfl, rfl⟩) fun vl s2 ⟨l, H2, I2, pl, el, e2⟩ => ?_))
  subst el e2
  (refine thn (po_none.run pins s2 σ H2 (fun o H3 => o = none ∧ H3 = H2) I2 ⟨rfl, rfl⟩) fun vu s3 ⟨u, H3, I3, pu, eu, e3⟩ => ?_)
  subst eu e3
  (refine thn (hst.run pins s3 σ H3 (fun o H4 => o = some (-1) ∧ H4 = H3) I3 ⟨1, rfl, -1, rfl, rfl, rfl⟩) fun vs s4 ⟨o, H4, I4, ps, eo, e4⟩ => ?_)
  subst eo e4
  cases pl
  cases pu
  have I5 : Inv X pins σ H4 { s4 with heap := s4.heap.push { cls := .type "slice", data := .fields #[.none, .none, vs] } } := I4.kept (t' := s4.toks) fun b ob q => Heap.get?_push_of_some _ q
  obtain ⟨its, r, ht, hz⟩ := I5.tuple hx
  have hlen := r.length
  show wpAny (model X.prog X.w) X.A (subscriptTail e (.Slice none none (some (.UnaryOp .USub (.Constant (.int 1) k p1) p2)) p3) (.ref a) (.ref s4.heap.objs.size)) (EP X pins σ Q) X.xe { s4 with heap := s4.heap.push { cls := .type "slice", data := .fields #[.none, .none, vs] } }
  refine tail_any (ops := [.ref a, .ref s4.heap.objs.size]) ht.typeIs (PyProof.Rows.slot_tuple_getitem.lookup) ?_ (by with_unfolding_all rfl)
  refine HT.getItem_tuple_rev ht (Heap.IsSliceOf.new _ .none .none vs) ps ?_ (by rw [List.size_toArray]; omega)
  refine ⟨.ref _, _, I5.laid (t' := s4.toks) (o := .tup xs.reverse) (fun b ob q => Heap.get?_push_of_some _ q) (Nat.le_refl _) ?_, rfl, q _ (I5.hok.fresh (Nat.le_refl _))⟩
  exact ⟨by rw [List.length_reverse]; exact hz, _, r.reverse, IsTup.new _ _⟩
end
/-! ### tuples of data -/
def cutP (ds : List PyData) (lo hi : Option Int) : List PyData := (ds.drop (HT.sIx ds.length 0 lo)).take (HT.sIx ds.length ds.length hi - HT.sIx ds.length 0 lo)
section
variable {K : PySem.W.Frag} {H H' : Hp}
theorem dtAll_takeN : ∀ {vs : List V} {ds : List PyData} (i : Nat), DpTAll K H vs ds → DpTAll K H (vs.take i) (ds.take i)
  | _, _, 0, _ => .nil
  | _, _, _ + 1, .nil => .nil
  | _, _, i + 1, .cons a b => .cons a (dtAll_takeN i b)
theorem dtAll_dropN : ∀ {vs : List V} {ds : List PyData} (i : Nat), DpTAll K H vs ds → DpTAll K H (vs.drop i) (ds.drop i)
  | _, _, 0, h => h
  | _, _, _ + 1, .nil => .nil
  | _, _, i + 1, .cons a b => dtAll_dropN i b
theorem dtAll_rev : ∀ {vs : List V} {ds : List PyData}, DpTAll K H vs ds → DpTAll K H vs.reverse ds.reverse
  | _, _, .nil => .nil
  | _, _, .cons a b => by
    (rw [List.reverse_cons, List.reverse_cons])
    exact dtAll_app (dtAll_rev b) (.cons a .nil)
theorem dtCut {xs : List V} {ds : List PyData} (h : DpTAll K H xs ds) (lo hi : Option Int) : DpTAll K H (cutV xs lo hi) (cutP ds lo hi) := by
  unfold cutV cutP
  rw [dtAll_len h]
  exact dtAll_takeN _ (dtAll_dropN _ h)
theorem cutP_whole {ds : List PyData} {lo hi : Option Int} (h : HT.sIx ds.length 0 lo = 0 ∧ HT.sIx ds.length ds.length hi = ds.length) : cutP ds lo hi = ds := by
  unfold cutP
  rw [h.1, h.2]
  simp
theorem cutP_to (ds : List PyData) (i : Nat) : cutP ds none (some (i : Int)) = ds.take i := by
  unfold cutP
  simp only [HT.sIx]
  rw [if_neg (by omega)]
  simp only [List.drop_zero, Nat.sub_zero, Int.toNat_natCast]
  rcases Nat.le_total i ds.length with h | h
  · rw [Nat.min_eq_left h]
  · rw [Nat.min_eq_right h, List.take_length, List.take_of_length_le h]
theorem cutP_from (ds : List PyData) (i : Nat) : cutP ds (some ((i : Int) + 1)) none = ds.drop (i + 1) := by
  unfold cutP
  simp only [HT.sIx]
  rw [if_neg (by omega)]
  have e : ((i : Int) + 1).toNat = i + 1 := by omega
  rw [e]
  rcases Nat.le_total (i + 1) ds.length with h | h
  · (rw [Nat.min_eq_left h, List.take_of_length_le (by simp)])
  · rw [Nat.min_eq_right h, List.drop_length, List.drop_of_length_le h]
    simp
theorem cutP_last {ds : List PyData} (h : 0 < ds.length) : cutP ds none (some (-1)) = ds.take (ds.length - 1) := by
  unfold cutP
  simp only [HT.sIx]
  rw [if_pos (by decide)]
  (simp only [List.drop_zero, Nat.sub_zero])
  congr 1
  omega
theorem dtTupQ {v : V} {ds : List PyData} (h : DpT K H v (.tuple ds)) : ∃ p xs, v = .ref p ∧ SqT K H p xs ∧ DpTAll K H xs ds := by
  cases h with
  | tup a b => exact ⟨_, _, rfl, a, b⟩
theorem slQ {v : V} {ds : List PyData} {lo hi : Option Int} {Q : VK} (an : DpT K H v (.tuple ds)) (g : ∀ H' v', Same H H' → DpT K H' v' (.tuple (cutP ds lo hi)) → Q v' H') : rSlA K v lo hi H Q := by
  obtain ⟨p, xs, rfl, hp, hA⟩ := dtTupQ an
  have l := dtAll_len hA
  refine ⟨p, xs, rfl, hp, fun h => ?_, fun _ q hq => ?_⟩
  · rw [l] at h
    refine g H _ (Same.refl _) ?_
    rw [cutP_whole h]
    exact an
  · have s : Same H (upd H q (.tup (cutV xs lo hi))) := same_upd hq
    exact g _ _ s (.tup (SqT.of upd_same) ((dtCut hA lo hi).keep (Same.kt s)))
theorem catQ {v w : V} {ds es : List PyData} {Q : VK} (x : DpT K H v (.tuple ds)) (y : DpT K H w (.tuple es)) (le : ds.length + es.length ≤ 1000) (g : ∀ H' u, Same H H' → DpT K H' u (.tuple (ds ++ es)) → Q u H') : rCatA K v w H Q := by
  obtain ⟨p, xs, rfl, hp, hA⟩ := dtTupQ x
  obtain ⟨q, ys, rfl, hq, hB⟩ := dtTupQ y
  have l := dtAll_len hA
  have m := dtAll_len hB
  refine ⟨p, q, xs, ys, rfl, rfl, hp, hq, Nat.le_trans (show xs.length + ys.length ≤ 1000 by omega) (by show 1000 ≤ sizeLine; decide), fun e => ?_, fun _ e => ?_, fun _ _ r hr => ?_⟩
  · have : ds = [] := List.length_eq_zero_iff.mp (by rw [← l, e]; rfl)
    subst this
    exact g H _ (Same.refl _) y
  · have : es = [] := List.length_eq_zero_iff.mp (by rw [← m, e]; rfl)
    subst this
    refine g H _ (Same.refl _) ?_
    rw [List.append_nil]
    exact x
  · have s : Same H (upd H r (.tup (xs ++ ys))) := same_upd hr
    exact g _ _ s (.tup (SqT.of upd_same) ((dtAll_app hA hB).keep (Same.kt s)))
/-- a part of a tuple of data, and one behind the other -/
def rSlQ (K : PySem.W.Frag) : V → Option Int → Option Int → Hp → VK → Prop := fun v lo hi H Q => ∃ ds, DpT K H v (.tuple ds) ∧ ∀ H' v', Same H H' → DpT K H' v' (.tuple (cutP ds lo hi)) → Q v' H'
theorem sl_Q {X : Cx} : SlR X (rSlQ X.K) := by
  intro pins s σ H x v vl vu lo hi sl Q I rx h1 h2 h3 h
  obtain ⟨ds, an, g⟩ := h
  exact sl_tupA pins s σ H x v vl vu lo hi sl Q I rx h1 h2 h3 (slQ an g)
def rCatQ (K : PySem.W.Frag) : R2 := fun v w H Q => ∃ ds es, DpT K H v (.tuple ds) ∧ DpT K H w (.tuple es) ∧ ds.length + es.length ≤ 1000 ∧ ∀ H' u, Same H H' → DpT K H' u (.tuple (ds ++ es)) → Q u H'
theorem op_catQ {X : Cx} : OpR X (binaryOp .Add) (rCatQ X.K) := by
  (intro pins s σ H x y v u Q I rx ry h)
  obtain ⟨ds, es, h1, h2, le, g⟩ := h
  exact op_catA pins s σ H x y v u Q I rx ry (catQ h1 h2 le g)
end
end V3
/-! A generator expression with tests over any iterator; what is known of it when it stands. -/
namespace V3
open PySem.Spec PySem L2 PyProof.Rows GxR RZ
/-- the tests of a clause, told by rules in the frame -/
def GT (X : Cx) (ce : Env) (B : Around) (Ok : Shared → Prop) (ifs : List Expr) (b : Bool) : Prop :=
  ∀ (Ex : Value → Shared → Prop) (t : Shared), Ok t → wpAny (model X.prog X.w) B (testsOf ifs ce) (fun ok t' => ok = b ∧ KeptG (frs (ce :: X.stack)) t t') Ex t
/-- a generator that stands: it walks, its own things lie below what is new, and new things written leave it -/
structure Stands (X : Cx) (g : Addr) (t5 : Shared) (wr fs : List Addr) (n : Nat) (Pv : Nat → Value → Prop) (St : Nat → Shared → Prop) : Prop where
  walk : WalksV X.prog X.w X.A.in4 g wr fs n Pv St
  st : St 0 t5
  low : g < t5.heap.objs.size
  wlow : ∀ b ∈ wr, b < t5.heap.objs.size
  flow : ∀ b ∈ fs, b < t5.heap.objs.size
  frame : ∀ i (t2 : Shared) (h' : Heap) (tk S : Nat), t5.heap.objs.size ≤ S → St i t2 → (∀ b o, b ≠ S → t2.heap.get? b = some o → h'.get? b = some o) → St i { t2 with heap := h', toks := tk }
  ty : ∀ i t2, St i t2 → t2.TypeIs (.ref g) "generator"
section
variable {X : Cx}
theorem gt_none {H : Hp} {h : Heap} {σ : L2.St} {scope : Scope} {ce : Env} {B : Around} {mp : Str → Option Value} {Ok : Shared → Prop} (G : GF X H h σ scope ce B mp Ok) : GT X ce B Ok [] true := fun Ex t ok => tests_none ⟨rfl, KeptG.refl (G.bare ok)⟩
theorem gen_coreT {pins : List (Addr × Obj)} {σ : L2.St} {H1 : Hp} {s0 : Shared} {hz : Heap} {c P I : Addr} {elt iter tgt : Expr} {ifs : List Expr} {pz : Nat → Bool} {scope : Scope} {gpos : Pos} {fp wr : List Addr} {n : Nat} {Bd : Nat → (Str → Option Value) → Prop} {St : Nat → Heap → Prop} {E : Value → Shared → Prop} {F : Nat → V → Prop} {Qg : Value → Shared → Prop} {k : Nat}
    (I0 : Inv X pins σ H1 s0) (hr : Room k X.A) (TB : TabB X.base X.mg c P) (hcode : X.env.code = .ref c) (S : GenS0 X.env scope) (rdy : ItReady X P s0.heap hz tgt scope I fp wr n Bd St) (tab : TabG H1 P)
    (htst : ∀ (ce : Env) (B : Around) (mp : Str → Option Value) (Ok : Shared → Prop) (i : Nat), Bd i mp → GF X H1 s0.heap σ scope ce B mp Ok → GT X ce B Ok ifs (pz i))
    (helt : ∀ (ce : Env) (B : Around) (mp : Str → Option Value) (Ok : Shared → Prop) (i : Nat), Bd i mp → pz i = true → GF X H1 s0.heap σ scope ce B mp Ok → GE X ce B Ok elt (F i))
    (want : ∀ (g : Addr) (t5 : Shared) (wr' fs' : List Addr) (St' : Nat → Shared → Prop), Stands X g t5 wr' fs' (passing pz n 0).length (fun j y => ∃ i, (passing pz n 0)[j]? = some i ∧ ∃ v, RelV v y ∧ F i v) St' → (∀ t', MovedV wr' fs' t5 t' → ∃ H2, Tabbed P H1 H2 ∧ Inv X pins σ H2 t') → Qg (.ref g) t5) :
    hz.NoLimit ∧ wpAny (model X.prog X.w) X.A (genexprCode X.env gpos (X.env.qual ++ "<genexpr>") scope) (fun code t3 => wpAny (model X.prog X.w) X.A (builtinsFor X.env.globals X.env.builtins) (fun bi t4 => MadeD X.prog X.w X.A X.env elt iter tgt ifs scope (cloFrom X.env.cells scope.names []) gpos Qg (.ref I) code bi t4) E t3) E { s0 with heap := hz } := by
  obtain ⟨ptab, hP, htr⟩ := tab
  have I1 : Inv X pins σ H1 { s0 with heap := hz } := I0.kept (t' := s0.toks) rdy.keep
  have atP : s0.heap.get? P = some { cls := .none, data := .fields ptab } := I0.hok P _ hP
  have ltP : P < s0.heap.objs.size := Heap.lt_size atP
  have atP2 : hz.get? P = some { cls := .none, data := .fields ptab } := rdy.keep _ _ atP
  have hdC : PySem.W.CodeHd hz c P := TB.code.keeps fun b u e => I1.bk b u e
  have nol : hz.NoLimit := I1.nolimit
  have csB : ∃ o, X.base.get? cStatics = some o := by
    obtain ⟨_, q, _⟩ := I0.ok.mod.nolimit
    obtain ⟨o, es, ep, ho, _⟩ := q
    exact ⟨o, ho⟩
  have notFr : ∀ b o, X.base.get? b = some o → b ∉ frs X.stack := fun b o it z => by
    have := (frs_apart I0.stack z).1
    rw [it] at this
    cases this
  have frLow : ∀ b ∈ frs X.stack, b < s0.heap.objs.size := fun b z => by
    obtain ⟨_, o, ho, _⟩ := frs_apart I0.stack z
    exact Heap.lt_size ho
  have frNotP : P ∉ frs X.stack := fun z => by
    have := I0.stkFree P z
    rw [hP] at this
    cases this
  have cont : ∀ (code : Value) (hp3 : Heap) (tk : Nat) (ptab3 : Array Value), Heap.ExtBut P hz hp3 → hz.objs.size ≤ hp3.objs.size → hp3.get? P = some { cls := .none, data := .fields ptab3 } → (∃ more, ptab3 = ptab ++ more) → TriplesOk ptab3.toList →
      wpAny (model X.prog X.w) X.A (builtinsFor X.env.globals X.env.builtins) (fun bi t4 => MadeD X.prog X.w X.A X.env elt iter tgt ifs scope (cloFrom X.env.cells scope.names []) gpos Qg (.ref I) code bi t4) E { s0 with heap := hp3, toks := tk } := by
    intro code hp3 tk ptab3 hx3 sz3 atP3 grown ok3
    (obtain ⟨bm, ob, e1, e2, e3, e4, e5, e6, e7, e8⟩ := TB.bm)
    have keep3 : ∀ b u, b ≠ P → hz.get? b = some u → hp3.get? b = some u := fun b u nb it => hx3 b u nb it
    have keep0 : ∀ b u, b ≠ P → s0.heap.get? b = some u → hp3.get? b = some u := fun b u nb it => hx3 b u nb (rdy.keep b u it)
    have baseNP : ∀ b o, X.base.get? b = some o → b ≠ P := fun b o it z => by
      have := (I0.bs b o it).2
      rw [z, hP] at this
      cases this
    obtain ⟨oCs, csAt⟩ := csB
    have csLow : cStatics < s0.heap.objs.size := Heap.lt_size (I0.bk _ _ csAt)
    have lowN : s0.heap.objs.size ≤ hp3.objs.size := Nat.le_trans rdy.grow sz3
    have fpLow : ∀ b ∈ fp, b < hp3.objs.size := fun b hb => Nat.lt_of_lt_of_le (rdy.low b hb) sz3
    have wrHigh : ∀ b ∈ wr, s0.heap.objs.size ≤ b ∧ b < hp3.objs.size := fun b hb => ⟨rdy.high b hb, fpLow b (rdy.sub b hb)⟩
    refine wpAny_builtinsFor (m := X.mg) (by rw [I0.ok.glob]; exact (I1.mod.glob.keeps I1.bk).extBut hx3 TB.gP) e1 e2 (keep3 _ _ e4 (I1.bk _ _ e5)) e6 e7 e8 ?_
    have dr := rdy.draws (genEnv scope (cloFrom X.env.cells scope.names []) hp3.objs.size code builtinsNs X.env) rfl (fun z => Nat.lt_irrefl _ (fpLow _ z))
    refine ⟨I0.bare, I, fp, wr, hp3.objs.size :: frs X.stack, n, Bd, St, pz, (fun i y => ∃ v, RelV v y ∧ F i v), rfl, dr, dr.frame 0 _ _ rdy.st (fun b hb o it => keep3 b o (rdy.offP b hb) it), fpLow, nol.extBut hx3 (baseNP _ _ csAt), ?_, ?_, ?_, ?_, ?_, ?_⟩
    · intro z
      exact absurd (wrHigh _ z).1 (Nat.not_le_of_lt csLow)
    · intro b hb
      show b ≤ hp3.objs.size
      rcases List.mem_cons.mp hb with (z | z)
      · rw [z]
        exact Nat.le_refl _
      · exact Nat.le_of_lt (Nat.lt_of_lt_of_le (frLow b z) lowN)
    · intro b hb hf
      rcases List.mem_cons.mp hf with (y | y)
      · have := fpLow b hb
        rw [y] at this
        exact Nat.lt_irrefl _ this
      · exact rdy.offF b hb y
    · intro z
      rcases List.mem_cons.mp z with (y | y)
      · have e : cStatics = hp3.objs.size := y
        rw [e] at csLow
        exact absurd csLow (Nat.not_lt_of_le lowN)
      · exact notFr _ _ csAt y
    · intro ref href
      have mk : ∀ (B : Around) (i : Nat) (t : Shared) (mp : Str → Option Value), B.handled = none → B.frames = (X.A.in4.in1.over (loopD elt tgt iter ifs scope gpos I (genEnv scope (cloFrom X.env.cells scope.names []) hp3.objs.size code builtinsNs X.env)) []).frames → B.depth ≤ X.A.depth + 1 → B.units ≤ X.A.units + 8 →
          GF X H1 s0.heap σ scope (genEnv scope (cloFrom X.env.cells scope.names []) hp3.objs.size code builtinsNs X.env) B mp (fun u => AllBare u.gens ∧ u.heap.Ns hp3.objs.size mp ∧ KeptO (List.range hp3.objs.size) wr (hp3.objs.size :: frs X.stack) ref u.heap) := fun B i t mp hB fB dB uB => by
        have fB' : B.frames = some (genEnv scope (cloFrom X.env.cells scope.names []) hp3.objs.size code builtinsNs X.env :: X.stack) := by
          have e5 : X.A.in4.in1.frames = some X.stack := I0.ok.frames
          rw [fB]
          simp only [Around.over, List.map_nil]
          rw [e5]
          rfl
        have bszS : X.base.objs.size ≤ s0.heap.objs.size := Nat.le_trans I0.ok.bsz I0.sz
        have both : ∀ u : Heap, KeptO (List.range hp3.objs.size) wr (hp3.objs.size :: frs X.stack) ref u → ∀ b o, b ≠ P → s0.heap.get? b = some o → (b ∉ frs X.stack → u.get? b = some o) ∧ ∃ sl, u.get? b = some { o with slots := sl } := fun u kept b o nb it => by
          have lt := Heap.lt_size it
          have ltc : b < hp3.objs.size := Nat.lt_of_lt_of_le lt lowN
          obtain ⟨p1, p2⟩ := kept b (List.mem_range.mpr ltc) (fun z => absurd lt (Nat.not_lt_of_le (wrHigh b z).1)) o (href _ _ (keep0 b o nb it))
          exact ⟨fun nf => p1 fun z => (List.mem_cons.mp z).elim (fun y => Nat.ne_of_lt ltc y) nf, p2⟩
        refine ⟨⟨pins, s0, rfl, I0⟩, hB, fB', dB, uB, rfl, S.kind, I0.ok.glob, fun u ⟨ub, un, uk⟩ => ?_, fun u ok => ok.2.1, fun u u' ⟨ub, un, uk⟩ kg => ⟨kg.bare, kg.heap.ns un, uk.km kg.heap⟩, fun u n ok => ok, fun cn ic vc Cc hvc => ?_⟩
        · have bu := both u.heap uk
          have baseT : ∀ b o, X.base.get? b = some o → u.heap.get? b = some o := fun b o it => (bu b o (baseNP b o it) (I0.bk b o it)).1 (notFr b o it)
          obtain ⟨oC, esC, epC, atC, datC, moreC⟩ := id un
          have ltC : hp3.objs.size < u.heap.objs.size := Heap.lt_size atC
          refine ⟨baseT, Nat.le_trans bszS (Nat.le_of_lt (Nat.lt_of_le_of_lt lowN ltC)), ⟨?_, ⟨hp3.objs.size, oC, rfl, ?_, atC, fun vs z => ?_⟩, ?_⟩, fun b hb => ?_, ?_, ub⟩
          · show scope.kind ≠ .module
            rw [S.kind]
            exact fun z => nomatch z
          · cases eb : X.base.get? hp3.objs.size with
            | none => rfl
            | some o =>
              have := Nat.lt_of_lt_of_le (Heap.lt_size eb) bszS
              exact absurd this (Nat.not_lt_of_le lowN)
          · rw [datC] at z
            cases z
          · refine Heap.FunFrames.of_keeps (fun b o it nf => ?_) I0.stack
            have nb : b ≠ P := fun z => by
              rw [z, atP] at it
              cases it
              exact nf _ rfl
            obtain ⟨_, sl, z⟩ := bu b o nb it
            exact ⟨_, z, rfl⟩
          · rcases List.mem_cons.mp hb with (z | z)
            · rw [z]
              exact I0.hok.fresh lowN
            · exact I0.stkFree b z
          · refine fast_ok I0.hok fun b u2 o e nt it => (bu b o (fun z => ?_) it).1 fun z => ?_
            · rw [z, hP] at e
              exact nt ptab (Option.some.inj e).symm
            · have := I0.stkFree b z
              rw [e] at this
              cases this
        · obtain ⟨cc, uc, rc, look, cellAt⟩ := Cc.at I0 hvc
          refine ⟨uc, rc, fun p Ex R u ok q => Cc.eval S.kind rfl rfl look ?_ q⟩
          obtain ⟨o, ho, hd⟩ := cellAt
          have nb : cc ≠ P := fun z => by
            rw [z, atP] at ho
            cases ho
            cases hd
          obtain ⟨_, sl, z⟩ := both u.heap ok.2.2 cc o nb ho
          exact ⟨_, z, hd⟩
      refine ⟨fun B Ex i t mp hB fB dB uB bT bd ns kept => htst _ B mp _ i bd (mk B i t mp hB fB dB uB) Ex t ⟨bT, ns, kept⟩, fun B Ex i t mp hB fB dB uB bT bd pt ns kept => helt _ B mp _ i bd pt (mk B i t mp hB fB dB uB) Ex t ⟨bT, ns, kept⟩⟩
    · intro g hp5 tk5 gs gsb ltg szg k5 Wk at5
      have hg5 : hp3.objs.size < hp5.objs.size := by
        rw [szg]
        exact Nat.lt_succ_of_lt ltg
      refine want g _ _ _ _ ⟨Wk, at5, ?_, ?_, ?_, fun i t2 h' tk2 S hS st2 kk2 => AtB.frame st2 kk2 ?_ ?_ ?_, fun i t2 st2 => ?_⟩ fun t' mv => ?_
      · show g < hp5.objs.size
        rw [szg]
        exact Nat.lt_succ_self _
      · intro b z
        show b < hp5.objs.size
        rcases List.mem_cons.mp z with y | y
        · have e : b = hp3.objs.size := y
          rw [e]
          exact hg5
        · exact Nat.lt_trans (wrHigh _ y).2 hg5
      · intro b z
        show b < hp5.objs.size
        rcases List.mem_cons.mp z with y | y
        · have e : b = hp3.objs.size := y
          rw [e]
          exact hg5
        · exact Nat.lt_of_lt_of_le (frLow _ y) (Nat.le_trans lowN (Nat.le_of_lt hg5))
      · intro z
        have l : g < hp5.objs.size := by rw [szg]; exact Nat.lt_succ_self _
        rw [z] at l
        exact absurd l (Nat.not_lt_of_le hS)
      · intro z
        have l : cStatics < hp5.objs.size := Nat.lt_of_lt_of_le csLow (Nat.le_trans lowN (Nat.le_of_lt hg5))
        rw [z] at l
        exact absurd l (Nat.not_lt_of_le hS)
      · intro b hb z
        have l : b < hp5.objs.size := by
          rcases List.mem_cons.mp hb with y | y
          · have e : b = hp3.objs.size := y
            rw [e]
            exact hg5
          · rcases List.mem_append.mp y with v | v
            · exact Nat.lt_trans (fpLow b v) hg5
            · exact Nat.lt_trans (List.mem_range.mp v) hg5
        rw [z] at l
        exact absurd l (Nat.not_lt_of_le hS)
      · obtain ⟨⟨o, nm, qn, ho, hc, _⟩, _⟩ := st2
        exact ⟨o, ho, hc⟩
      · obtain ⟨more, rfl⟩ := grown
        have offW : ∀ b, b < s0.heap.objs.size → b ∉ hp3.objs.size :: wr := fun b lt z => by
          rcases List.mem_cons.mp z with (y | y)
          · rw [y] at lt
            exact absurd lt (Nat.not_lt_of_le lowN)
          · exact absurd lt (Nat.not_lt_of_le (wrHigh _ y).1)
        have kB : ∀ b o, b < s0.heap.objs.size → hp3.get? b = some o → (b ∉ frs X.stack → t'.heap.get? b = some o) ∧ ∃ sl, t'.heap.get? b = some { o with slots := sl } := fun b o lt it => by
          obtain ⟨p1, p2⟩ := mv.heap b o (offW b lt) (k5 b o it)
          exact ⟨fun nf => p1 fun z => (List.mem_cons.mp z).elim (fun y => absurd (Nat.lt_of_lt_of_le lt lowN) (by rw [y]; exact Nat.lt_irrefl _)) nf, p2⟩
        have J := inv_gen (t' := t') (more := more) I0 hP mv.os mv.bare (fun b o nb it => kB b o (Heap.lt_size it) (keep0 b o nb it)) ((kB P _ ltP atP3).1 frNotP)
        exact ⟨_, ⟨⟨ptab ++ more, upd_same, ok3⟩, fun b nb => upd_ne nb⟩, J⟩
  refine ⟨nol, ?_⟩
  cases among : codeAmong gpos ptab.toList with
  | none =>
    refine wpAny_genexprCodeX hcode (hdC.code atP2 htr) (hdC.tab atP2) among fun c2 hp2 tk hx2 ge2 lt2 isC _ tabA _ => ?_
    obtain ⟨o1, vs, f1, tf, fl, tg, inF, tx, tt, op, _, _, _, _, _, _, _, _, _, trs, _⟩ := isC
    exact cont _ hp2 tk _ hx2 (Nat.le_trans ge2 (Nat.le_of_lt lt2)) tabA.2 ⟨_, rfl⟩ trs
  | some cv =>
    refine wpAny_genexprCode_hit hcode (hdC.code atP2 htr) among ?_
    exact cont cv hz s0.toks ptab (Heap.ExtBut.refl _ _) (Nat.le_refl _) atP2 ⟨#[], by simp⟩ htr
end
end V3
/-! any, all, sum and tuple over a generator that stands. -/
namespace V3
open PySem.Spec PySem L2 PyProof.Rows GxR RZ
section
variable {w : World} {prog : Program} {A : Around}
/-- any(..) over a walk of truths -/
theorem any_loopV {I : Addr} {wr fs : List Addr} {n : Nat} {P : Nat → Value → Prop} {St : Nat → Shared → Prop} {R : Result → Shared → Prop} (Wk : WalksV prog w A.in1 I wr fs n P St) (tr : Nat → Bool) (isB : ∀ i v, P i v → v = .bool (tr i)) :
    ∀ (k i : Nat) (t : Shared), n - i = k → i ≤ n → St i t → (∀ t', MovedV wr fs t t' → R (.ok (.ret (.bool (((List.range n).drop i).any tr)))) t') → codeAny (model prog w) A (.builtin "any.loop" ⟨[.ref I], []⟩) R t := by
  intro k
  induction k with
  | zero =>
    intro i t ek il st want
    obtain rfl : i = n := by omega
    (refine codeAny_builtin F.entry_any_loop ?_)
    (rw [Around.under_plainId F.plain_any_loop _])
    show wpAny _ A.in1 (pyNext (.ref I) >>= _) _ _ t
    refine wpAny_bind (Wk.done t _ _ st fun t' mv => wpAny_bind (wpAny_rule (wpAny_pure ?_)))
    have z := want t' mv
    rw [List.drop_of_length_le (Nat.le_of_eq List.length_range)] at z
    exact z
  | succ k again =>
    intro i t ek il st want
    have lt : i < n := by omega
    have cut : (List.range n).drop i = i :: (List.range n).drop (i + 1) := range_drop lt
    (refine codeAny_builtin F.entry_any_loop ?_)
    (rw [Around.under_plainId F.plain_any_loop _])
    show wpAny _ A.in1 (pyNext (.ref I) >>= _) _ _ t
    refine wpAny_bind (Wk.item i t _ _ lt st fun v t' pv st' mv => ?_)
    rw [isB i v pv]
    (refine wpAny_bind (wpAny_holding (wpAny_truthy_bool ?_)))
    (refine wpAny_bind (wpAny_letGo ?_))
    rw [cut] at want
    cases eb : tr i with
    | false =>
      simp only [Bool.false_eq_true, if_false, ite_false]
      refine wpAny_pure ⟨plainId_quiet F.plain_any_loop _, again (i + 1) _ (by omega) lt st' fun t2 mv2 => ?_⟩
      have z := want t2 (mv.trans mv2)
      rw [List.any_cons, eb, Bool.false_or] at z
      exact z
    | true =>
      simp only [if_true]
      (refine wpAny_bind (wpAny_rule (wpAny_pure ?_)))
      have z := want t' mv
      rw [List.any_cons, eb, Bool.true_or] at z
      exact z
theorem call_anyV {E : Value → Shared → Prop} {s : Shared} {x : Value} {Q : Value → Shared → Prop}
    (h : wpAny (model prog w) A.in1 (pyIter x) (fun it t => ∃ I wr fs n P St tr, it = .ref I ∧ WalksV prog w A.in1 I wr fs n P St ∧ St 0 t ∧ (∀ i v, P i v → v = .bool (tr i)) ∧ ∀ t', MovedV wr fs t t' → Q (.bool ((List.range n).any tr)) t') E s) :
    (wpAny (model prog w) A (call (.builtin "any") [x]) Q E s) := by
  (refine call_function_tree F.kind_any F.plain_any F.entry_any (F.args_any1 _) ?_)
  unfold Builtin.«any»
  (refine wpAny_bind (m := oneArg "any" _) (wpAny_pure ?_))
  refine wpAny_bind (wpAny_mono h (fun it t ht => ?_) fun _ _ z => z)
  obtain ⟨I, wr, fs, n, P, St, tr, rfl, Wk, st, isB, want⟩ := ht
  exact wpAny_pure ⟨plainId_quiet F.plain_any_loop _, any_loopV Wk tr isB n 0 t rfl (Nat.zero_le _) st fun t' mv => by simpa using want t' mv⟩
/-- a list taken from a walk -/
theorem extend_loopV {I : Addr} {wr fs : List Addr} {n : Nat} {P : Nat → Value → Prop} {St : Nat → Shared → Prop} {R : Result → Shared → Prop} (Wk : WalksV prog w A.in1 I wr fs n P St) (hn : n ≤ sizeLine) (S : Addr) (Sw : S ∉ wr) (Sf : S ∉ fs)
    (fr : ∀ i (t : Shared) h' tk, St i t → (∀ b o, b ≠ S → t.heap.get? b = some o → h'.get? b = some o) → St i { t with heap := h', toks := tk }) (res : Value) :
    ∀ (k i : Nat) (t : Shared) (acc : Array Value) (c : Nat), n - i = k → i ≤ n → St i t → t.heap.get? S = some { cls := .type "list", dict := none, data := .seq acc c, slots := #[] } → ItemsOf P acc i →
      (∀ t' acc', MovedV (S :: wr) fs t t' → (∃ c', t'.heap.get? S = some { cls := .type "list", dict := none, data := .seq acc' c', slots := #[] }) → ItemsOf P acc' n → R (.ok (.ret res)) t') →
      codeAny (model prog w) A (.builtin "list.extend.loop" ⟨[.ref S, .ref I, res], []⟩) R t := by
  intro k
  induction k with
  | zero =>
    intro i t acc c ek il st atS items want
    obtain rfl : i = n := by omega
    (refine codeAny_builtin F.entry_extend_loop ?_)
    (rw [Around.under_plainId F.plain_extend_loop _])
    show wpAny _ A.in1 (pyNext (.ref I) >>= _) _ _ t
    exact wpAny_bind (Wk.done t _ _ st fun t' mv => wpAny_pure (want t' acc (mv.wide fun b hb => List.mem_cons_of_mem _ hb) ⟨c, (mv.heap S _ Sw atS).1 Sf⟩ items))
  | succ k again =>
    intro i t acc c ek il st atS items want
    have lt : i < n := by omega
    (refine codeAny_builtin F.entry_extend_loop ?_)
    (rw [Around.under_plainId F.plain_extend_loop _])
    show wpAny _ A.in1 (pyNext (.ref I) >>= _) _ _ t
    refine wpAny_bind (Wk.item i t _ _ lt st fun v u pv su mv => ?_)
    have atU := (mv.heap S _ Sw atS).1 Sf
    have off : ∀ b o, b ≠ S → u.heap.get? b = some o → (u.heap.update S (Obj.mapSeq (·.push v))).get? b = some o := fun b o n it => (Heap.get?_update_other _ _ (Ne.symm n)).trans it
    have sz := items.1
    (show wpAny _ A.in1 (updateSeq S (·.push v) >>= _) _ _ _)
    refine wpAny_bind (wpAny_updateSeq atU rfl (wpAny_pure ⟨plainId_quiet F.plain_extend_loop _, again (i + 1) _ (acc.push v) _ (by omega) lt (fr _ u _ u.toks su off) (Heap.get?_update_self _ atU rfl) (items.push pv) fun t' acc' mv2 at' it' => ?_⟩) (by omega) (by show (acc.push v).size ≤ sizeLine + 1; rw [Array.size_push]; omega))
    exact want t' acc' ((mv.wrote off).trans mv2) at' it'
theorem collect_genV {E : Value → Shared → Prop} {s : Shared} {I : Addr} {wr fs : List Addr} {n : Nat} {P : Nat → Value → Prop} {St : Nat → Shared → Prop} {Q : List Value → Shared → Prop} (Wk : WalksV prog w A.in1 I wr fs n P St) (hn : n ≤ sizeLine) (ty : ∀ i t, St i t → t.TypeIs (.ref I) "generator") (st : St 0 s)
    (Iw : I < s.heap.objs.size) (Sw : s.heap.objs.size ∉ wr) (Sf : s.heap.objs.size ∉ fs) (fr : ∀ i (t : Shared) h' tk, St i t → (∀ b o, b ≠ s.heap.objs.size → t.heap.get? b = some o → h'.get? b = some o) → St i { t with heap := h', toks := tk })
    (want : ∀ t' acc, MovedV wr fs s t' → ItemsOf P acc n → Q acc.toList t') : wpAny (model prog w) A (collect (.ref I)) Q E s := by
  have SI : s.heap.objs.size ≠ I := Nat.ne_of_gt Iw
  unfold collect
  (refine wpAny_bind (wpAny_runValue (codeAny_builtin F.entry_proto_collect ?_)))
  (rw [Around.under_plainId F.plain_proto_collect _])
  (show wpAny _ A.in1 (newList [] >>= fun l => again (.builtin "list.__iadd__" ⟨[l, .ref I], []⟩)) _ _ s)
  refine wpAny_bind (wpAny_newObj_type (wpAny_pure ⟨plainId_quiet F.plain_list_iadd _, codeAny_builtin F.entry_list_iadd ?_⟩))
  (rw [Around.under_plainId F.plain_list_iadd _])
  have k1 : ∀ b o, s.heap.get? b = some o → (s.heap.push { cls := .type "list", data := .seq ([] : List Value).toArray }).get? b = some o := fun b o it => Heap.get?_push_of_some _ it
  have st1 := fr 0 s (s.heap.push { cls := .type "list", data := .seq ([] : List Value).toArray }) s.toks st fun b o _ it => k1 b o it
  (show wpAny _ A.in1 (Builtin.List.listExtendWith (.ref s.heap.objs.size) (.ref I) (.ref s.heap.objs.size)) _ _ _)
  (unfold Builtin.List.listExtendWith)
  refine wpAny_bind (wpAny_typeOf (ty 0 _ st1) ?_)
  have n1 : Builtin.List.listSameRef (.ref s.heap.objs.size) (.ref I) = false := by simp [Builtin.List.listSameRef, SI]
  have n2 : (Value.type "generator" == Value.type "list") = false := by decide
  have n3 : (Value.type "generator" == Value.type "tuple") = false := by decide
  simp only [n1, n2, n3, Bool.or_false, Bool.false_eq_true, if_false]
  refine wpAny_bind (Wk.self _ _ _ st1 (wpAny_bind (wpAny_holding ?_)))
  (unfold Builtin.List.listLengthHint)
  refine wpAny_bind (wpAny_specialOf (ty 0 _ st1) F.gen_no_len ?_)
  (show wpAny _ A.in1 (specialOf (Value.ref I) (Str.ofString "__length_hint__") >>= _) _ _ _)
  refine wpAny_bind (wpAny_specialOf (ty 0 _ st1) F.gen_no_hint (wpAny_pure ?_))
  (show wpAny _ A.in1 (rule "list.extend.makes-room" >>= fun _ => Builtin.List.listTouch (.ref s.heap.objs.size) >>= fun _ =>
      again (.builtin "list.extend.loop" ⟨[.ref s.heap.objs.size, .ref I, .ref s.heap.objs.size], []⟩)) _ _ _)
  (refine wpAny_bind (wpAny_rule (wpAny_bind ?_)))
  have at1 : (s.heap.push { cls := .type "list", data := .seq ([] : List Value).toArray }).get? s.heap.objs.size = some { cls := .type "list", data := .seq ([] : List Value).toArray } := Heap.get?_push_size _ rfl
  (show wpAny _ A.in1 (updateSeq s.heap.objs.size (·.push .none) >>= fun _ => updateSeq s.heap.objs.size (·.pop)) _ _ _)
  refine wpAny_bind (wpAny_updateSeq at1 rfl ?_)
  have at2 := Heap.get?_update_self (Obj.mapSeq (·.push Value.none)) at1 rfl
  refine wpAny_updateSeq at2 rfl ?_
  have at3 := Heap.get?_update_self (Obj.mapSeq (·.pop)) at2 rfl
  have stays : ∀ (f : Obj → Obj) (h0 : Heap) b o, b ≠ s.heap.objs.size → h0.get? b = some o → (h0.update s.heap.objs.size f).get? b = some o := fun f h0 b o ne it => (Heap.get?_update_other _ _ (Ne.symm ne)).trans it
  refine wpAny_pure ⟨plainId_quiet F.plain_extend_loop _, extend_loopV Wk hn _ Sw Sf fr _ n 0 _ _ _ rfl (Nat.zero_le _) (fr 0 ({ s with heap := s.heap.push { cls := .type "list", data := .seq ([] : List Value).toArray } } : Shared) _ s.toks st1 fun b o ne it => stays _ _ b o ne (stays _ _ b o ne it)) at3 (ItemsOf.nil P) fun t' acc mv at' items => ?_⟩
  obtain ⟨c', at'⟩ := at'
  show wpAny _ A (load s.heap.objs.size >>= _) _ _ t'
  refine wpAny_bind (wpAny_load at' (wpAny_pure (want t' acc ⟨mv.os, mv.bare, fun b o nb it => ?_⟩ items)))
  have ne : b ≠ s.heap.objs.size := fun z => Nat.lt_irrefl _ (z ▸ Heap.lt_size it)
  exact mv.heap b o (fun z => (List.mem_cons.mp z).elim ne nb) (stays _ _ b o ne (stays _ _ b o ne (k1 b o it)))
theorem tuple_new_genV {E : Value → Shared → Prop} {s : Shared} {I : Addr} {wr fs : List Addr} {n : Nat} {P : Nat → Value → Prop} {St : Nat → Shared → Prop} {Q : Value → Shared → Prop} (Wk : WalksV prog w A.in1.in1 I wr fs n P St) (hn : n ≤ sizeLine) (ty : ∀ i t, St i t → t.TypeIs (.ref I) "generator") (st : St 0 s)
    (Iw : I < s.heap.objs.size) (Sw : s.heap.objs.size ∉ wr) (Sf : s.heap.objs.size ∉ fs) (fr : ∀ i (t : Shared) h' tk, St i t → (∀ b o, b ≠ s.heap.objs.size → t.heap.get? b = some o → h'.get? b = some o) → St i { t with heap := h', toks := tk })
    (want : ∀ t' acc, MovedV wr fs s t' → ItemsOf P acc n → Q (.ref t'.heap.objs.size) { t' with heap := t'.heap.push { cls := .type "tuple", data := .seq acc } }) :
    codeAny (model prog w) A (.call (.builtin "tuple.__new__") ⟨[.type "tuple", .ref I], []⟩) (wants Q E) s := by
  (refine codeAny_of_tree ?_)
  (show wpAny _ A.in1 (do checkBuiltinCall "tuple.__new__" ⟨[.type "tuple", .ref I], []⟩; again (.builtin "tuple.__new__" ⟨[.type "tuple", .ref I], []⟩)) _ _ s)
  (refine wpAny_bind (wpAny_of_eq (F.newCall_tuple_1 _) (wpAny_pure ⟨plainId_quiet F.plain_tuple_new _, codeAny_builtin F.entry_tuple_new ?_⟩)))
  (rw [Around.under_plainId F.plain_tuple_new _])
  have sub := sub_tuple_self
  have ini := init_tuple_lookup
  have made := madeHere_tuple
  have tI := ty 0 s st
  wp_walk using wpAny_typeOf tI, collect_genV Wk hn ty st Iw Sw Sf fr
  intro t' acc mv items
  (show wpAny _ _ (Builtin.Tuple.tupleExact acc.toList.toArray >>= fun v => ret v) _ _ _)
  (unfold Builtin.Tuple.tupleExact)
  (have e : acc.toList.toArray = acc := by simp)
  refine wpAny_bind (wpAny_newObj_type (wpAny_pure ?_) (by show acc.toList.toArray.size ≤ sizeLine; rw [e, items.1]; exact hn))
  rw [e]
  exact want t' acc mv items
theorem call_tuple_genV {E : Value → Shared → Prop} {s : Shared} {I : Addr} {wr fs : List Addr} {n : Nat} {P : Nat → Value → Prop} {St : Nat → Shared → Prop} {Q : Value → Shared → Prop} (Wk : WalksV prog w A.in1.in1.in1 I wr fs n P St) (hn : n ≤ sizeLine) (ty : ∀ i t, St i t → t.TypeIs (.ref I) "generator") (st : St 0 s)
    (Iw : I < s.heap.objs.size) (Sw : s.heap.objs.size ∉ wr) (Sf : s.heap.objs.size ∉ fs) (fr : ∀ i (t : Shared) h' tk, St i t → (∀ b o, b ≠ s.heap.objs.size → t.heap.get? b = some o → h'.get? b = some o) → St i { t with heap := h', toks := tk })
    (want : ∀ t' acc, MovedV wr fs s t' → ItemsOf P acc n → Q (.ref t'.heap.objs.size) { t' with heap := t'.heap.push { cls := .type "tuple", data := .seq acc } }) :
    (wpAny (model prog w) A (call (.type "tuple") [.ref I]) Q E s) := by
  refine callType_codes (Q₁ := fun obj s1 => s1.TypeIs obj "tuple" ∧ Q obj s1) F.called_tuple (F.typeCall_tuple_1 _) F.entry_object_init
    (tuple_new_genV Wk hn ty st Iw Sw Sf fr (fun t' acc mv items => ⟨⟨_, Heap.get?_push_size _ rfl, rfl⟩, want t' acc mv items⟩)) fun obj s1 h1 => ?_
  exact ⟨h1.1, F.args_object_init_2 obj _, object_init_meets F.called_tuple.init.lookup F.called_tuple.made (by decide) prog w A.in1 _ s1 ⟨h1.1, rfl, h1.2⟩⟩
end
end V3
/-! Iterables of a generator expression, each told once: a tuple, enumerate of a tuple, zip of two tuples. -/
namespace V3
open PySem.Spec PySem L2 PyProof.Rows GxR RZ
theorem Draws2.mono {prog : Program} {w : World} {tgt : Expr} {ce : Env} {I : Addr} {fp wr : List Addr} {n : Nat} {Bd Bd2 : Nat → (Str → Option Value) → Prop} {St : Nat → Heap → Prop} (D : Draws2 prog w tgt ce I fp wr n Bd St) (h : ∀ i mp, Bd i mp → Bd2 i mp) : Draws2 prog w tgt ce I fp wr n Bd2 St :=
  ⟨D.sub, D.frame, fun B q i t mp K E il st ns told => D.one B q i t mp K E il st ns fun v t1 go => told v t1 (wpAny_mono go (fun _ t2 g2 => wpAny_mono g2 (fun _ t3 ⟨h', tk, mp', e, b, r⟩ => ⟨h', tk, mp', e, h _ _ b, r⟩) fun _ _ z => z) fun _ _ z => z), D.done, D.self⟩
theorem Draws2.name {prog : Program} {w : World} {x : Str} {px : Pos} {ce : Env} {I : Addr} {fp wr : List Addr} {n : Nat} {Dr : Nat → Value → Prop} {St : Nat → Heap → Prop} (Wk : ∀ B : Around, B.handled = none → Walks prog w B I fp wr n Dr St)
    (kx : ce.kindOf x = some .local) (plain : (ce.scope.kind == .class || (ce.scope.kind == .module && ce.locals != ce.globals)) = false) (apart : ce.locals ∉ fp) : Draws2 prog w (.Name x px) ce I fp wr n (fun i mp => ∃ v, Dr i v ∧ mp x = some v) St where
  sub := (Wk callerA rfl).sub
  frame := (Wk callerA rfl).frame
  one := fun B q i t mp K E il st ns told => by
    have offW : ce.locals ∉ wr := fun z => apart ((Wk B q).sub _ z)
    refine (Wk B q).item i t K E il st fun v h1 tk dr st1 keep1 => told _ _ ?_
    refine wpAny_of_eq (rfl : letOwnedTupleGo (.Name x px) (.ref I) v = pure ()) (wpAny_assign_Name (wpAny_storeName_local kx (ns.at' fun o it => keep1 _ o offW it) (fun h2 ns2 same2 => ?_) plain))
    exact ⟨h2, _, _, rfl, ⟨v, dr, by simp⟩, (Wk B q).frame _ h1 h2 st1 fun c hc o it => same2.extBut c o (fun z => apart (z ▸ hc)) it, ns2, fun c o nc nw it => same2.extBut c o nc (keep1 c o nw it)⟩
  done := fun B q t K E st k => (Wk B q).done t K E st k
  self := fun B q t K E st k => (Wk B q).self 0 t K E st k
abbrev TI := L2.St → Hp → (Nat → (Nat → (Str → Option Value) → Prop) → Hp → Prop) → Prop
/-- an iterable and its target -/
structure IR (X : Cx) (P : Addr) (iter tgt : Expr) (scope : Scope) (ti : TI) : Prop where
  run : ∀ (pins : List (Addr × Obj)) (s : Shared) (σ : L2.St) (H : Hp) (Kq : Nat → (Nat → (Str → Option Value) → Prop) → Hp → Prop) (R : Value → Shared → Prop), Inv X pins σ H s → ti σ H Kq →
    (∀ (H1 : Hp) (s0 : Shared) (hz : Heap) (I : Addr) (fp wr : List Addr) (n : Nat) (Bd : Nat → (Str → Option Value) → Prop) (St : Nat → Heap → Prop), Inv X pins σ H1 s0 → TabG H1 P → ItReady X P s0.heap hz tgt scope I fp wr n Bd St → (∀ i h, St i h → ∀ b ∈ wr, ∃ o, h.get? b = some o) → Kq n Bd H1 → R (.ref I) { s0 with heap := hz }) →
    wpAny (model X.prog X.w) X.A (eval iter X.env) (fun xv t1 => wpAny (model X.prog X.w) X.A (pyIter xv) R X.xe t1) X.xe s
section
variable {X : Cx}
/-- what is so of the places of a tuple -/
structure Apart (X : Cx) (P l : Addr) (s1 : Shared) : Prop where
  low : l < s1.heap.objs.size
  np : l ≠ P
  nf : l ∉ frs X.stack
theorem apartT {pins : List (Addr × Obj)} {σ : L2.St} {H1 : Hp} {s1 : Shared} {P l : Addr} {xs : List V} (I1 : Inv X pins σ H1 s1) (tab : TabG H1 P) (hsq : SqT X.K H1 l xs) : Apart X P l s1 ∧ ∃ its : List Value, Vals xs its ∧ s1.heap.IsTuple l its.toArray := by
  obtain ⟨its, rv, pl, hz⟩ := I1.tuple hsq
  have ht : s1.heap.IsTuple l its.toArray := by
    obtain ⟨ob, h1, h2, n, h3⟩ := pl
    exact ⟨ob, h1, h2, n, h3⟩
  obtain ⟨ptab, hP, htr⟩ := tab
  have atP : s1.heap.get? P = some { cls := .none, data := .fields ptab } := I1.hok P _ hP
  refine ⟨⟨?_, fun z => ?_, fun z => ?_⟩, its, rv, ht⟩
  · obtain ⟨_, q0, _⟩ := ht
    exact Heap.lt_size q0
  · obtain ⟨ob2, q1, _, _, q4⟩ := ht
    rw [z, atP] at q1
    cases q1
    cases q4
  · rcases hsq with ((e | ⟨o, e⟩) | ⟨o, it2, n2, e, _⟩)
    · have := I1.stkFree l z
      rw [e] at this
      cases this
    · have := I1.stkFree l z
      rw [e] at this
      cases this
    · have := (frs_apart I1.stack z).1
      rw [(I1.ok.mod.kin l o e)] at this
      cases this
theorem frsLow {pins : List (Addr × Obj)} {σ : L2.St} {H1 : Hp} {s1 : Shared} (I1 : Inv X pins σ H1 s1) : ∀ b ∈ frs X.stack, b < s1.heap.objs.size := fun b z => by
  obtain ⟨_, o, ho, _⟩ := frs_apart I1.stack z
  exact Heap.lt_size ho
theorem tabLow {pins : List (Addr × Obj)} {σ : L2.St} {H1 : Hp} {s1 : Shared} {P : Addr} (I1 : Inv X pins σ H1 s1) (tab : TabG H1 P) : P < s1.heap.objs.size := by
  obtain ⟨ptab, hP, htr⟩ := tab
  have atP : s1.heap.get? P = some { cls := .none, data := .fields ptab } := I1.hok P _ hP
  exact Heap.lt_size atP
def rowN (a : Str) (xs : List V) : Nat → (Str → Option Value) → Prop := fun i mp => ∃ x u, xs[i]? = some x ∧ mp a = some u ∧ RelV x u
def rowE (a b : Str) (xs : List V) : Nat → (Str → Option Value) → Prop := fun i mp => ∃ x u t, xs[i]? = some x ∧ mp a = some (.int (i : Int) t) ∧ mp b = some u ∧ RelV x u
def rowZ (a b : Str) (xs ys : List V) : Nat → (Str → Option Value) → Prop := fun i mp => ∃ x y u v, xs[i]? = some x ∧ ys[i]? = some y ∧ mp a = some u ∧ mp b = some v ∧ RelV x u ∧ RelV y v
def tiT (X : Cx) (P : Addr) (a : Str) (te : TE) : TI := fun σ H K => te σ H fun v H1 => ∃ (p : Addr) (xs : List V), v = .ref p ∧ SqT X.K H1 p xs ∧ TabG H1 P ∧ K xs.length (rowN a xs) H1
def tiE (X : Cx) (P : Addr) (a b : Str) (ta : TA) : TI := fun σ H K => ta σ H fun vs H1 => ∃ (p : Addr) (xs : List V), vs = [.ref p] ∧ SqT X.K H1 p xs ∧ TabG H1 P ∧ K xs.length (rowE a b xs) H1
def tiZ (X : Cx) (P : Addr) (a b : Str) (ta : TA) : TI := fun σ H K => ta σ H fun vs H1 => ∃ (p q : Addr) (xs ys : List V), vs = [.ref p, .ref q] ∧ SqT X.K H1 p xs ∧ SqT X.K H1 q ys ∧ TabG H1 P ∧ K (min xs.length ys.length) (rowZ a b xs ys) H1
theorem vals_at {xs : List V} {its : List Value} {i : Nat} {u : Value} (r : Vals xs its) (h : its[i]? = some u) : ∃ x, xs[i]? = some x ∧ RelV x u := by
  have li : i < xs.length := by
    have := (List.getElem?_eq_some_iff.mp h).1
    have := r.length
    omega
  obtain ⟨u2, hu, ru⟩ := r.get (List.getElem?_eq_getElem li)
  rw [h] at hu
  cases hu
  exact ⟨_, List.getElem?_eq_getElem li, ru⟩
/-- for a in t -/
theorem ir_tup {P : Addr} {iter : Expr} {a : Str} {pa : Pos} {scope : Scope} {te : TE} (hi : PE X iter te) (kd : scope.kind = .function) (ka : scope.names.lookup a = some .local) : IR X P iter (.Name a pa) scope (tiT X P a te) := by
  refine ⟨fun pins s σ H Kq R I h go => ?_⟩
  refine thn (hi.run pins s σ H _ I h) fun xv s1 ⟨v, H1, I1, rv, p, xs, ev, hsq, tab, kq⟩ => ?_
  subst ev
  cases rv
  obtain ⟨ap, its, rvs, tupA⟩ := apartT I1 tab hsq
  have szl := rvs.length
  refine wpAny_pyIter_tuple tupA ?_
  have keep : ∀ b o, s1.heap.get? b = some o → (s1.heap.push { cls := .type "tuple_iterator", data := .fields #[.ref p, .int 0 0] }).get? b = some o := fun b o it => Heap.get?_push_of_some _ it
  have frl := frsLow I1
  have tl := tabLow I1 tab
  have len : its.toArray.size = xs.length := by
    rw [List.size_toArray]
    exact szl.symm
  refine go H1 s1 _ s1.heap.objs.size [s1.heap.objs.size, p] [s1.heap.objs.size] xs.length (rowN a xs) (fun i h => h.IsTupleIter s1.heap.objs.size p i ∧ h.IsTuple p its.toArray) I1 tab ⟨keep, by rw [Heap.size_push]; exact Nat.le_succ _, fun ce hsc hlo => ?_, fun b hb => ?_, ⟨⟨_, Heap.get?_push_size _ rfl, rfl, rfl⟩, ?_⟩, fun b hb => ?_, fun b hb => ?_, fun b hb => ?_, fun b hb => ?_⟩ (fun i h st b hb => by
      obtain ⟨⟨o, ho, _⟩, _⟩ := st
      rw [List.mem_singleton.mp hb]
      exact ⟨o, ho⟩) kq
  · rw [← len]
    refine (Draws2.name (fun B hB => Walks.tuple hB s1.heap.objs.size p (Nat.ne_of_lt ap.low) its.toArray) (by show ce.scope.names.lookup a = _; rw [hsc]; exact ka) (by rw [hsc]; simp [kd]) hlo).mono fun i mp ⟨u, hu, m⟩ => ?_
    have hu : its[i]? = some u := by simpa using hu
    obtain ⟨x, hx, r⟩ := vals_at rvs hu
    exact ⟨x, u, hx, m, r⟩
  · exact List.mem_cons.mpr (.inl (List.mem_singleton.mp hb))
  · obtain ⟨ob, h1, h2⟩ := tupA
    exact ⟨ob, keep _ _ h1, h2⟩
  · rw [Heap.size_push]
    (simp only [List.mem_cons, List.not_mem_nil, or_false] at hb)
    rcases hb with z | z <;> subst z
    · exact Nat.lt_succ_self _
    · exact Nat.lt_succ_of_lt ap.low
  · (rw [List.mem_singleton.mp hb])
    exact Nat.le_refl _
  · (simp only [List.mem_cons, List.not_mem_nil, or_false] at hb)
    rcases hb with z | z <;> subst z
    · exact Nat.ne_of_gt tl
    · exact ap.np
  · intro z
    (simp only [List.mem_cons, List.not_mem_nil, or_false] at hb)
    rcases hb with y | y <;> subst y
    · exact Nat.lt_irrefl _ (frl _ z)
    · exact ap.nf z
/-- for a, b in enumerate(t) -/
theorem ir_enum {P : Addr} {e1 : Expr} {a b : Str} {pa pb tp pe pe2 : Pos} {kk : Nat} {scope : Scope} {ta : TA} (hge : Gl X "enumerate") (hme : X.mg "enumerate" = none) (ha : PA X [e1] ta) (kd : scope.kind = .function) (ka : scope.names.lookup a = some .local) (kb : scope.names.lookup b = some .local) (ab : (a = b) = False)
    (hs : starEach [e1] X.env = [(false, eval e1 X.env)] := by rfl) : IR X P (.Call (.Name "enumerate" pe) [e1] [] pe2) (.Tuple [.Name a pa, .Name b pb] kk tp) scope (tiE X P a b ta) := by
  refine ⟨fun pins s σ H Kq R I h go => ?_⟩
  refine Call_ (ld_blt I hge hme boot_enumerate (PyProof.Rows.callWith_type1 (thn (ha.run pe2 pins s σ H _ I h) fun us s1 ⟨vs, H1, I1, r1, l, xs, evs, hsq, tab, kq⟩ => ?_) hs rfl))
  subst evs
  cases r1 with
  | cons r rr =>
    cases rr
    cases r
    obtain ⟨ap, its, rv, ht⟩ := apartT I1 tab hsq
    have hal := ap.low
    refine call_enum_begins (begins_tuple l its.toArray) ht fun hq isE hit hsz hk => wpAny_pyIter_enum isE ?_
    have lenE : its.toArray.size = xs.length := by
      rw [List.size_toArray]
      exact rv.length.symm
    have frl := frsLow I1
    have tl := tabLow I1 tab
    refine go H1 s1 hq (s1.heap.objs.size + 1) [s1.heap.objs.size + 1, s1.heap.objs.size, l] [s1.heap.objs.size + 1, s1.heap.objs.size] xs.length (rowE a b xs)
      (fun i h => (∃ old, IsEnum h (s1.heap.objs.size + 1) s1.heap.objs.size i old) ∧ h.IsTupleIter s1.heap.objs.size l i ∧ h.IsTuple l its.toArray) I1 tab ⟨hk, by rw [hsz]; exact Nat.le_add_right _ _, fun ce hsc hlo => ?_, fun b hb => ?_, ⟨⟨_, isE⟩, ⟨_, hit, rfl, rfl⟩, ?_⟩, fun b hb => ?_, fun b hb => ?_, fun b hb => ?_, fun b hb => ?_⟩ (fun i h st b hb => by
        obtain ⟨⟨_, e⟩, ⟨o, ho, _⟩, _⟩ := st
        (simp only [List.mem_cons, List.not_mem_nil, or_false] at hb)
        rcases hb with z | z
        · rw [z]
          exact ⟨_, e⟩
        · rw [z]
          exact ⟨o, ho⟩) kq
    · rw [← lenE]
      refine (Draws2.pair (Mid := fun i T h => (∃ x, IsEnumOut h (s1.heap.objs.size + 1) s1.heap.objs.size ((i : Int) + 1) x T) ∧ (h.IsTupleIter s1.heap.objs.size l (i + 1) ∧ h.IsTuple l its.toArray) ∧ T ≠ s1.heap.objs.size + 1 ∧ T ≠ s1.heap.objs.size) (fun B hB => WalksT.enumerateD (A := B) (Draws.tuple (by exact hB) s1.heap.objs.size l (Nat.ne_of_lt hal) its.toArray) (s1.heap.objs.size + 1) (Nat.succ_ne_self _) (fun z => ?_) (List.mem_cons_self ..)) (fun i vals pt => ?_) (by show ce.scope.names.lookup a = _; rw [hsc]; exact ka) (by show ce.scope.names.lookup b = _; rw [hsc]; exact kb) ab (by rw [hsc]; simp [kd]) hlo).mono fun i mp ⟨x, y, ⟨t, x', hx, exy⟩, ma, mb⟩ => ?_
      · simp only [List.mem_cons, List.not_mem_nil, or_false] at z
        rcases z with z | z
        · exact Nat.succ_ne_self _ z
        · exact Nat.ne_of_lt (Nat.lt_succ_of_lt hal) z.symm
      · obtain ⟨t, x, _, e⟩ := pt
        exact ⟨_, _, e⟩
      · have e1 : x = .int (i : Int) t ∧ y = x' := by simpa using exy
        obtain ⟨rfl, rfl⟩ := e1
        have hx : its[i]? = some y := by simpa using hx
        obtain ⟨v, hv, r⟩ := vals_at rv hx
        exact ⟨v, y, t, hv, ma, mb, r⟩
    · simp only [List.mem_cons, List.not_mem_nil, or_false] at hb ⊢
      rcases hb with z | z
      · exact .inl z
      · exact .inr (.inl z)
    · obtain ⟨ob, h1, h2⟩ := ht
      exact ⟨ob, hk _ _ h1, h2⟩
    · rw [hsz]
      (simp only [List.mem_cons, List.not_mem_nil, or_false] at hb)
      rcases hb with z | z | z <;> subst z
      · exact Nat.lt_succ_self _
      · (exact Nat.lt_succ_of_lt (Nat.lt_succ_self _))
      · exact Nat.lt_succ_of_lt (Nat.lt_succ_of_lt hal)
    · (simp only [List.mem_cons, List.not_mem_nil, or_false] at hb)
      rcases hb with z | z <;> subst z
      · exact Nat.le_add_right _ _
      · exact Nat.le_refl _
    · (simp only [List.mem_cons, List.not_mem_nil, or_false] at hb)
      rcases hb with z | z | z <;> subst z
      · exact Nat.ne_of_gt (Nat.lt_succ_of_lt tl)
      · exact Nat.ne_of_gt tl
      · exact ap.np
    · intro z
      (simp only [List.mem_cons, List.not_mem_nil, or_false] at hb)
      rcases hb with y | y | y <;> subst y
      · exact absurd (frl _ z) (Nat.not_lt_of_le (Nat.le_add_right _ _))
      · exact absurd (frl _ z) (Nat.not_lt_of_le (Nat.le_refl _))
      · exact ap.nf z
/-- for a, b in zip(t, u) -/
theorem ir_zip {P : Addr} {e1 e2 : Expr} {a b : Str} {pa pb tp pe pe2 : Pos} {kk : Nat} {scope : Scope} {ta : TA} (hge : Gl X "zip") (hme : X.mg "zip" = none) (ha : PA X [e1, e2] ta) (kd : scope.kind = .function) (ka : scope.names.lookup a = some .local) (kb : scope.names.lookup b = some .local) (ab : (a = b) = False)
    (hs : starEach [e1, e2] X.env = (false, eval e1 X.env) :: starEach [e2] X.env := by rfl) (hpl : (backTo pe2 (starEach [e2] X.env)).any (·.1) = false := by rfl) : IR X P (.Call (.Name "zip" pe) [e1, e2] [] pe2) (.Tuple [.Name a pa, .Name b pb] kk tp) scope (tiZ X P a b ta) := by
  refine ⟨fun pins s σ H Kq R I h go => ?_⟩
  refine Call_ (ld_blt I hge hme PyProof.Rows.boot_zip (PyProof.Rows.callWith_type1 (thn (ha.run pe2 pins s σ H _ I h) fun us s0 ⟨vs, H1, I0, rvs0, lp, lq, xs, ys, evs, hsx, hsy, tab, kq⟩ => ?_) hs hpl))
  subst evs
  obtain ⟨up, uq, rfl, rp, rq⟩ : ∃ up uq, us = [up, uq] ∧ RelV (.ref lp) up ∧ RelV (.ref lq) uq := by
    cases rvs0 with
    | cons r rr =>
      cases rr with
      | cons r2 rr =>
        cases rr
        exact ⟨_, _, rfl, r, r2⟩
  cases (show up = Value.ref lp from rp)
  cases (show uq = Value.ref lq from rq)
  obtain ⟨ax, itx, rvx, tx⟩ := apartT I0 tab hsx
  obtain ⟨ay, ity, rvy, ty⟩ := apartT I0 tab hsy
  refine call_zipT tx ty fun hz isz isTI isTO it1 it2 szz keptz => wpAny_pyIter_zip isz ?_
  have frl := frsLow I0
  have tl := tabLow I0 tab
  have lx := ax.low
  have ly := ay.low
  have e1 : itx.toArray.size = xs.length := by
    rw [List.size_toArray]
    exact rvx.length.symm
  have e2 : ity.toArray.size = ys.length := by
    rw [List.size_toArray]
    exact rvy.length.symm
  have sep : ZipSep2 (s0.heap.objs.size + 4) (s0.heap.objs.size + 2) (s0.heap.objs.size + 3) s0.heap.objs.size (s0.heap.objs.size + 1) [s0.heap.objs.size, lp] [s0.heap.objs.size + 1, lq] :=
    zip_sep2 (fun b hb => by rw [List.mem_singleton.mp hb]; exact lx) (fun b hb => by rw [List.mem_singleton.mp hb]; exact ly)
  refine go H1 s0 hz (s0.heap.objs.size + 4) ((s0.heap.objs.size + 4) :: (s0.heap.objs.size + 2) :: (s0.heap.objs.size + 3) :: ([s0.heap.objs.size, lp] ++ [s0.heap.objs.size + 1, lq])) [s0.heap.objs.size + 4, s0.heap.objs.size + 3, s0.heap.objs.size, s0.heap.objs.size + 1] (min xs.length ys.length) (rowZ a b xs ys)
    (fun i h => IsZip h (s0.heap.objs.size + 4) (s0.heap.objs.size + 2) (s0.heap.objs.size + 3) .none ∧ IsTupOf2 h (s0.heap.objs.size + 2) (.ref s0.heap.objs.size) (.ref (s0.heap.objs.size + 1)) ∧ (∃ a1 a2, IsTupOf2 h (s0.heap.objs.size + 3) a1 a2) ∧ (h.IsTupleIter s0.heap.objs.size lp i ∧ h.IsTuple lp itx.toArray) ∧ (h.IsTupleIter (s0.heap.objs.size + 1) lq i ∧ h.IsTuple lq ity.toArray)) I0 tab
    ⟨keptz, by rw [szz]; exact Nat.le_add_right _ _, fun ce hsc hlo => ?_, fun b hb => ?_, ⟨isz, isTI, ⟨_, _, isTO⟩, ⟨it1, ?_⟩, ⟨it2, ?_⟩⟩, fun b hb => ?_, fun b hb => ?_, fun b hb => ?_, fun b hb => ?_⟩ (fun i h st b hb => by
      obtain ⟨e, _, ⟨_, _, e2⟩, ⟨⟨o, ho, _⟩, _⟩, ⟨⟨o2, ho2, _⟩, _⟩⟩ := st
      (simp only [List.mem_cons, List.not_mem_nil, or_false] at hb)
      rcases hb with z | z | z | z
      · rw [z]
        exact ⟨_, e⟩
      · rw [z]
        exact ⟨_, e2⟩
      · rw [z]
        exact ⟨o, ho⟩
      · rw [z]
        exact ⟨o2, ho2⟩) kq
  · rw [← e1, ← e2]
    refine (Draws2.pair (fun B hB => WalksT.zipD2 (A := B) sep (Draws.tuple (by exact hB) s0.heap.objs.size lp (Nat.ne_of_lt lx) itx.toArray) (Draws.tuple (by exact hB) (s0.heap.objs.size + 1) lq (Nat.ne_of_lt (Nat.lt_succ_of_lt ly)) ity.toArray)) (fun i vals pt => ?_) (by show ce.scope.names.lookup a = _; rw [hsc]; exact ka) (by show ce.scope.names.lookup b = _; rw [hsc]; exact kb) ab (by rw [hsc]; simp [kd]) hlo).mono fun i mp ⟨x, y, ⟨x', y', hx, hy, exy⟩, ma, mb⟩ => ?_
    · obtain ⟨x, y, _, _, e⟩ := pt
      exact ⟨_, _, e⟩
    · have e : x = x' ∧ y = y' := by simpa using exy
      obtain ⟨rfl, rfl⟩ := e
      have hx : itx[i]? = some x := by simpa using hx
      have hy : ity[i]? = some y := by simpa using hy
      obtain ⟨v, hv, r⟩ := vals_at rvx hx
      obtain ⟨v2, hv2, r2⟩ := vals_at rvy hy
      exact ⟨v, v2, x, y, hv, hv2, ma, mb, r, r2⟩
  · simp only [List.mem_cons, List.mem_append, List.not_mem_nil, or_false] at hb ⊢
    rcases hb with z | z | z | z <;> simp [z]
  · obtain ⟨ob, h1, h2⟩ := tx
    exact ⟨ob, keptz _ _ h1, h2⟩
  · obtain ⟨ob, h1, h2⟩ := ty
    exact ⟨ob, keptz _ _ h1, h2⟩
  · rw [szz]
    simp only [List.mem_cons, List.mem_append, List.not_mem_nil, or_false] at hb
    have lx' : (lp : Nat) < s0.heap.objs.size := lx
    have ly' : (lq : Nat) < s0.heap.objs.size := ly
    rcases hb with z | z | z | ((z | z) | (z | z)) <;> subst z
    · exact Nat.add_lt_add_left (by decide) _
    · exact Nat.add_lt_add_left (by decide) _
    · exact Nat.add_lt_add_left (by decide) _
    · exact Nat.lt_add_of_pos_right (by decide)
    · exact Nat.lt_of_lt_of_le lx' (Nat.le_add_right _ _)
    · exact Nat.add_lt_add_left (by decide) _
    · exact Nat.lt_of_lt_of_le ly' (Nat.le_add_right _ _)
  · (simp only [List.mem_cons, List.not_mem_nil, or_false] at hb)
    rcases hb with z | z | z | z <;> subst z
    · exact Nat.le_add_right _ _
    · exact Nat.le_add_right _ _
    · exact Nat.le_refl _
    · exact Nat.le_add_right _ _
  · have up : ∀ j : Nat, s0.heap.objs.size + j ≠ P := fun j z => by
      rw [← z] at tl
      exact absurd tl (Nat.not_lt_of_le (Nat.le_add_right _ _))
    simp only [List.mem_cons, List.mem_append, List.not_mem_nil, or_false] at hb
    rcases hb with z | z | z | ((z | z) | (z | z)) <;> subst z
    · exact up 4
    · exact up 2
    · exact up 3
    · exact Nat.ne_of_gt tl
    · exact ax.np
    · exact up 1
    · exact ay.np
  · intro z
    have no : ∀ j : Nat, s0.heap.objs.size + j ∉ frs X.stack := fun j z => absurd (frl _ z) (Nat.not_lt_of_le (Nat.le_add_right _ _))
    simp only [List.mem_cons, List.mem_append, List.not_mem_nil, or_false] at hb
    rcases hb with y | y | y | ((y | y) | (y | y)) <;> subst y
    · exact no 4 z
    · exact no 2 z
    · exact no 3 z
    · exact no 0 z
    · exact ax.nf z
    · exact no 1 z
    · exact ay.nf z
end
end V3
/-! any, all, sum, tuple of whole numbers: over any iterable, with tests. -/
namespace V3
open PySem.Spec PySem L2 PyProof.Rows GxR RZ
/-- what is told of a generator expression's tests and element, place by place -/
structure Asks (X : Cx) (scope : Scope) (σ : L2.St) (H1 : Hp) (Row : Nat → (Str → Option Value) → Prop) (ifs : List Expr) (elt : Expr) (pz : Nat → Bool) (F : Nat → V → Prop) : Prop where
  tst : ∀ (h : Heap), HOk X.prog X.w H1 h → ∀ (ce : Env) (B : Around) (mp : Str → Option Value) (Ok : Shared → Prop) (i : Nat), Row i mp → GF X H1 h σ scope ce B mp Ok → GT X ce B Ok ifs (pz i)
  elt : ∀ (h : Heap), HOk X.prog X.w H1 h → ∀ (ce : Env) (B : Around) (mp : Str → Option Value) (Ok : Shared → Prop) (i : Nat), Row i mp → pz i = true → GF X H1 h σ scope ce B mp Ok → GE X ce B Ok elt (F i)
abbrev genG (elt iter tgt : Expr) (ifs : List Expr) (scope : Scope) (gpos : Pos) : Expr := .GeneratorExp elt [⟨tgt, iter, ifs, 0⟩] scope gpos
theorem any_idx {L : List Nat} (f : Nat → Bool) : ((List.range L.length).any fun j => ((L[j]?).map f).getD false) = L.any f := by
  (rw [Bool.eq_iff_iff, List.any_eq_true, List.any_eq_true])
  constructor
  · rintro ⟨j, hj, h⟩
    have hl := List.mem_range.mp hj
    rw [List.getElem?_eq_getElem hl] at h
    exact ⟨_, List.getElem_mem hl, h⟩
  · rintro ⟨i, hi, h⟩
    obtain ⟨j, hj⟩ := List.getElem?_of_mem hi
    exact ⟨j, List.mem_range.mpr (List.getElem?_eq_some_iff.mp hj).1, by rw [hj]; exact h⟩
theorem all_idx {L : List Nat} (f : Nat → Bool) : ((List.range L.length).all fun j => ((L[j]?).map f).getD false) = L.all f := by
  (rw [Bool.eq_iff_iff, List.all_eq_true, List.all_eq_true])
  constructor
  · intro h i hi
    obtain ⟨j, hj⟩ := List.getElem?_of_mem hi
    have := h j (List.mem_range.mpr (List.getElem?_eq_some_iff.mp hj).1)
    rw [hj] at this
    exact this
  · intro h j hj
    have hl := List.mem_range.mp hj
    rw [List.getElem?_eq_getElem hl]
    exact h _ (List.getElem_mem hl)
theorem pre_shift (g : Nat → Int) : ∀ n : Nat, preSum g (n + 1) = g 0 + preSum (fun i => g (i + 1)) n
  | 0 => by
    show preSum g 0 + g 0 = g 0 + 0
    show (0 : Int) + g 0 = g 0 + 0
    omega
  | n + 1 => by
    show preSum g (n + 1) + g (n + 1) = g 0 + (preSum (fun i => g (i + 1)) n + g (n + 1))
    rw [pre_shift g n]
    omega
theorem pre_idx (f : Nat → Int) : ∀ L : List Nat, preSum (fun j => ((L[j]?).map f).getD 0) L.length = (L.map f).sum
  | [] => rfl
  | a :: r => by
    rw [List.length_cons, pre_shift, List.map_cons, List.sum_cons, ← pre_idx f r]
    rfl
section
variable {X : Cx}
theorem isB_of {L : List Nat} {tr : Nat → Bool} {j : Nat} {y : Value} (h : ∃ i, L[j]? = some i ∧ ∃ v, RelV v y ∧ v = .bl (tr i)) : y = .bool (((L[j]?).map tr).getD false) := by
  obtain ⟨i, hi, v, r, rfl⟩ := h
  rw [hi]
  exact r
theorem isI_of {L : List Nat} {val : Nat → Int} {j : Nat} {y : Value} (h : ∃ i, L[j]? = some i ∧ ∃ v, RelV v y ∧ v = .int (val i)) : ∃ tz, y = .int (((L[j]?).map val).getD 0) tz := by
  obtain ⟨i, hi, v, r, rfl⟩ := h
  rw [hi]
  exact r
variable {pins : List (Addr × Obj)} {σ : L2.St} {H1 : Hp} {P g : Addr} {t5 : Shared} {wr' fs' : List Addr} {St' : Nat → Shared → Prop} {L : List Nat} {pos : Pos} {Q : VK}
theorem any_endT {tr : Nat → Bool} (Sg : Stands X g t5 wr' fs' L.length (fun j y => ∃ i, L[j]? = some i ∧ ∃ v, RelV v y ∧ v = .bl (tr i)) St') (on : ∀ t', MovedV wr' fs' t5 t' → ∃ H2, Tabbed P H1 H2 ∧ Inv X pins σ H2 t') (q : ∀ H2, Tabbed P H1 H2 → Q (.bl (L.any tr)) H2) :
    wpAny (model X.prog X.w) X.A (spliced (backTo pos (starEach [] X.env))) (fun vs t6 => wpAny (model X.prog X.w) X.A (call (.builtin "any") (.ref g :: vs)) (EP X pins σ Q) X.xe t6) X.xe t5 := by
  refine Calls.spliced_nil (call_anyV ?_)
  refine Sg.walk.in4.self _ _ _ Sg.st ⟨g, _, _, _, _, _, _, rfl, Sg.walk.in4, Sg.st, fun j y hy => isB_of hy, fun t' mv => ?_⟩
  obtain ⟨H2, tb, J⟩ := on t' mv
  rw [any_idx]
  exact ⟨.bl _, H2, J, rfl, q H2 tb⟩
theorem all_endT {tr : Nat → Bool} (Sg : Stands X g t5 wr' fs' L.length (fun j y => ∃ i, L[j]? = some i ∧ ∃ v, RelV v y ∧ v = .bl (tr i)) St') (on : ∀ t', MovedV wr' fs' t5 t' → ∃ H2, Tabbed P H1 H2 ∧ Inv X pins σ H2 t') (q : ∀ H2, Tabbed P H1 H2 → Q (.bl (L.all tr)) H2) :
    wpAny (model X.prog X.w) X.A (spliced (backTo pos (starEach [] X.env))) (fun vs t6 => wpAny (model X.prog X.w) X.A (call (.builtin "all") (.ref g :: vs)) (EP X pins σ Q) X.xe t6) X.xe t5 := by
  refine Calls.spliced_nil (call_allV ?_)
  refine Sg.walk.in4.self _ _ _ Sg.st ⟨g, _, _, _, _, _, _, rfl, Sg.walk.in4, Sg.st, fun j y hy => isB_of hy, fun t' mv => ?_⟩
  obtain ⟨H2, tb, J⟩ := on t' mv
  rw [all_idx]
  exact ⟨.bl _, H2, J, rfl, q H2 tb⟩
theorem sum_endT {val : Nat → Int} (Sg : Stands X g t5 wr' fs' L.length (fun j y => ∃ i, L[j]? = some i ∧ ∃ v, RelV v y ∧ v = .int (val i)) St') (on : ∀ t', MovedV wr' fs' t5 t' → ∃ H2, Tabbed P H1 H2 ∧ Inv X pins σ H2 t') (q : ∀ H2, Tabbed P H1 H2 → Q (.int (L.map val).sum) H2) :
    wpAny (model X.prog X.w) X.A (spliced (backTo pos (starEach [] X.env))) (fun vs t6 => wpAny (model X.prog X.w) X.A (call (.builtin "sum") (.ref g :: vs)) (EP X pins σ Q) X.xe t6) X.xe t5 := by
  refine Calls.spliced_nil (call_sumV ?_)
  refine Sg.walk.in4.self _ _ _ Sg.st ⟨g, _, _, _, _, _, _, rfl, Sg.walk.in4, Sg.st, fun j y hy => isI_of hy, fun z => Nat.lt_irrefl _ (Sg.wlow _ z), fun z => Nat.lt_irrefl _ (Sg.flow _ z), fun i t2 h' tk st2 k2 => Sg.frame i t2 h' tk _ (Nat.le_refl _) st2 k2, fun t' tz os bare heap => ?_⟩
  obtain ⟨H2, tb, J⟩ := on t' ⟨os, bare, heap⟩
  refine ⟨.int _, H2, J, ⟨tz, rfl⟩, ?_⟩
  rw [pre_idx]
  exact q H2 tb
theorem items_vals {val : Nat → Int} {acc : Array Value} (h : ItemsOf (fun j y => ∃ i, L[j]? = some i ∧ ∃ v, RelV v y ∧ v = .int (val i)) acc L.length) : Vals (L.map fun i => V.int (val i)) acc.toList := by
  have go : ∀ (M : List Nat) (l : List Value), l.length = M.length → (∀ j y, l[j]? = some y → ∃ i, M[j]? = some i ∧ ∃ v, RelV v y ∧ v = .int (val i)) → Vals (M.map fun i => V.int (val i)) l := fun M => by
    induction M with
    | nil =>
      intro l hl _
      cases l with
      | nil => exact .nil
      | cons a r => cases hl
    | cons m r ih =>
      intro l hl hh
      cases l with
      | nil => cases hl
      | cons a s =>
        obtain ⟨i, hi, v, rv, rfl⟩ := hh 0 a rfl
        have e : m = i := Option.some.inj hi
        subst e
        exact .cons rv (ih s (Nat.succ.inj hl) fun j y hj => hh (j + 1) y hj)
  exact go L acc.toList (by rw [Array.length_toList]; exact h.1) fun j y hj => h.2 j y (by simpa using hj)
theorem tup_endT {val : Nat → Int} (Sg : Stands X g t5 wr' fs' L.length (fun j y => ∃ i, L[j]? = some i ∧ ∃ v, RelV v y ∧ v = .int (val i)) St') (on : ∀ t', MovedV wr' fs' t5 t' → ∃ H2, Tabbed P H1 H2 ∧ Inv X pins σ H2 t') (l9 : L.length ≤ sizeLine)
    (q : ∀ H2 l, Tabbed P H1 H2 → H2 l = none → Q (.ref l) (upd H2 l (.tup (L.map fun i => V.int (val i))))) :
    wpAny (model X.prog X.w) X.A (spliced (backTo pos (starEach [] X.env))) (fun vs t6 => wpAny (model X.prog X.w) X.A (call (.type "tuple") (.ref g :: vs)) (EP X pins σ Q) X.xe t6) X.xe t5 := by
  refine Calls.spliced_nil (call_tuple_genV (WalksV.down (A := X.A.in1.in1.in1) Sg.walk) l9 Sg.ty Sg.st Sg.low (fun z => Nat.lt_irrefl _ (Sg.wlow _ z)) (fun z => Nat.lt_irrefl _ (Sg.flow _ z)) (fun i t2 h' tk st2 k2 => Sg.frame i t2 h' tk _ (Nat.le_refl _) st2 k2) fun t' acc mv items => ?_)
  obtain ⟨H2, tb, J⟩ := on t' mv
  have rv := items_vals items
  have I2 : Inv X pins σ (upd H2 t'.heap.objs.size (.tup (L.map fun i => V.int (val i)))) { t' with heap := t'.heap.push { cls := .type "tuple", data := .seq acc } } :=
    J.laid (t' := t'.toks) (fun b o e => Heap.get?_push_of_some _ e) (Nat.le_refl _) (show ObjOk X.prog X.w _ _ _ (.tup _) from ⟨by rw [List.length_map]; exact l9, acc.toList, rv, by
      (have e : acc.toList.toArray = acc := by simp)
      rw [e]
      exact IsTup.new _ _⟩)
  exact ⟨.ref t'.heap.objs.size, _, I2, rfl, q H2 _ tb (J.hok.fresh (Nat.le_refl _))⟩
end
section
variable {X : Cx}
def tAnyG (X : Cx) (P : Addr) (scope : Scope) (ifs : List Expr) (elt : Expr) (ti : TI) : TE := fun σ H Q => ti σ H fun n Row H1 => ∃ (pz tr : Nat → Bool), Asks X scope σ H1 Row ifs elt pz (fun i v => v = .bl (tr i)) ∧ ∀ H2, Tabbed P H1 H2 → Q (.bl (((List.range n).filter pz).any tr)) H2
def tAllG (X : Cx) (P : Addr) (scope : Scope) (ifs : List Expr) (elt : Expr) (ti : TI) : TE := fun σ H Q => ti σ H fun n Row H1 => ∃ (pz tr : Nat → Bool), Asks X scope σ H1 Row ifs elt pz (fun i v => v = .bl (tr i)) ∧ ∀ H2, Tabbed P H1 H2 → Q (.bl (((List.range n).filter pz).all tr)) H2
def tSumG (X : Cx) (P : Addr) (scope : Scope) (ifs : List Expr) (elt : Expr) (ti : TI) : TE := fun σ H Q => ti σ H fun n Row H1 => ∃ (pz : Nat → Bool) (val : Nat → Int), Asks X scope σ H1 Row ifs elt pz (fun i v => v = .int (val i)) ∧ ∀ H2, Tabbed P H1 H2 → Q (.int (((List.range n).filter pz).map val).sum) H2
def tTupG (X : Cx) (P : Addr) (scope : Scope) (ifs : List Expr) (elt : Expr) (ti : TI) : TE := fun σ H Q => ti σ H fun n Row H1 => ∃ (pz : Nat → Bool) (val : Nat → Int), Asks X scope σ H1 Row ifs elt pz (fun i v => v = .int (val i)) ∧ n ≤ 1000 ∧
  ∀ H2 l, Tabbed P H1 H2 → H2 l = none → Q (.ref l) (upd H2 l (.tup (((List.range n).filter pz).map fun i => V.int (val i))))
variable {c P : Addr} {iter tgt elt : Expr} {ifs : List Expr} {p gpos pos : Pos} {scope : Scope} {ti : TI} {k : Nat}
theorem pe_anyG (hr : Room k X.A) (hg : Gl X "any") (hma : X.mg "any" = none) (TB : TabB X.base X.mg c P) (hcode : X.env.code = .ref c) (S : GenS0 X.env scope) (hi : IR X P iter tgt scope ti) (nofold : ∀ v, genFold iter X.env v = pure v)
    (he : starEach [genG elt iter tgt ifs scope gpos] X.env = (false, eval (genG elt iter tgt ifs scope gpos) X.env) :: starEach [] X.env := by rfl) : PE X (.Call (.Name "any" p) [genG elt iter tgt ifs scope gpos] [] pos) (tAnyG X P scope ifs elt ti) := by
  (refine ⟨fun pins s σ H Q I h => ?_⟩)
  refine wpAny_Call_Name_kw (ld_blt (u := .builtin "any") I hg hma (by decide +kernel) ?_)
  refine PyProof.Rows.callWith_builtin1 (id := "any") ?_ he (by rfl)
  rw [he]
  show wpAny _ _ (spliced ((false, eval (genG elt iter tgt ifs scope gpos) X.env) :: backTo pos (starEach [] X.env))) _ _ s
  refine Calls.spliced_cons (genexpD hr.hd S.co (closure_ok S.free) S.cell S.dot S.kind (by have := hr.dp; omega) ?_ nofold)
  refine hi.run pins s σ H _ _ I h fun H1 s0 hz I fp wr n Bd St I0 tab rdy _ ⟨pz, tr, ask, q⟩ => ?_
  exact gen_coreT (F := fun i v => v = .bl (tr i)) (pz := pz) I0 hr TB hcode S rdy tab (fun ce B mp Ok i bd G => ask.tst _ I0.hok ce B mp Ok i bd G) (fun ce B mp Ok i bd pi G => ask.elt _ I0.hok ce B mp Ok i bd pi G) (fun g t5 wr' fs' St' Sg on => any_endT (P := P) (H1 := H1) Sg on q)
theorem pe_allG (hr : Room k X.A) (hg : Gl X "all") (hma : X.mg "all" = none) (TB : TabB X.base X.mg c P) (hcode : X.env.code = .ref c) (S : GenS0 X.env scope) (hi : IR X P iter tgt scope ti) (nofold : ∀ v, genFold iter X.env v = pure v)
    (he : starEach [genG elt iter tgt ifs scope gpos] X.env = (false, eval (genG elt iter tgt ifs scope gpos) X.env) :: starEach [] X.env := by rfl) : PE X (.Call (.Name "all" p) [genG elt iter tgt ifs scope gpos] [] pos) (tAllG X P scope ifs elt ti) := by
  (refine ⟨fun pins s σ H Q I h => ?_⟩)
  refine wpAny_Call_Name_kw (ld_blt (u := .builtin "all") I hg hma (by decide +kernel) ?_)
  refine PyProof.Rows.callWith_builtin1 (id := "all") ?_ he (by rfl)
  rw [he]
  show wpAny _ _ (spliced ((false, eval (genG elt iter tgt ifs scope gpos) X.env) :: backTo pos (starEach [] X.env))) _ _ s
  refine Calls.spliced_cons (genexpD hr.hd S.co (closure_ok S.free) S.cell S.dot S.kind (by have := hr.dp; omega) ?_ nofold)
  refine hi.run pins s σ H _ _ I h fun H1 s0 hz I fp wr n Bd St I0 tab rdy _ ⟨pz, tr, ask, q⟩ => ?_
  exact gen_coreT (F := fun i v => v = .bl (tr i)) (pz := pz) I0 hr TB hcode S rdy tab (fun ce B mp Ok i bd G => ask.tst _ I0.hok ce B mp Ok i bd G) (fun ce B mp Ok i bd pi G => ask.elt _ I0.hok ce B mp Ok i bd pi G) (fun g t5 wr' fs' St' Sg on => all_endT (P := P) (H1 := H1) Sg on q)
theorem pe_sumG (hr : Room k X.A) (hg : Gl X "sum") (hma : X.mg "sum" = none) (TB : TabB X.base X.mg c P) (hcode : X.env.code = .ref c) (S : GenS0 X.env scope) (hi : IR X P iter tgt scope ti) (nofold : ∀ v, genFold iter X.env v = pure v)
    (he : starEach [genG elt iter tgt ifs scope gpos] X.env = (false, eval (genG elt iter tgt ifs scope gpos) X.env) :: starEach [] X.env := by rfl) : PE X (.Call (.Name "sum" p) [genG elt iter tgt ifs scope gpos] [] pos) (tSumG X P scope ifs elt ti) := by
  (refine ⟨fun pins s σ H Q I h => ?_⟩)
  refine wpAny_Call_Name_kw (ld_blt (u := .builtin "sum") I hg hma (by decide +kernel) ?_)
  refine PyProof.Rows.callWith_builtin1 (id := "sum") ?_ he (by rfl)
  rw [he]
  show wpAny _ _ (spliced ((false, eval (genG elt iter tgt ifs scope gpos) X.env) :: backTo pos (starEach [] X.env))) _ _ s
  refine Calls.spliced_cons (genexpD hr.hd S.co (closure_ok S.free) S.cell S.dot S.kind (by have := hr.dp; omega) ?_ nofold)
  refine hi.run pins s σ H _ _ I h fun H1 s0 hz I fp wr n Bd St I0 tab rdy _ ⟨pz, val, ask, q⟩ => ?_
  exact gen_coreT (F := fun i v => v = .int (val i)) (pz := pz) I0 hr TB hcode S rdy tab (fun ce B mp Ok i bd G => ask.tst _ I0.hok ce B mp Ok i bd G) (fun ce B mp Ok i bd pi G => ask.elt _ I0.hok ce B mp Ok i bd pi G) (fun g t5 wr' fs' St' Sg on => sum_endT (P := P) (H1 := H1) Sg on q)
theorem pe_tupG (hr : Room k X.A) (hg : Gl X "tuple") (hma : X.mg "tuple" = none) (TB : TabB X.base X.mg c P) (hcode : X.env.code = .ref c) (S : GenS0 X.env scope) (hi : IR X P iter tgt scope ti) (nofold : ∀ v, genFold iter X.env v = pure v)
    (he : starEach [genG elt iter tgt ifs scope gpos] X.env = (false, eval (genG elt iter tgt ifs scope gpos) X.env) :: starEach [] X.env := by rfl) : PE X (.Call (.Name "tuple" p) [genG elt iter tgt ifs scope gpos] [] pos) (tTupG X P scope ifs elt ti) := by
  (refine ⟨fun pins s σ H Q I h => ?_⟩)
  refine wpAny_Call_Name_kw (ld_blt (u := .type "tuple") I hg hma (by decide +kernel) ?_)
  refine PyProof.Rows.callWith_type1 (T := "tuple") ?_ he (by rfl)
  rw [he]
  show wpAny _ _ (spliced ((false, eval (genG elt iter tgt ifs scope gpos) X.env) :: backTo pos (starEach [] X.env))) _ _ s
  refine Calls.spliced_cons (genexpD hr.hd S.co (closure_ok S.free) S.cell S.dot S.kind (by have := hr.dp; omega) ?_ nofold)
  refine hi.run pins s σ H _ _ I h fun H1 s0 hz I fp wr n Bd St I0 tab rdy _ ⟨pz, val, ask, n9, q⟩ => ?_
  refine gen_coreT (F := fun i v => v = .int (val i)) (pz := pz) I0 hr TB hcode S rdy tab (fun ce B mp Ok i bd G => ask.tst _ I0.hok ce B mp Ok i bd G) (fun ce B mp Ok i bd pi G => ask.elt _ I0.hok ce B mp Ok i bd pi G) (fun g t5 wr' fs' St' Sg on => tup_endT (P := P) (H1 := H1) Sg on ?_ q)
  refine Nat.le_of_lt (small1000 (Nat.le_trans (List.length_filter_le _ _) ?_))
  rw [List.length_drop, List.length_range]
  omega
end
end V3
/-! A generator expression whose elements are new things: what is told of each lies in the heap. -/
namespace V3
open PySem.Spec PySem L2 PyProof.Rows GxR RZ
structure QuietH (prog : Program) (w : World) (ce : Env) (ifs : List Expr) (elt : Expr) (old wr fs : List Addr) (Bd : Nat → (Str → Option Value) → Prop) (pz : Nat → Bool) (F : Nat → Value → Heap → Prop) (ref : Heap) (fr : Option (List Env)) (D U : Nat) : Prop where
  tests : ∀ (B : Around) Ex i (t : Shared) mp, B.handled = none → B.frames = fr → B.depth ≤ D → B.units ≤ U → AllBare t.gens → Bd i mp → t.heap.Ns ce.locals mp → KeptO old wr fs ref t.heap → (∀ b ∈ wr, ∃ o, t.heap.get? b = some o) →
    wpAny (model prog w) B (testsOf ifs ce) (fun ok t' => ok = pz i ∧ KeptG fs t t') Ex t
  elt : ∀ (B : Around) Ex i (t : Shared) mp, B.handled = none → B.frames = fr → B.depth ≤ D → B.units ≤ U → AllBare t.gens → Bd i mp → pz i = true → t.heap.Ns ce.locals mp → KeptO old wr fs ref t.heap → (∀ b ∈ wr, ∃ o, t.heap.get? b = some o) →
    wpAny (model prog w) B (eval elt ce) (fun y t' => F i y t'.heap ∧ KeptG fs t t') Ex t
def protoH (C : Addr) (fp old wr fs : List Addr) (pz : Nat → Bool) (n : Nat) (F : Nat → Value → Heap → Prop) : Protocol := fun left t0 v t go =>
  (∃ i, (passing pz n 0)[(passing pz n 0).length - 1 - left]? = some i ∧ F i v t.heap) ∧ SinceG C wr fs t0 t ∧
    ∀ u : Shared, (∀ b ∈ C :: (fp ++ old), ∀ o, t.heap.get? b = some o → u.heap.get? b = some o) → AllBare u.gens → go (.send .none) u
structure WalksH (prog : Program) (w : World) (A : Around) (I : Addr) (wr fs : List Addr) (n : Nat) (P : Nat → Value → Heap → Prop) (St : Nat → Shared → Prop) : Prop where
  item : ∀ i (t : Shared) (Q : Option Value → Shared → Prop) (E : Value → Shared → Prop), i < n → St i t → (∀ v t', P i v t'.heap → St (i + 1) t' → MovedV wr fs t t' → Q (some v) t') → wpAny (model prog w) A (pyNext (.ref I)) Q E t
  done : ∀ (t : Shared) (Q : Option Value → Shared → Prop) (E : Value → Shared → Prop), St n t → (∀ t', MovedV wr fs t t' → Q none t') → wpAny (model prog w) A (pyNext (.ref I)) Q E t
  self : ∀ (t : Shared) (Q : Value → Shared → Prop) (E : Value → Shared → Prop), St 0 t → Q (.ref I) t → wpAny (model prog w) A (pyIter (.ref I)) Q E t
section
variable {w : World} {prog : Program} {A : Around}
theorem WalksH.down {I : Addr} {wr fs : List Addr} {n : Nat} {P : Nat → Value → Heap → Prop} {St : Nat → Shared → Prop} (Wk : WalksH prog w A.in1 I wr fs n P St) : WalksH prog w A I wr fs n P St :=
  ⟨fun i t Q E il st k => wpAny_of_in1 (Wk.item i t Q E il st k), fun t Q E st k => wpAny_of_in1 (Wk.done t Q E st k), fun t Q E st k => wpAny_of_in1 (Wk.self t Q E st k)⟩
theorem WalksH.in4 {I : Addr} {wr fs : List Addr} {n : Nat} {P : Nat → Value → Heap → Prop} {St : Nat → Shared → Prop} (Wk : WalksH prog w A.in4 I wr fs n P St) : WalksH prog w A.in1 I wr fs n P St :=
  WalksH.down (A := A.in1) (WalksH.down (A := A.in1.in1) (WalksH.down (A := A.in1.in1.in1) Wk))
/-- the generator at a, number g, before its j-th thing -/
def AtH (prog : Program) (w : World) (A : Around) (a : Addr) (g : Nat) (C : Addr) (fp old wr fs : List Addr) (pz : Nat → Bool) (n : Nat) (F : Nat → Value → Heap → Prop) (j : Nat) (t : Shared) : Prop :=
  t.heap.IsGen a g ∧ t.heap.NoLimit ∧ AllBare t.gens ∧ ∃ gs, t.gens[g]? = some gs ∧ ∀ u : Shared, (∀ b ∈ C :: (fp ++ old), ∀ o, t.heap.get? b = some o → u.heap.get? b = some o) → AllBare u.gens →
    gs.Goes (model prog w) A.in1 (endB C wr fs) (protoH C fp old wr fs pz n F) ((passing pz n 0).length - j) (.send .none) u
/-- the generator stands as it stood where one new object is written -/
theorem AtH.frame {prog : Program} {w : World} {A : Around} {a S : Addr} {g : Nat} {C : Addr} {fp old wr fs : List Addr} {pz : Nat → Bool} {n : Nat} {F : Nat → Value → Heap → Prop} {j : Nat} {t : Shared} {h' : Heap} {tk : Nat}
    (st : AtH prog w A a g C fp old wr fs pz n F j t) (k : ∀ b o, b ≠ S → t.heap.get? b = some o → h'.get? b = some o) (na : a ≠ S) (nc : cStatics ≠ S) (off : ∀ b ∈ C :: (fp ++ old), b ≠ S) : AtH prog w A a g C fp old wr fs pz n F j { t with heap := h', toks := tk } := by
  obtain ⟨⟨o, nm, qn, ho, more⟩, ⟨mc, nsc, nol⟩, bare, gs, at_, goes⟩ := st
  exact ⟨⟨o, nm, qn, k a o na ho, more⟩, ⟨mc, nsc.at' fun o it => k _ o nc it, nol⟩, bare, gs, at_, fun u hal bu => goes u (fun b hb o it => hal b hb o (k b o (off b hb) it)) bu⟩
theorem seg_loopH {elt iter : Expr} {tgt : Expr} {ifs : List Expr} {scope : Scope} {pos : Pos} {I : Addr} {fp old wr fs : List Addr} {n : Nat} {Bd : Nat → (Str → Option Value) → Prop} {St : Nat → Heap → Prop} {ce : Env} {fr : Option (List Env)}
    (quiet0 : A.handled = none) (frA : (A.over (loopD elt tgt iter ifs scope pos I ce) []).frames = fr) (Wk : Draws2 prog w tgt ce I fp wr n Bd St) (pz : Nat → Bool) (F : Nat → Value → Heap → Prop) (ref : Heap)
    (noco : ce.scope.isCoroutine = false) (apart : ce.locals ∉ fp) (apartO : ce.locals ∉ old) (sepF : ∀ b ∈ fp, b ∉ fs) (hQ : QuietH prog w ce ifs elt old wr fs Bd pz F ref fr (A.depth + 1) (A.units + 3)) (live : ∀ i h, St i h → ∀ b ∈ wr, ∃ o, h.get? b = some o) :
    ∀ (k i : Nat) (t0 t : Shared) (mp : Str → Option Value), n - i = k → i ≤ n → St i t.heap → t.heap.Ns ce.locals mp → SinceG ce.locals wr fs t0 t →
      KeptO old wr fs ref t.heap →
      Seg (model prog w) A (endB ce.locals wr fs) (protoH ce.locals fp old wr fs pz n F) (passing pz n i).length t0 (loopD elt tgt iter ifs scope pos I ce) ((model prog w).den (loopD elt tgt iter ifs scope pos I ce)) [] t := by
  have q0 : (A.over (loopD elt tgt iter ifs scope pos I ce) []).handled = none := quiet0
  have qd : (A.over (loopD elt tgt iter ifs scope pos I ce) []).depth ≤ A.depth + 1 := Nat.le_of_eq rfl
  have qu : (A.over (loopD elt tgt iter ifs scope pos I ce) []).units ≤ A.units + 3 := Nat.le_of_eq rfl
  have offW : ce.locals ∉ wr := fun z => apart (Wk.sub _ z)
  intro k
  induction k with
  | zero =>
    intro i t0 t mp ek il st ns since kept
    obtain rfl : i = n := by omega
    show Seg _ A _ _ _ t0 _ ((compTurn (.GeneratorExp elt [⟨tgt, iter, ifs, 0⟩] scope pos) 0 (.ref I) .none ce).onRaise (leaving ce)) [] t
    (rw [compTurn_gen, Sem.onRaise_eq_wrap])
    (refine seg_bind_wrap (wpAny_standAt ?_))
    refine seg_bind_wrap (Wk.done _ q0 t _ _ st fun hp tk stay => ?_)
    exact seg_end (.ok .next) ⟨rfl, by rw [passing_end]; rfl, since.step fun b o _ nw it => stay b o nw it⟩
  | succ k again =>
    intro i t0 t mp ek il st ns since kept
    have more : i < n := by omega
    show Seg _ A _ _ _ t0 _ ((compTurn (.GeneratorExp elt [⟨tgt, iter, ifs, 0⟩] scope pos) 0 (.ref I) .none ce).onRaise (leaving ce)) [] t
    (rw [compTurn_gen, Sem.onRaise_eq_wrap])
    (refine seg_bind_wrap (wpAny_standAt ?_))
    refine seg_bind_wrap (Wk.one _ q0 i t mp _ _ more st ns fun v t1 h1 => ?_)
    refine seg_bind_wrap (wpAny_mono h1 (fun _ t2 h2 => ?_) fun _ _ z => z.elim)
    refine seg_bind_wrap (wpAny_mono h2 (fun _ t3 h3 => ?_) fun _ _ z => z.elim)
    obtain ⟨hb, tk, mp', rfl, bound, stb, nsb, stayB⟩ := h3
    have keptB : KeptO old wr fs ref hb := kept.exact fun b hm nw o it => stayB b o (fun z => apartO (z ▸ hm)) nw it
    have bareT : AllBare t.gens := since.bare
    refine seg_bind_wrap (GenW.wpAny_gsz (n := t.gens.size) (Nat.le_refl _) (wpAny_mono (hQ.tests _ _ i _ _ q0 frA qd qu bareT bound nsb keptB (live _ _ stb)) (fun ok tc kc szc => ?_) fun _ _ z => z))
    obtain ⟨rfl, kc⟩ := kc
    have stc : St (i + 1) tc.heap := Wk.frame _ _ _ stb fun b hm o it => (kc.heap b o it).1 (sepF b hm)
    have nsc := kc.heap.ns nsb
    have sinceC : SinceG ce.locals wr fs t0 tc := (since.step stayB).more szc kc
    cases ep : pz i with
    | false =>
      rw [passing_false more ep]
      (simp only [Bool.false_eq_true, if_false])
      exact seg_again rfl (again (i + 1) t0 _ _ (by omega) more stc nsc sinceC (keptB.km kc.heap))
    | true =>
      rw [passing_true more ep, List.length_cons]
      simp only [if_true]
      have out : ∀ v, yieldOut ce v = yieldValue v := fun v => by simp only [yieldOut, noco, Bool.false_eq_true, if_false]
      simp only [out]
      (rw [Sem.bind_eq_wrap', Sem.bind_eq_wrap', Sem.wrap_wrap, Sem.wrap_wrap])
      refine seg_wrap (GenW.wpAny_gsz (n := tc.gens.size) (Nat.le_refl _) (wpAny_mono (hQ.elt _ _ i _ _ q0 frA qd qu sinceC.bare bound ep nsc (keptB.km kc.heap) (live _ _ stc)) (fun y td hd szd => ?_) fun _ _ z => z))
      obtain ⟨fy, kd⟩ := hd
      refine seg_at (seg_yield rfl rfl rfl ⟨⟨i, passing_here more ep, fy⟩, sinceC.more szd kd, fun u hal bu => ?_⟩)
      refine seg_again rfl (again (i + 1) u u _ (by omega) more (Wk.frame _ _ _ stc fun b hm o it => hal b (List.mem_cons_of_mem _ (List.mem_append_left _ hm)) o ((kd.heap b o it).1 (sepF b hm)))
        ((kd.heap.ns nsc).at' fun o it => hal _ (List.mem_cons_self ..) o it) (SinceG.refl bu) (((keptB.km kc.heap).km kd.heap).exact fun b hm _ o it => hal b (List.mem_cons_of_mem _ (List.mem_append_right _ hm)) o it))
theorem seg_startH {elt iter : Expr} {tgt : Expr} {ifs : List Expr} {scope : Scope} {pos : Pos} {I : Addr} {fp old wr fs : List Addr} {n : Nat} {Bd : Nat → (Str → Option Value) → Prop} {St : Nat → Heap → Prop} {ce : Env} {fr : Option (List Env)}
    (quiet0 : A.handled = none) (frA : (A.over (loopD elt tgt iter ifs scope pos I ce) []).frames = fr) (Wk : Draws2 prog w tgt ce I fp wr n Bd St) (pz : Nat → Bool) (F : Nat → Value → Heap → Prop) (ref : Heap)
    (noco : ce.scope.isCoroutine = false) (apart : ce.locals ∉ fp) (apartO : ce.locals ∉ old) (sepF : ∀ b ∈ fp, b ∉ fs) (hQ : QuietH prog w ce ifs elt old wr fs Bd pz F ref fr (A.depth + 1) (A.units + 3)) (live : ∀ i h, St i h → ∀ b ∈ wr, ∃ o, h.get? b = some o)
    (t0 t : Shared) (mp : Str → Option Value) (st : St 0 t.heap) (ns : t.heap.Ns ce.locals mp) (since : SinceG ce.locals wr fs t0 t) (kept : KeptO old wr fs ref t.heap) :
    Seg (model prog w) A (endB ce.locals wr fs) (protoH ce.locals fp old wr fs pz n F) (passing pz n 0).length t0 (startD elt tgt iter ifs scope pos I ce) ((model prog w).den (startD elt tgt iter ifs scope pos I ce)) [] t := by
  have q0 : (A.over (startD elt tgt iter ifs scope pos I ce) []).handled = none := quiet0
  have lp := seg_loopH (iter := iter) (scope := scope) (pos := pos) quiet0 frA Wk pz F ref noco apart apartO sepF hQ live n 0 t0 t mp (Nat.sub_zero _) (Nat.zero_le _) st ns since kept
  show Seg _ A _ _ _ t0 _ ((compStart (.GeneratorExp elt [⟨tgt, iter, ifs, 0⟩] scope pos) 0 (.ref I) .none ce).onRaise (leaving ce)) [] t
  unfold compStart
  rw [Sem.onRaise_eq_wrap]
  show Seg _ A _ _ _ t0 _ ((ask >>= _).wrap _ _ _ _) [] t
  (refine seg_bind_wrap (wpAny_askSetting ?_))
  split
  · exact seg_again rfl lp
  · first
      | exact seg_bind_wrap (wpAny_rule (seg_bind_wrap (wpAny_standAt (seg_bind_wrap (Wk.self _ q0 t _ _ st (seg_again rfl lp))))))
      | (refine seg_bind_wrap (wpAny_rule ?_)
         show Seg _ A _ _ _ t0 _ ((standAt iter.pos >>= _).wrap _ _ _ _) [] t
         exact seg_bind_wrap (wpAny_standAt (seg_bind_wrap (Wk.self _ q0 t _ _ st (seg_again rfl lp)))))
theorem AtH.fresh {elt iter : Expr} {tgt : Expr} {ifs : List Expr} {scope : Scope} {pos : Pos} {I a : Addr} {g : Nat} {fp old wr fs : List Addr} {n : Nat} {Bd : Nat → (Str → Option Value) → Prop} {St : Nat → Heap → Prop} {ce : Env} {fr : Option (List Env)}
    (quiet0 : A.handled = none) (frA : (A.in1.over (loopD elt tgt iter ifs scope pos I ce) []).frames = fr) (Wk : Draws2 prog w tgt ce I fp wr n Bd St) (pz : Nat → Bool) (F : Nat → Value → Heap → Prop)
    (noco : ce.scope.isCoroutine = false) (apart : ce.locals ∉ fp) (apartO : ce.locals ∉ old) (sepF : ∀ b ∈ fp, b ∉ fs) {t : Shared} {mp : Str → Option Value} (hQ : QuietH prog w ce ifs elt old wr fs Bd pz F t.heap fr (A.depth + 1) (A.units + 4)) (live : ∀ i h, St i h → ∀ b ∈ wr, ∃ o, h.get? b = some o)
    (gen : t.heap.IsGen a g) (new : t.gens[g]? = some (.fresh (startD elt tgt iter ifs scope pos I ce))) (st : St 0 t.heap) (ns : t.heap.Ns ce.locals mp) (lim : t.heap.NoLimit) (bare : AllBare t.gens) : AtH prog w A a g ce.locals fp old wr fs pz n F 0 t :=
  ⟨gen, lim, bare, _, new, fun u hal bu => ⟨rfl, seg_startH (A := A.in1) quiet0 frA Wk pz F t.heap noco apart apartO sepF hQ live u u mp (Wk.frame _ _ _ st fun b hm o it => hal b (List.mem_cons_of_mem _ (List.mem_append_left _ hm)) o it)
    (ns.at' fun o it => hal _ (List.mem_cons_self ..) o it) (SinceG.refl bu) fun b hm _ o it => ⟨fun _ => hal b (List.mem_cons_of_mem _ (List.mem_append_right _ hm)) o it, o.slots, hal b (List.mem_cons_of_mem _ (List.mem_append_right _ hm)) o it⟩⟩⟩
theorem walksH (quiet0 : A.handled = none) (a : Addr) (g : Nat) (C : Addr) (fp old wr fs : List Addr) (pz : Nat → Bool) (n : Nat) (F : Nat → Value → Heap → Prop) (ac : a ≠ C) (aw : a ∉ wr) (af : a ∉ fs)
    (room : A.depth < recursionLimit) (csC : cStatics ≠ C) (csW : cStatics ∉ wr) (csF : cStatics ∉ fs) :
    WalksH prog w A a (C :: wr) fs (passing pz n 0).length (fun j y h => ∃ i, (passing pz n 0)[j]? = some i ∧ F i y h) (AtH prog w A a g C fp old wr fs pz n F) where
  item := fun j t Q E jl st want => by
    obtain ⟨gen, lim, bare, gs, at_, goes⟩ := st
    obtain ⟨r, hr⟩ : ∃ r, (passing pz n 0).length - j = r + 1 := ⟨(passing pz n 0).length - j - 1, by omega⟩
    rw [hr] at goes
    have gl : g < t.gens.size := (Array.getElem?_eq_some_iff.mp at_).1
    refine wpAny_pyNext_genexpQ (P := fun k t0 t1 => k = 0 ∧ SinceG C wr fs t0 t1) quiet0 lim room gen at_ (goes _ (fun _ _ _ it => it) (bare_set bare rfl)) (fun v t1 gs1 b1 told => ?_) (fun t1 ended hp keep => ?_)
    · obtain ⟨⟨i, hi, fv⟩, since, go⟩ := told
      rw [show (passing pz n 0).length - 1 - (r + 1 - 1) = j by omega] at hi
      have gl1 : g < t1.gens.size := by
        have := since.size
        rw [set_size] at this
        omega
      have g1 : (t1.setGen g gs1).gens[g]? = some gs1 := set_at gl1
      obtain ⟨o, nm, qn, ho, more⟩ := gen
      obtain ⟨mc, nsc, nol⟩ := lim
      refine want v _ ⟨i, hi, fv⟩ ⟨⟨o, nm, qn, (since.heap a o ac aw ho).1 af, more⟩, ⟨mc, nsc.at' fun o it => (since.heap cStatics o csC csW it).1 csF, nol⟩, bare_set since.bare b1, gs1, g1, fun u hal bu => ?_⟩
        ⟨since.os, bare_set since.bare b1, fun b o hb it => since.heap b o (fun z => hb (z ▸ List.mem_cons_self ..)) (fun z => hb (List.mem_cons_of_mem _ z)) it⟩
      rw [show (passing pz n 0).length - (j + 1) = r by omega]
      exact go u hal bu
    · exact absurd ended.1 (Nat.succ_ne_zero r)
  done := fun t Q E st want => by
    obtain ⟨gen, lim, bare, gs, at_, goes⟩ := st
    rw [Nat.sub_self] at goes
    refine wpAny_pyNext_genexpQ (P := fun k t0 t1 => k = 0 ∧ SinceG C wr fs t0 t1) quiet0 lim room gen at_ (goes _ (fun _ _ _ it => it) (bare_set bare rfl)) (fun v t1 gs1 b1 told => ?_) (fun t1 ended hp keep => ?_)
    · obtain ⟨_, since, go⟩ := told
      exact (go t1 (fun _ _ _ it => it) since.bare).elim
    · obtain ⟨_, since⟩ := ended
      exact want _ ⟨since.os, bare_set since.bare rfl, fun b o hb it => by
        obtain ⟨p1, sl, p2⟩ := since.heap b o (fun z => hb (z ▸ List.mem_cons_self ..)) (fun z => hb (List.mem_cons_of_mem _ z)) it
        exact ⟨fun nf => keep b o (p1 nf), sl, keep b _ p2⟩⟩
  self := fun _ _ _ st want => wpAny_pyIter_gen st.1 want
end
section
variable {w : World} {prog : Program} {A : Around} {E : Value → Shared → Prop} {s : Shared}
/-- what the maker of such a generator has to know, behind the code object and the builtins -/
def MadeH (prog : Program) (w : World) (A : Around) (env : Env) (elt iter tgt : Expr) (ifs : List Expr) (scope : Scope) (cl : List (Str × Addr)) (pos : Pos) (Q : Value → Shared → Prop) (it code : Value) (bi : Addr) (t : Shared) : Prop :=
  AllBare t.gens ∧ ∃ (I : Addr) (fp wr fs : List Addr) (n : Nat) (Bd : Nat → (Str → Option Value) → Prop) (St : Nat → Heap → Prop) (pz : Nat → Bool) (F : Nat → Value → Heap → Prop), it = .ref I ∧ Draws2 prog w tgt (genEnv scope cl t.heap.objs.size code bi env) I fp wr n Bd St ∧ St 0 t.heap ∧ (∀ i h, St i h → ∀ b ∈ wr, ∃ o, h.get? b = some o) ∧
    (∀ b ∈ fp, b < t.heap.objs.size) ∧ t.heap.NoLimit ∧ cStatics ∉ wr ∧ (∀ b ∈ fs, b ≤ t.heap.objs.size) ∧ (∀ b ∈ fp, b ∉ fs) ∧ cStatics ∉ fs ∧
    (∀ ref : Heap, (∀ b o, t.heap.get? b = some o → ref.get? b = some o) →
      QuietH prog w (genEnv scope cl t.heap.objs.size code bi env) ifs elt (List.range t.heap.objs.size) wr fs Bd pz F ref (A.in4.in1.over (loopD elt tgt iter ifs scope pos I (genEnv scope cl t.heap.objs.size code bi env)) []).frames (A.depth + 1) (A.units + 8)) ∧
    ∀ a hp tk gs, gs.bare = true → t.heap.objs.size < a → hp.objs.size = a + 1 → (∀ b o, t.heap.get? b = some o → hp.get? b = some o) →
      WalksH prog w A.in4 a (t.heap.objs.size :: wr) fs (passing pz n 0).length (fun j y h => ∃ i, (passing pz n 0)[j]? = some i ∧ F i y h) (AtH prog w A.in4 a t.gens.size t.heap.objs.size fp (List.range t.heap.objs.size) wr fs pz n F) →
      AtH prog w A.in4 a t.gens.size t.heap.objs.size fp (List.range t.heap.objs.size) wr fs pz n F 0 { t with gens := t.gens.push gs, toks := tk, heap := hp } → Q (.ref a) { t with gens := t.gens.push gs, toks := tk, heap := hp }
theorem genexpH {env : Env} {elt iter : Expr} {tgt : Expr} {ifs : List Expr} {scope : Scope} {cl : List (Str × Addr)} {pos : Pos} {Q : Value → Shared → Prop}
    (quiet0 : A.handled = none) (noco : scope.isCoroutine = false) (clo : closureFor scope env = pure cl) (nocell : ∀ y ∈ scope.names, y.2 ≠ .cell) (dot0 : scope.names.lookup (".0" : Str) = some NameKind.local)
    (kd : scope.kind = .function) (room : A.depth < recursionLimit)
    (h : wpAny (model prog w) A (eval iter env) (fun xv t1 => wpAny (model prog w) A (pyIter xv) (fun it t2 => t2.heap.NoLimit ∧
      wpAny (model prog w) A (genexprCode env pos (env.qual ++ "<genexpr>") scope) (fun code t3 => wpAny (model prog w) A (builtinsFor env.globals env.builtins) (fun bi t4 => MadeH prog w A env elt iter tgt ifs scope cl pos Q it code bi t4) E t3) E t2) E t1) E s)
    (nofold : ∀ v, genFold iter env v = pure v) : wpAny (model prog w) A (eval (.GeneratorExp elt [⟨tgt, iter, ifs, 0⟩] scope pos) env) Q E s := by
  refine wpAny_GeneratorExp_make noco clo nocell dot0 kd room (wpAny_mono h (fun xv t1 a1 => wpAny_mono a1 (fun it t2 a2 => ⟨a2.1, wpAny_mono a2.2 (fun code t3 a3 => wpAny_mono a3 (fun bi t4 a4 => ?_)
    fun _ _ z => z) fun _ _ z => z⟩) fun _ _ z => z) fun _ _ z => z) nofold
  obtain ⟨bare, I, fp, wr, fs, n, Bd, St, pz, F, rfl, Wk, st, live, low, lim, csW, lowF, sepF, csF, hQ, want⟩ := a4
  have cl4 : cStatics < t4.heap.objs.size := by
    obtain ⟨_, q, _⟩ := lim
    exact q.lt
  intro hp nsp same
  have sz : hp.objs.size = t4.heap.objs.size + 1 := by rw [same.1, Heap.size_push]
  have keep : ∀ b o, t4.heap.get? b = some o → hp.get? b = some o := fun b o it => same.extBut b o (Nat.ne_of_lt (Heap.lt_size it)) (Heap.get?_push_of_some _ it)
  have inR : ∀ b ∈ wr, b ∈ List.range t4.heap.objs.size := fun b hb => List.mem_range.mpr (low b (Wk.sub b hb))
  have nC : hp.objs.size ≠ t4.heap.objs.size := by
    rw [sz]
    exact Nat.succ_ne_self _
  have nR : hp.objs.size ∉ List.range t4.heap.objs.size := fun z => by
    have := List.mem_range.mp z
    omega
  have keep5 : ∀ b o, t4.heap.get? b = some o → (hp.push { cls := .type "generator", data := .fields #[.int t4.gens.size 0, .str "<genexpr>" (t4.toks + 1), .str (env.qual ++ "<genexpr>") (t4.toks + 1 + 1)] }).get? b = some o :=
    fun b o it => Heap.get?_push_of_some _ (keep b o it)
  refine want _ _ _ _ rfl (by omega) (by rw [Heap.size_push]) keep5 (walksH (A := A.in4) quiet0 _ _ _ fp _ wr fs pz n F nC (fun z => nR (inR _ z)) (fun z => by have h9 : (hp.objs.size : Nat) ≤ t4.heap.objs.size := lowF _ z; omega) room (Nat.ne_of_lt cl4) csW csF) ?_
  refine AtH.fresh (A := A.in4) (ce := genEnv scope cl t4.heap.objs.size code bi env) (mp := fun y => if y = ".0" then some (.ref I) else none) quiet0 rfl
    Wk pz F noco
    (fun z => Nat.lt_irrefl _ (low _ z)) (fun z => Nat.lt_irrefl _ (List.mem_range.mp z)) sepF (hQ _ keep5) live ⟨_, _, _, Heap.get?_push_size _ rfl, rfl, rfl, rfl⟩ (Array.getElem?_push_size ..) (Wk.frame _ _ _ st fun b _ o it => keep5 b o it) (nsp.push _) (lim.keeps keep5) (bare.push rfl)
end
def GEH (X : Cx) (ce : Env) (B : Around) (Ok : Shared → Prop) (e : Expr) (P : V → Heap → Prop) : Prop :=
  ∀ (Ex : Value → Shared → Prop) (t : Shared), Ok t → wpAny (model X.prog X.w) B (eval e ce) (fun u t' => (∃ v, RelV v u ∧ P v t'.heap) ∧ KeptG (frs (ce :: X.stack)) t t') Ex t
/-- the frame, and what the new things of its calls stay away from -/
structure GFH (X : Cx) (H : Hp) (h : Heap) (σ : L2.St) (scope : Scope) (ce : Env) (B : Around) (mp : Str → Option Value) (Ok : Shared → Prop) (bad : List Addr) : Prop where
  g : GF X H h σ scope ce B mp Ok
  bad : ∀ t, Ok t → ∀ b ∈ bad, (∃ o, t.heap.get? b = some o) ∧ H b = none
  old : ∀ t, Ok t → ∀ b o, h.get? b = some o → ∃ o', t.heap.get? b = some o'
/-- what is known, and new tuples beside -/
def mergeN (h : Heap) (H : Hp) (P : Addr) (ps : Array Value) (N : Hp) : Hp := fun b => if b = P then some (.tbl ps) else match H b with
  | some u => some u
  | none => if (h.get? b).isSome then none else N b
theorem inv_genN {X : Cx} {pins : List (Addr × Obj)} {σ : L2.St} {H : Hp} {s : Shared} {P : Addr} {ps more : Array Value} {t' : Shared} (I : Inv X pins σ H s) (hP : H P = some (.tbl ps)) (os : t'.os = s.os) (bare : AllBare t'.gens)
    (k : ∀ b o, b ≠ P → s.heap.get? b = some o → (b ∉ frs X.stack → t'.heap.get? b = some o) ∧ ∃ sl, t'.heap.get? b = some { o with slots := sl })
    (hm : t'.heap.get? P = some { cls := .none, data := .fields (ps ++ more) }) (N : Hp) (hN : ∀ b u, N b = some u → ∃ o xs, u = .frz o (.tup xs) ∧ ObjOk X.prog X.w N t'.heap b u) :
    ∃ H2, H2 P = some (.tbl (ps ++ more)) ∧ (∀ b u, b ≠ P → H b = some u → H2 b = some u) ∧ (∀ b u, H b = none → s.heap.get? b = none → N b = some u → H2 b = some u) ∧ Inv X pins σ H2 t' := by
  have nP : ∀ b u, H b = some u → (∀ q, u ≠ .tbl q) → b ≠ P := fun b u e q zz => by
    rw [zz, hP] at e
    (exact q ps (Option.some.inj e).symm)
  have nN : ∀ b, H b = none → b ≠ P := fun b e zz => by
    rw [zz, hP] at e
    cases e
  have m1 : mergeN s.heap H P (ps ++ more) N P = some (.tbl (ps ++ more)) := if_pos rfl
  have m2 : ∀ b u, b ≠ P → H b = some u → mergeN s.heap H P (ps ++ more) N b = some u := fun b u n e => by
    unfold mergeN
    rw [if_neg n, e]
  have m3 : ∀ b, H b = none → mergeN s.heap H P (ps ++ more) N b = if (s.heap.get? b).isSome then none else N b := fun b e => by
    unfold mergeN
    rw [if_neg (nN b e), e]
  have exactly : ∀ b u o, H b = some u → b ≠ P → s.heap.get? b = some o → t'.heap.get? b = some o := fun b u o e n it => (k b o n it).1 fun z => by
    rw [I.stkFree b z] at e
    cases e
  have un : Un (frs X.stack) [] H (mergeN s.heap H P (ps ++ more) N) s.heap t'.heap := by
    refine ⟨fun b o it e nf _ => (k b o (nN b e) it).1 nf, fun b o it e _ _ => (k b o (nN b e) it).2, fun b o it e _ => by rw [m3 b e, it]; rfl, fun b o it _ => ?_, fun b xs e => m2 b _ (nP b _ e (fun q z => by cases z)) e,
      fun b o u e => m2 b _ (nP b _ e (fun q z => by cases z)) e, fun b qs e => ?_⟩
    · by_cases hb : b = P
      · exact ⟨_, by rw [hb]; exact hm⟩
      · obtain ⟨_, sl, z⟩ := k b o hb it
        exact ⟨_, z⟩
    · by_cases hb : b = P
      · rw [hb, hP] at e
        cases e
        exact ⟨more, by rw [hb]; exact m1⟩
      · exact ⟨#[], by rw [m2 b _ hb e]; simp⟩
  have ok : HOk X.prog X.w (mergeN s.heap H P (ps ++ more) N) t'.heap := by
    intro b u e
    by_cases hb : b = P
    · subst hb
      rw [m1] at e
      cases e
      exact hm
    · cases eh : H b with
      | some u2 =>
        rw [m2 b u2 hb eh] at e
        cases e
        refine (I.hok b _ eh).stay (fun d v hd q => ?_) (fun d q => m2 d _ (nP d _ q (fun q z => by cases z)) q) fun d xs q => m2 d _ (nP d _ q (fun q z => by cases z)) q
        rcases hd with (z | z)
        · subst z
          exact exactly _ _ v eh hb q
        · exact exactly d _ v z (nP d _ z (fun q z => by cases z)) q
      | none =>
        rw [m3 b eh] at e
        split at e
        · cases e
        · obtain ⟨o, xs, rfl, hh⟩ := hN b u e
          refine hh.stay (fun d v _ q => q) (fun d q => ?_) fun d xs q => ?_
          · obtain ⟨_, _, z, _⟩ := hN d _ q
            cases z
          · obtain ⟨_, _, z, _⟩ := hN d _ q
            cases z
  have J := I.call (h' := t'.heap) (g' := t'.gens) (d' := t'.drawn) (t' := t'.toks) (ch := []) un ok bare (fun b z => absurd z (by simp))
  rw [sh_eta s t' os] at J
  refine ⟨_, m1, m2, fun b u e e2 n => ?_, J⟩
  rw [m3 b e, e2]
  exact n
/-- a generator that stands: it walks, its own things lie below what is new, and new things written leave it -/
structure StandsH (X : Cx) (g : Addr) (t5 : Shared) (wr fs : List Addr) (n : Nat) (Pv : Nat → Value → Heap → Prop) (St : Nat → Shared → Prop) : Prop where
  walk : WalksH X.prog X.w X.A.in4 g wr fs n Pv St
  st : St 0 t5
  low : g < t5.heap.objs.size
  wlow : ∀ b ∈ wr, b < t5.heap.objs.size
  flow : ∀ b ∈ fs, b < t5.heap.objs.size
  frame : ∀ i (t2 : Shared) (h' : Heap) (tk S : Nat), t5.heap.objs.size ≤ S → St i t2 → (∀ b o, b ≠ S → t2.heap.get? b = some o → h'.get? b = some o) → St i { t2 with heap := h', toks := tk }
  ty : ∀ i t2, St i t2 → t2.TypeIs (.ref g) "generator"
section
variable {X : Cx}
theorem gen_coreH {pins : List (Addr × Obj)} {σ : L2.St} {H1 : Hp} {s0 : Shared} {hz : Heap} {c P I : Addr} {elt iter tgt : Expr} {ifs : List Expr} {pz : Nat → Bool} {scope : Scope} {gpos : Pos} {fp wr : List Addr} {n : Nat} {Bd : Nat → (Str → Option Value) → Prop} {St : Nat → Heap → Prop} {E : Value → Shared → Prop} {F : List Addr → Nat → V → Heap → Prop} {Qg : Value → Shared → Prop} {k : Nat}
    (I0 : Inv X pins σ H1 s0) (hr : Room k X.A) (TB : TabB X.base X.mg c P) (hcode : X.env.code = .ref c) (S : GenS0 X.env scope) (rdy : ItReady X P s0.heap hz tgt scope I fp wr n Bd St) (live : ∀ i h, St i h → ∀ b ∈ wr, ∃ o, h.get? b = some o) (tab : TabG H1 P)
    (htst : ∀ (bad : List Addr) (ce : Env) (B : Around) (mp : Str → Option Value) (Ok : Shared → Prop) (i : Nat), Bd i mp → GFH X H1 s0.heap σ scope ce B mp Ok bad → GT X ce B Ok ifs (pz i))
    (helt : ∀ (bad : List Addr) (ce : Env) (B : Around) (mp : Str → Option Value) (Ok : Shared → Prop) (i : Nat), Bd i mp → pz i = true → GFH X H1 s0.heap σ scope ce B mp Ok bad → GEH X ce B Ok elt (F bad i))
    (want : ∀ (bad : List Addr) (g : Addr) (t5 : Shared) (wr' fs' : List Addr) (St' : Nat → Shared → Prop), (∀ b ∈ wr', b ∈ bad) → (∀ b ∈ fs', b ∈ bad) → StandsH X g t5 wr' fs' (passing pz n 0).length (fun j y h => ∃ i, (passing pz n 0)[j]? = some i ∧ ∃ v, RelV v y ∧ F bad i v h) St' →
      (∀ (t' : Shared) (N : Hp), MovedV wr' fs' t5 t' → (∀ b u, N b = some u → ∃ o xs, u = .frz o (.tup xs) ∧ ObjOk X.prog X.w N t'.heap b u) → ∃ H2, TabG H2 P ∧ (∀ b u, b ≠ P → H1 b = some u → H2 b = some u) ∧ (∀ b u, H1 b = none → s0.heap.get? b = none → N b = some u → H2 b = some u) ∧ Inv X pins σ H2 t') → Qg (.ref g) t5) :
    hz.NoLimit ∧ wpAny (model X.prog X.w) X.A (genexprCode X.env gpos (X.env.qual ++ "<genexpr>") scope) (fun code t3 => wpAny (model X.prog X.w) X.A (builtinsFor X.env.globals X.env.builtins) (fun bi t4 => MadeH X.prog X.w X.A X.env elt iter tgt ifs scope (cloFrom X.env.cells scope.names []) gpos Qg (.ref I) code bi t4) E t3) E { s0 with heap := hz } := by
  obtain ⟨ptab, hP, htr⟩ := tab
  have I1 : Inv X pins σ H1 { s0 with heap := hz } := I0.kept (t' := s0.toks) rdy.keep
  have atP : s0.heap.get? P = some { cls := .none, data := .fields ptab } := I0.hok P _ hP
  have ltP : P < s0.heap.objs.size := Heap.lt_size atP
  have atP2 : hz.get? P = some { cls := .none, data := .fields ptab } := rdy.keep _ _ atP
  have hdC : PySem.W.CodeHd hz c P := TB.code.keeps fun b u e => I1.bk b u e
  have nol : hz.NoLimit := I1.nolimit
  have csB : ∃ o, X.base.get? cStatics = some o := by
    obtain ⟨_, q, _⟩ := I0.ok.mod.nolimit
    obtain ⟨o, es, ep, ho, _⟩ := q
    exact ⟨o, ho⟩
  have notFr : ∀ b o, X.base.get? b = some o → b ∉ frs X.stack := fun b o it z => by
    have := (frs_apart I0.stack z).1
    rw [it] at this
    cases this
  have frLow : ∀ b ∈ frs X.stack, b < s0.heap.objs.size := fun b z => by
    obtain ⟨_, o, ho, _⟩ := frs_apart I0.stack z
    exact Heap.lt_size ho
  have frNotP : P ∉ frs X.stack := fun z => by
    have := I0.stkFree P z
    rw [hP] at this
    cases this
  have cont : ∀ (code : Value) (hp3 : Heap) (tk : Nat) (ptab3 : Array Value), Heap.ExtBut P hz hp3 → hz.objs.size ≤ hp3.objs.size → hp3.get? P = some { cls := .none, data := .fields ptab3 } → (∃ more, ptab3 = ptab ++ more) → TriplesOk ptab3.toList →
      wpAny (model X.prog X.w) X.A (builtinsFor X.env.globals X.env.builtins) (fun bi t4 => MadeH X.prog X.w X.A X.env elt iter tgt ifs scope (cloFrom X.env.cells scope.names []) gpos Qg (.ref I) code bi t4) E { s0 with heap := hp3, toks := tk } := by
    intro code hp3 tk ptab3 hx3 sz3 atP3 grown ok3
    (obtain ⟨bm, ob, e1, e2, e3, e4, e5, e6, e7, e8⟩ := TB.bm)
    have keep3 : ∀ b u, b ≠ P → hz.get? b = some u → hp3.get? b = some u := fun b u nb it => hx3 b u nb it
    have keep0 : ∀ b u, b ≠ P → s0.heap.get? b = some u → hp3.get? b = some u := fun b u nb it => hx3 b u nb (rdy.keep b u it)
    have baseNP : ∀ b o, X.base.get? b = some o → b ≠ P := fun b o it z => by
      have := (I0.bs b o it).2
      rw [z, hP] at this
      cases this
    obtain ⟨oCs, csAt⟩ := csB
    have csLow : cStatics < s0.heap.objs.size := Heap.lt_size (I0.bk _ _ csAt)
    have lowN : s0.heap.objs.size ≤ hp3.objs.size := Nat.le_trans rdy.grow sz3
    have fpLow : ∀ b ∈ fp, b < hp3.objs.size := fun b hb => Nat.lt_of_lt_of_le (rdy.low b hb) sz3
    have wrHigh : ∀ b ∈ wr, s0.heap.objs.size ≤ b ∧ b < hp3.objs.size := fun b hb => ⟨rdy.high b hb, fpLow b (rdy.sub b hb)⟩
    refine wpAny_builtinsFor (m := X.mg) (by rw [I0.ok.glob]; exact (I1.mod.glob.keeps I1.bk).extBut hx3 TB.gP) e1 e2 (keep3 _ _ e4 (I1.bk _ _ e5)) e6 e7 e8 ?_
    have dr := rdy.draws (genEnv scope (cloFrom X.env.cells scope.names []) hp3.objs.size code builtinsNs X.env) rfl (fun z => Nat.lt_irrefl _ (fpLow _ z))
    refine ⟨I0.bare, I, fp, wr, hp3.objs.size :: frs X.stack, n, Bd, St, pz, (fun i y h => ∃ v, RelV v y ∧ F (hp3.objs.size :: (wr ++ frs X.stack)) i v h), rfl, dr, dr.frame 0 _ _ rdy.st (fun b hb o it => keep3 b o (rdy.offP b hb) it), live, fpLow, nol.extBut hx3 (baseNP _ _ csAt), ?_, ?_, ?_, ?_, ?_, ?_⟩
    · intro z
      exact absurd (wrHigh _ z).1 (Nat.not_le_of_lt csLow)
    · intro b hb
      show b ≤ hp3.objs.size
      rcases List.mem_cons.mp hb with (z | z)
      · rw [z]
        exact Nat.le_refl _
      · exact Nat.le_of_lt (Nat.lt_of_lt_of_le (frLow b z) lowN)
    · intro b hb hf
      rcases List.mem_cons.mp hf with (y | y)
      · have := fpLow b hb
        rw [y] at this
        exact Nat.lt_irrefl _ this
      · exact rdy.offF b hb y
    · intro z
      rcases List.mem_cons.mp z with (y | y)
      · have e : cStatics = hp3.objs.size := y
        rw [e] at csLow
        exact absurd csLow (Nat.not_lt_of_le lowN)
      · exact notFr _ _ csAt y
    · intro ref href
      have mk : ∀ (B : Around) (i : Nat) (t : Shared) (mp : Str → Option Value), B.handled = none → B.frames = (X.A.in4.in1.over (loopD elt tgt iter ifs scope gpos I (genEnv scope (cloFrom X.env.cells scope.names []) hp3.objs.size code builtinsNs X.env)) []).frames → B.depth ≤ X.A.depth + 1 → B.units ≤ X.A.units + 8 →
          GFH X H1 s0.heap σ scope (genEnv scope (cloFrom X.env.cells scope.names []) hp3.objs.size code builtinsNs X.env) B mp (fun u => AllBare u.gens ∧ u.heap.Ns hp3.objs.size mp ∧ KeptO (List.range hp3.objs.size) wr (hp3.objs.size :: frs X.stack) ref u.heap ∧ ∀ b ∈ wr, ∃ o, u.heap.get? b = some o) (hp3.objs.size :: (wr ++ frs X.stack)) := fun B i t mp hB fB dB uB => by
        have fB' : B.frames = some (genEnv scope (cloFrom X.env.cells scope.names []) hp3.objs.size code builtinsNs X.env :: X.stack) := by
          have e5 : X.A.in4.in1.frames = some X.stack := I0.ok.frames
          rw [fB]
          simp only [Around.over, List.map_nil]
          rw [e5]
          rfl
        have bszS : X.base.objs.size ≤ s0.heap.objs.size := Nat.le_trans I0.ok.bsz I0.sz
        have both : ∀ u : Heap, KeptO (List.range hp3.objs.size) wr (hp3.objs.size :: frs X.stack) ref u → ∀ b o, b ≠ P → s0.heap.get? b = some o → (b ∉ frs X.stack → u.get? b = some o) ∧ ∃ sl, u.get? b = some { o with slots := sl } := fun u kept b o nb it => by
          have lt := Heap.lt_size it
          have ltc : b < hp3.objs.size := Nat.lt_of_lt_of_le lt lowN
          obtain ⟨p1, p2⟩ := kept b (List.mem_range.mpr ltc) (fun z => absurd lt (Nat.not_lt_of_le (wrHigh b z).1)) o (href _ _ (keep0 b o nb it))
          exact ⟨fun nf => p1 fun z => (List.mem_cons.mp z).elim (fun y => Nat.ne_of_lt ltc y) nf, p2⟩
        refine ⟨⟨⟨pins, s0, rfl, I0⟩, hB, fB', dB, uB, rfl, S.kind, I0.ok.glob, fun u ⟨ub, un, uk, ul⟩ => ?_, fun u ok => ok.2.1, fun u u' ⟨ub, un, uk, ul⟩ kg => ⟨kg.bare, kg.heap.ns un, uk.km kg.heap, fun b hb => ?_⟩, fun u n ok => ok, fun cn ic vc Cc hvc => ?_⟩, fun u ok b hb => ?_, fun u ok b o it => ?_⟩
        · have bu := both u.heap uk
          have baseT : ∀ b o, X.base.get? b = some o → u.heap.get? b = some o := fun b o it => (bu b o (baseNP b o it) (I0.bk b o it)).1 (notFr b o it)
          obtain ⟨oC, esC, epC, atC, datC, moreC⟩ := id un
          have ltC : hp3.objs.size < u.heap.objs.size := Heap.lt_size atC
          refine ⟨baseT, Nat.le_trans bszS (Nat.le_of_lt (Nat.lt_of_le_of_lt lowN ltC)), ⟨?_, ⟨hp3.objs.size, oC, rfl, ?_, atC, fun vs z => ?_⟩, ?_⟩, fun b hb => ?_, ?_, ub⟩
          · show scope.kind ≠ .module
            rw [S.kind]
            exact fun z => nomatch z
          · cases eb : X.base.get? hp3.objs.size with
            | none => rfl
            | some o =>
              have := Nat.lt_of_lt_of_le (Heap.lt_size eb) bszS
              exact absurd this (Nat.not_lt_of_le lowN)
          · rw [datC] at z
            cases z
          · refine Heap.FunFrames.of_keeps (fun b o it nf => ?_) I0.stack
            have nb : b ≠ P := fun z => by
              rw [z, atP] at it
              cases it
              exact nf _ rfl
            obtain ⟨_, sl, z⟩ := bu b o nb it
            exact ⟨_, z, rfl⟩
          · rcases List.mem_cons.mp hb with (z | z)
            · rw [z]
              exact I0.hok.fresh lowN
            · exact I0.stkFree b z
          · refine fast_ok I0.hok fun b u2 o e nt it => (bu b o (fun z => ?_) it).1 fun z => ?_
            · rw [z, hP] at e
              exact nt ptab (Option.some.inj e).symm
            · have := I0.stkFree b z
              rw [e] at this
              cases this
        · obtain ⟨o, e⟩ := ul b hb
          obtain ⟨_, sl, z⟩ := kg.heap b o e
          exact ⟨_, z⟩
        · obtain ⟨cc, uc, rc, look, cellAt⟩ := Cc.at I0 hvc
          refine ⟨uc, rc, fun p Ex R u ok q => Cc.eval S.kind rfl rfl look ?_ q⟩
          obtain ⟨o, ho, hd⟩ := cellAt
          have nb : cc ≠ P := fun z => by
            rw [z, atP] at ho
            cases ho
            cases hd
          obtain ⟨_, sl, z⟩ := both u.heap ok.2.2.1 cc o nb ho
          exact ⟨_, z, hd⟩
        · rcases List.mem_cons.mp hb with y | y
          · obtain ⟨oC, esC, epC, atC, _⟩ := id ok.2.1
            rw [y]
            exact ⟨⟨oC, atC⟩, I0.hok.fresh lowN⟩
          · rcases List.mem_append.mp y with y | y
            · exact ⟨ok.2.2.2 b y, I0.hok.fresh (wrHigh _ y).1⟩
            · obtain ⟨_, o, ho, _⟩ := frs_apart I0.stack y
              have nb : b ≠ P := fun z => frNotP (z ▸ y)
              obtain ⟨_, sl, z⟩ := both u.heap ok.2.2.1 b o nb ho
              exact ⟨⟨_, z⟩, I0.stkFree b y⟩
        · by_cases nb : b = P
          · subst nb
            obtain ⟨_, sl, z⟩ := ok.2.2.1 b (List.mem_range.mpr (Nat.lt_of_lt_of_le ltP lowN)) (fun z => absurd ltP (Nat.not_lt_of_le (wrHigh b z).1)) _ (href _ _ atP3)
            exact ⟨_, z⟩
          · obtain ⟨_, sl, z⟩ := both u.heap ok.2.2.1 b o nb it
            exact ⟨_, z⟩
      refine ⟨fun B Ex i t mp hB fB dB uB bT bd ns kept lv => htst _ _ B mp _ i bd (mk B i t mp hB fB dB uB) Ex t ⟨bT, ns, kept, lv⟩, fun B Ex i t mp hB fB dB uB bT bd pt ns kept lv => helt _ _ B mp _ i bd pt (mk B i t mp hB fB dB uB) Ex t ⟨bT, ns, kept, lv⟩⟩
    · intro g hp5 tk5 gs gsb ltg szg k5 Wk at5
      have hg5 : hp3.objs.size < hp5.objs.size := by
        rw [szg]
        exact Nat.lt_succ_of_lt ltg
      refine want (hp3.objs.size :: (wr ++ frs X.stack)) g _ _ _ _ (fun b hb => (List.mem_cons.mp hb).elim (fun y => y ▸ List.mem_cons_self ..) fun y => List.mem_cons_of_mem _ (List.mem_append_left _ y)) (fun b hb => (List.mem_cons.mp hb).elim (fun y => y ▸ List.mem_cons_self ..) fun y => List.mem_cons_of_mem _ (List.mem_append_right _ y)) ⟨Wk, at5, ?_, ?_, ?_, fun i t2 h' tk2 S hS st2 kk2 => AtH.frame st2 kk2 ?_ ?_ ?_, fun i t2 st2 => ?_⟩ fun t' N mv hN => ?_
      · show g < hp5.objs.size
        rw [szg]
        exact Nat.lt_succ_self _
      · intro b z
        show b < hp5.objs.size
        rcases List.mem_cons.mp z with y | y
        · have e : b = hp3.objs.size := y
          rw [e]
          exact hg5
        · exact Nat.lt_trans (wrHigh _ y).2 hg5
      · intro b z
        show b < hp5.objs.size
        rcases List.mem_cons.mp z with y | y
        · have e : b = hp3.objs.size := y
          rw [e]
          exact hg5
        · exact Nat.lt_of_lt_of_le (frLow _ y) (Nat.le_trans lowN (Nat.le_of_lt hg5))
      · intro z
        have l : g < hp5.objs.size := by rw [szg]; exact Nat.lt_succ_self _
        rw [z] at l
        exact absurd l (Nat.not_lt_of_le hS)
      · intro z
        have l : cStatics < hp5.objs.size := Nat.lt_of_lt_of_le csLow (Nat.le_trans lowN (Nat.le_of_lt hg5))
        rw [z] at l
        exact absurd l (Nat.not_lt_of_le hS)
      · intro b hb z
        have l : b < hp5.objs.size := by
          rcases List.mem_cons.mp hb with y | y
          · have e : b = hp3.objs.size := y
            rw [e]
            exact hg5
          · rcases List.mem_append.mp y with v | v
            · exact Nat.lt_trans (fpLow b v) hg5
            · exact Nat.lt_trans (List.mem_range.mp v) hg5
        rw [z] at l
        exact absurd l (Nat.not_lt_of_le hS)
      · obtain ⟨⟨o, nm, qn, ho, hc, _⟩, _⟩ := st2
        exact ⟨o, ho, hc⟩
      · obtain ⟨more, rfl⟩ := grown
        have offW : ∀ b, b < s0.heap.objs.size → b ∉ hp3.objs.size :: wr := fun b lt z => by
          rcases List.mem_cons.mp z with (y | y)
          · rw [y] at lt
            exact absurd lt (Nat.not_lt_of_le lowN)
          · exact absurd lt (Nat.not_lt_of_le (wrHigh _ y).1)
        have kB : ∀ b o, b < s0.heap.objs.size → hp3.get? b = some o → (b ∉ frs X.stack → t'.heap.get? b = some o) ∧ ∃ sl, t'.heap.get? b = some { o with slots := sl } := fun b o lt it => by
          obtain ⟨p1, p2⟩ := mv.heap b o (offW b lt) (k5 b o it)
          exact ⟨fun nf => p1 fun z => (List.mem_cons.mp z).elim (fun y => absurd (Nat.lt_of_lt_of_le lt lowN) (by rw [y]; exact Nat.lt_irrefl _)) nf, p2⟩
        obtain ⟨H2, h1, h2, h3, J⟩ := inv_genN (t' := t') (more := more) I0 hP mv.os mv.bare (fun b o nb it => kB b o (Heap.lt_size it) (keep0 b o nb it)) ((kB P _ ltP atP3).1 frNotP) N hN
        exact ⟨H2, ⟨ptab ++ more, h1, ok3⟩, h2, h3, J⟩
  refine ⟨nol, ?_⟩
  cases among : codeAmong gpos ptab.toList with
  | none =>
    refine wpAny_genexprCodeX hcode (hdC.code atP2 htr) (hdC.tab atP2) among fun c2 hp2 tk hx2 ge2 lt2 isC _ tabA _ => ?_
    obtain ⟨o1, vs, f1, tf, fl, tg, inF, tx, tt, op, _, _, _, _, _, _, _, _, _, trs, _⟩ := isC
    exact cont _ hp2 tk _ hx2 (Nat.le_trans ge2 (Nat.le_of_lt lt2)) tabA.2 ⟨_, rfl⟩ trs
  | some cv =>
    refine wpAny_genexprCode_hit hcode (hdC.code atP2 htr) among ?_
    exact cont cv hz s0.toks ptab (Heap.ExtBut.refl _ _) (Nat.le_refl _) atP2 ⟨#[], by simp⟩ htr
end
end V3
/-! tuple over a generator whose elements are new things. -/
namespace V3
open PySem.Spec PySem L2 PyProof.Rows GxR RZ
/-- the tuples beside these places stand -/
def KeepsT (bad : List Addr) (h h' : Heap) : Prop := ∀ b o, b ∉ bad → o.cls = .type "tuple" → h.get? b = some o → h'.get? b = some o
def ItemsH (P : Nat → Value → Heap → Prop) (acc : Array Value) (i : Nat) (h : Heap) : Prop := acc.size = i ∧ ∀ j v, acc[j]? = some v → P j v h
theorem ItemsH.nil (P : Nat → Value → Heap → Prop) (h : Heap) : ItemsH P #[] 0 h := ⟨rfl, fun j v e => by simp at e⟩
theorem ItemsH.push {P : Nat → Value → Heap → Prop} {acc : Array Value} {i : Nat} {h : Heap} {x : Value} (a : ItemsH P acc i h) (px : P i x h) : ItemsH P (acc.push x) (i + 1) h := by
  refine ⟨by rw [Array.size_push, a.1], fun j v e => ?_⟩
  (rw [Array.getElem?_push] at e)
  split at e
  · rename_i z
    rw [a.1] at z
    cases e
    rw [z]
    exact px
  · exact a.2 j v e
theorem ItemsH.stay {P : Nat → Value → Heap → Prop} {acc : Array Value} {i : Nat} {h h' : Heap} {bad : List Addr} (a : ItemsH P acc i h) (stab : ∀ j v (h h' : Heap), P j v h → KeepsT bad h h' → P j v h') (k : KeepsT bad h h') : ItemsH P acc i h' := ⟨a.1, fun j v e => stab j v h h' (a.2 j v e) k⟩
theorem MovedV.keeps {wr fs bad : List Addr} {t t' : Shared} (m : MovedV wr fs t t') (wb : ∀ b ∈ wr, b ∈ bad) (fb : ∀ b ∈ fs, b ∈ bad) : KeepsT bad t.heap t'.heap := fun b o nb _ it => (m.heap b o (fun z => nb (wb b z)) it).1 fun z => nb (fb b z)
section
variable {w : World} {prog : Program} {A : Around}
/-- a list taken from a walk -/
theorem extend_loopH {I : Addr} {wr fs : List Addr} {n : Nat} {P : Nat → Value → Heap → Prop} {bad : List Addr} {St : Nat → Shared → Prop} {R : Result → Shared → Prop} (Wk : WalksH prog w A.in1 I wr fs n P St) (wb : ∀ b ∈ wr, b ∈ bad) (fb : ∀ b ∈ fs, b ∈ bad) (stab : ∀ j v (h h' : Heap), P j v h → KeepsT bad h h' → P j v h') (hn : n ≤ sizeLine) (S : Addr) (Sw : S ∉ wr) (Sf : S ∉ fs)
    (fr : ∀ i (t : Shared) h' tk, St i t → (∀ b o, b ≠ S → t.heap.get? b = some o → h'.get? b = some o) → St i { t with heap := h', toks := tk }) (res : Value) :
    ∀ (k i : Nat) (t : Shared) (acc : Array Value) (c : Nat), n - i = k → i ≤ n → St i t → t.heap.get? S = some { cls := .type "list", dict := none, data := .seq acc c, slots := #[] } → ItemsH P acc i t.heap →
      (∀ t' acc', MovedV (S :: wr) fs t t' → (∃ c', t'.heap.get? S = some { cls := .type "list", dict := none, data := .seq acc' c', slots := #[] }) → ItemsH P acc' n t'.heap → R (.ok (.ret res)) t') →
      codeAny (model prog w) A (.builtin "list.extend.loop" ⟨[.ref S, .ref I, res], []⟩) R t := by
  intro k
  induction k with
  | zero =>
    intro i t acc c ek il st atS items want
    obtain rfl : i = n := by omega
    (refine codeAny_builtin F.entry_extend_loop ?_)
    (rw [Around.under_plainId F.plain_extend_loop _])
    show wpAny _ A.in1 (pyNext (.ref I) >>= _) _ _ t
    exact wpAny_bind (Wk.done t _ _ st fun t' mv => wpAny_pure (want t' acc (mv.wide fun b hb => List.mem_cons_of_mem _ hb) ⟨c, (mv.heap S _ Sw atS).1 Sf⟩ (items.stay stab (mv.keeps wb fb))))
  | succ k again =>
    intro i t acc c ek il st atS items want
    have lt : i < n := by omega
    (refine codeAny_builtin F.entry_extend_loop ?_)
    (rw [Around.under_plainId F.plain_extend_loop _])
    show wpAny _ A.in1 (pyNext (.ref I) >>= _) _ _ t
    refine wpAny_bind (Wk.item i t _ _ lt st fun v u pv su mv => ?_)
    have atU := (mv.heap S _ Sw atS).1 Sf
    have off : ∀ b o, b ≠ S → u.heap.get? b = some o → (u.heap.update S (Obj.mapSeq (·.push v))).get? b = some o := fun b o n it => (Heap.get?_update_other _ _ (Ne.symm n)).trans it
    have sz := items.1
    (show wpAny _ A.in1 (updateSeq S (·.push v) >>= _) _ _ _)
    refine wpAny_bind (wpAny_updateSeq atU rfl (wpAny_pure ⟨plainId_quiet F.plain_extend_loop _, again (i + 1) _ (acc.push v) _ (by omega) lt (fr _ u _ u.toks su off) (Heap.get?_update_self _ atU rfl) (((items.stay stab (mv.keeps wb fb)).push pv).stay stab (fun b o _ ct it => off b o (fun z => by rw [z, atU] at it; cases it; exact absurd (show Value.type "list" = Value.type "tuple" from ct) (by decide)) it)) fun t' acc' mv2 at' it' => ?_⟩) (by omega) (by show (acc.push v).size ≤ sizeLine + 1; rw [Array.size_push]; omega))
    exact want t' acc' ((mv.wrote off).trans mv2) at' it'
theorem collect_genH {E : Value → Shared → Prop} {s : Shared} {I : Addr} {wr fs : List Addr} {n : Nat} {P : Nat → Value → Heap → Prop} {bad : List Addr} {St : Nat → Shared → Prop} {Q : List Value → Shared → Prop} (Wk : WalksH prog w A.in1 I wr fs n P St) (wb : ∀ b ∈ wr, b ∈ bad) (fb : ∀ b ∈ fs, b ∈ bad) (stab : ∀ j v (h h' : Heap), P j v h → KeepsT bad h h' → P j v h') (hn : n ≤ sizeLine) (ty : ∀ i t, St i t → t.TypeIs (.ref I) "generator") (st : St 0 s)
    (Iw : I < s.heap.objs.size) (Sw : s.heap.objs.size ∉ wr) (Sf : s.heap.objs.size ∉ fs) (fr : ∀ i (t : Shared) h' tk, St i t → (∀ b o, b ≠ s.heap.objs.size → t.heap.get? b = some o → h'.get? b = some o) → St i { t with heap := h', toks := tk })
    (want : ∀ t' acc, MovedV wr fs s t' → ItemsH P acc n t'.heap → Q acc.toList t') : wpAny (model prog w) A (collect (.ref I)) Q E s := by
  have SI : s.heap.objs.size ≠ I := Nat.ne_of_gt Iw
  unfold collect
  (refine wpAny_bind (wpAny_runValue (codeAny_builtin F.entry_proto_collect ?_)))
  (rw [Around.under_plainId F.plain_proto_collect _])
  (show wpAny _ A.in1 (newList [] >>= fun l => again (.builtin "list.__iadd__" ⟨[l, .ref I], []⟩)) _ _ s)
  refine wpAny_bind (wpAny_newObj_type (wpAny_pure ⟨plainId_quiet F.plain_list_iadd _, codeAny_builtin F.entry_list_iadd ?_⟩))
  (rw [Around.under_plainId F.plain_list_iadd _])
  have k1 : ∀ b o, s.heap.get? b = some o → (s.heap.push { cls := .type "list", data := .seq ([] : List Value).toArray }).get? b = some o := fun b o it => Heap.get?_push_of_some _ it
  have st1 := fr 0 s (s.heap.push { cls := .type "list", data := .seq ([] : List Value).toArray }) s.toks st fun b o _ it => k1 b o it
  (show wpAny _ A.in1 (Builtin.List.listExtendWith (.ref s.heap.objs.size) (.ref I) (.ref s.heap.objs.size)) _ _ _)
  (unfold Builtin.List.listExtendWith)
  refine wpAny_bind (wpAny_typeOf (ty 0 _ st1) ?_)
  have n1 : Builtin.List.listSameRef (.ref s.heap.objs.size) (.ref I) = false := by simp [Builtin.List.listSameRef, SI]
  have n2 : (Value.type "generator" == Value.type "list") = false := by decide
  have n3 : (Value.type "generator" == Value.type "tuple") = false := by decide
  simp only [n1, n2, n3, Bool.or_false, Bool.false_eq_true, if_false]
  refine wpAny_bind (Wk.self _ _ _ st1 (wpAny_bind (wpAny_holding ?_)))
  (unfold Builtin.List.listLengthHint)
  refine wpAny_bind (wpAny_specialOf (ty 0 _ st1) F.gen_no_len ?_)
  (show wpAny _ A.in1 (specialOf (Value.ref I) (Str.ofString "__length_hint__") >>= _) _ _ _)
  refine wpAny_bind (wpAny_specialOf (ty 0 _ st1) F.gen_no_hint (wpAny_pure ?_))
  (show wpAny _ A.in1 (rule "list.extend.makes-room" >>= fun _ => Builtin.List.listTouch (.ref s.heap.objs.size) >>= fun _ =>
      again (.builtin "list.extend.loop" ⟨[.ref s.heap.objs.size, .ref I, .ref s.heap.objs.size], []⟩)) _ _ _)
  (refine wpAny_bind (wpAny_rule (wpAny_bind ?_)))
  have at1 : (s.heap.push { cls := .type "list", data := .seq ([] : List Value).toArray }).get? s.heap.objs.size = some { cls := .type "list", data := .seq ([] : List Value).toArray } := Heap.get?_push_size _ rfl
  (show wpAny _ A.in1 (updateSeq s.heap.objs.size (·.push .none) >>= fun _ => updateSeq s.heap.objs.size (·.pop)) _ _ _)
  refine wpAny_bind (wpAny_updateSeq at1 rfl ?_)
  have at2 := Heap.get?_update_self (Obj.mapSeq (·.push Value.none)) at1 rfl
  refine wpAny_updateSeq at2 rfl ?_
  have at3 := Heap.get?_update_self (Obj.mapSeq (·.pop)) at2 rfl
  have stays : ∀ (f : Obj → Obj) (h0 : Heap) b o, b ≠ s.heap.objs.size → h0.get? b = some o → (h0.update s.heap.objs.size f).get? b = some o := fun f h0 b o ne it => (Heap.get?_update_other _ _ (Ne.symm ne)).trans it
  refine wpAny_pure ⟨plainId_quiet F.plain_extend_loop _, extend_loopH Wk wb fb stab hn _ Sw Sf fr _ n 0 _ _ _ rfl (Nat.zero_le _) (fr 0 ({ s with heap := s.heap.push { cls := .type "list", data := .seq ([] : List Value).toArray } } : Shared) _ s.toks st1 fun b o ne it => stays _ _ b o ne (stays _ _ b o ne it)) at3 (ItemsH.nil P _) fun t' acc mv at' items => ?_⟩
  obtain ⟨c', at'⟩ := at'
  show wpAny _ A (load s.heap.objs.size >>= _) _ _ t'
  refine wpAny_bind (wpAny_load at' (wpAny_pure (want t' acc ⟨mv.os, mv.bare, fun b o nb it => ?_⟩ items)))
  have ne : b ≠ s.heap.objs.size := fun z => Nat.lt_irrefl _ (z ▸ Heap.lt_size it)
  exact mv.heap b o (fun z => (List.mem_cons.mp z).elim ne nb) (stays _ _ b o ne (stays _ _ b o ne (k1 b o it)))
theorem tuple_new_genH {E : Value → Shared → Prop} {s : Shared} {I : Addr} {wr fs : List Addr} {n : Nat} {P : Nat → Value → Heap → Prop} {bad : List Addr} {St : Nat → Shared → Prop} {Q : Value → Shared → Prop} (Wk : WalksH prog w A.in1.in1 I wr fs n P St) (wb : ∀ b ∈ wr, b ∈ bad) (fb : ∀ b ∈ fs, b ∈ bad) (stab : ∀ j v (h h' : Heap), P j v h → KeepsT bad h h' → P j v h') (hn : n ≤ sizeLine) (ty : ∀ i t, St i t → t.TypeIs (.ref I) "generator") (st : St 0 s)
    (Iw : I < s.heap.objs.size) (Sw : s.heap.objs.size ∉ wr) (Sf : s.heap.objs.size ∉ fs) (fr : ∀ i (t : Shared) h' tk, St i t → (∀ b o, b ≠ s.heap.objs.size → t.heap.get? b = some o → h'.get? b = some o) → St i { t with heap := h', toks := tk })
    (want : ∀ t' acc, MovedV wr fs s t' → ItemsH P acc n t'.heap → Q (.ref t'.heap.objs.size) { t' with heap := t'.heap.push { cls := .type "tuple", data := .seq acc } }) :
    codeAny (model prog w) A (.call (.builtin "tuple.__new__") ⟨[.type "tuple", .ref I], []⟩) (wants Q E) s := by
  (refine codeAny_of_tree ?_)
  (show wpAny _ A.in1 (do checkBuiltinCall "tuple.__new__" ⟨[.type "tuple", .ref I], []⟩; again (.builtin "tuple.__new__" ⟨[.type "tuple", .ref I], []⟩)) _ _ s)
  (refine wpAny_bind (wpAny_of_eq (F.newCall_tuple_1 _) (wpAny_pure ⟨plainId_quiet F.plain_tuple_new _, codeAny_builtin F.entry_tuple_new ?_⟩)))
  (rw [Around.under_plainId F.plain_tuple_new _])
  have sub := sub_tuple_self
  have ini := init_tuple_lookup
  have made := madeHere_tuple
  have tI := ty 0 s st
  wp_walk using wpAny_typeOf tI, collect_genH Wk wb fb stab hn ty st Iw Sw Sf fr
  intro t' acc mv items
  (show wpAny _ _ (Builtin.Tuple.tupleExact acc.toList.toArray >>= fun v => ret v) _ _ _)
  (unfold Builtin.Tuple.tupleExact)
  (have e : acc.toList.toArray = acc := by simp)
  refine wpAny_bind (wpAny_newObj_type (wpAny_pure ?_) (by show acc.toList.toArray.size ≤ sizeLine; rw [e, items.1]; exact hn))
  rw [e]
  exact want t' acc mv items
theorem call_tuple_genH {E : Value → Shared → Prop} {s : Shared} {I : Addr} {wr fs : List Addr} {n : Nat} {P : Nat → Value → Heap → Prop} {bad : List Addr} {St : Nat → Shared → Prop} {Q : Value → Shared → Prop} (Wk : WalksH prog w A.in1.in1.in1 I wr fs n P St) (wb : ∀ b ∈ wr, b ∈ bad) (fb : ∀ b ∈ fs, b ∈ bad) (stab : ∀ j v (h h' : Heap), P j v h → KeepsT bad h h' → P j v h') (hn : n ≤ sizeLine) (ty : ∀ i t, St i t → t.TypeIs (.ref I) "generator") (st : St 0 s)
    (Iw : I < s.heap.objs.size) (Sw : s.heap.objs.size ∉ wr) (Sf : s.heap.objs.size ∉ fs) (fr : ∀ i (t : Shared) h' tk, St i t → (∀ b o, b ≠ s.heap.objs.size → t.heap.get? b = some o → h'.get? b = some o) → St i { t with heap := h', toks := tk })
    (want : ∀ t' acc, MovedV wr fs s t' → ItemsH P acc n t'.heap → Q (.ref t'.heap.objs.size) { t' with heap := t'.heap.push { cls := .type "tuple", data := .seq acc } }) :
    (wpAny (model prog w) A (call (.type "tuple") [.ref I]) Q E s) := by
  refine callType_codes (Q₁ := fun obj s1 => s1.TypeIs obj "tuple" ∧ Q obj s1) F.called_tuple (F.typeCall_tuple_1 _) F.entry_object_init
    (tuple_new_genH Wk wb fb stab hn ty st Iw Sw Sf fr (fun t' acc mv items => ⟨⟨_, Heap.get?_push_size _ rfl, rfl⟩, want t' acc mv items⟩)) fun obj s1 h1 => ?_
  exact ⟨h1.1, F.args_object_init_2 obj _, object_init_meets F.called_tuple.init.lookup F.called_tuple.made (by decide) prog w A.in1 _ s1 ⟨h1.1, rfl, h1.2⟩⟩
end
/-! ### what is new, in the heap -/
theorem rel_one {v v2 : V} {u : Value} (a : RelV v u) (b : RelV v2 u) : v = v2 := by
  cases v <;> cases v2 <;> simp only [L2.RelV] at a b <;> first
    | (subst a; cases b; done)
    | (subst a; cases b; rfl)
    | (subst a; obtain ⟨_, e⟩ := b; cases e; done)
    | (obtain ⟨_, rfl⟩ := a; obtain ⟨_, e⟩ := b; cases e; done)
    | (obtain ⟨_, rfl⟩ := a; obtain ⟨_, e⟩ := b; cases e; rfl)
    | (obtain ⟨_, rfl⟩ := a; cases b; done)
theorem vals_one : ∀ {xs ys : List V} {its : List Value}, Vals xs its → Vals ys its → xs = ys
  | _, _, _, .nil, .nil => rfl
  | _, _, _, .cons a r, .cons b s => by rw [rel_one a b, vals_one r s]
/-- a new tuple -/
structure NewT (h0 : Heap) (bad : List Addr) (h : Heap) (a : Addr) (xs : List V) : Prop where
  nb : a ∉ bad
  n0 : h0.get? a = none
  len : xs.length ≤ sizeLine
  its : ∃ its : List Value, Vals xs its ∧ IsTup h a its.toArray
mutual
inductive RdT (K : PySem.W.Frag) (H : Hp) (h0 : Heap) (bad : List Addr) (h : Heap) : V → PyData → Prop
  | non : RdT K H h0 bad h .non .none
  | bl (b : Bool) : RdT K H h0 bad h (.bl b) (.bool b)
  | int (i : Int) : RdT K H h0 bad h (.int i) (.int i)
  | str (x : Str) : RdT K H h0 bad h (.str x) (.str x)
  | tup {a : Addr} {xs : List V} {ds : List PyData} : (SqT K H a xs ∨ NewT h0 bad h a xs) → RdTAll K H h0 bad h xs ds → RdT K H h0 bad h (.ref a) (.tuple ds)
inductive RdTAll (K : PySem.W.Frag) (H : Hp) (h0 : Heap) (bad : List Addr) (h : Heap) : List V → List PyData → Prop
  | nil : RdTAll K H h0 bad h [] []
  | cons {v : V} {vs : List V} {d : PyData} {ds : List PyData} : RdT K H h0 bad h v d → RdTAll K H h0 bad h vs ds → RdTAll K H h0 bad h (v :: vs) (d :: ds)
end
theorem NewT.stay {h0 h h' : Heap} {bad : List Addr} {a : Addr} {xs : List V} (n : NewT h0 bad h a xs) (k : KeepsT bad h h') : NewT h0 bad h' a xs := by
  obtain ⟨its, r, o, e, c⟩ := n.its
  exact ⟨n.nb, n.n0, n.len, its, r, o, k a o n.nb c.1 e, c⟩
mutual
theorem RdT.stay {K : PySem.W.Frag} {H : Hp} {h0 h h' : Heap} {bad : List Addr} (k : KeepsT bad h h') : ∀ {v : V} {d : PyData}, RdT K H h0 bad h v d → RdT K H h0 bad h' v d
  | _, _, .non => .non
  | _, _, .bl b => .bl b
  | _, _, .int i => .int i
  | _, _, .str x => .str x
  | _, _, .tup s a => .tup (s.imp id fun n => n.stay k) (RdTAll.stay k a)
theorem RdTAll.stay {K : PySem.W.Frag} {H : Hp} {h0 h h' : Heap} {bad : List Addr} (k : KeepsT bad h h') : ∀ {vs : List V} {ds : List PyData}, RdTAll K H h0 bad h vs ds → RdTAll K H h0 bad h' vs ds
  | _, _, .nil => .nil
  | _, _, .cons a b => .cons (RdT.stay k a) (RdTAll.stay k b)
end
mutual
theorem RdT.of {K : PySem.W.Frag} {H G : Hp} {h0 h : Heap} {bad : List Addr} (node : ∀ a xs, SqT K G a xs → SqT K H a xs ∨ NewT h0 bad h a xs) : ∀ {v : V} {d : PyData}, DpT K G v d → RdT K H h0 bad h v d
  | _, _, .non => .non
  | _, _, .bl b => .bl b
  | _, _, .int i => .int i
  | _, _, .str x => .str x
  | _, _, .tup s a => .tup (node _ _ s) (RdTAll.of node a)
theorem RdTAll.of {K : PySem.W.Frag} {H G : Hp} {h0 h : Heap} {bad : List Addr} (node : ∀ a xs, SqT K G a xs → SqT K H a xs ∨ NewT h0 bad h a xs) : ∀ {vs : List V} {ds : List PyData}, DpTAll K G vs ds → RdTAll K H h0 bad h vs ds
  | _, _, .nil => .nil
  | _, _, .cons a b => .cons (RdT.of node a) (RdTAll.of node b)
end
mutual
theorem RdT.to {K : PySem.W.Frag} {H G : Hp} {h0 h : Heap} {bad : List Addr} (node : ∀ a xs, (SqT K H a xs ∨ NewT h0 bad h a xs) → SqT K G a xs) : ∀ {v : V} {d : PyData}, RdT K H h0 bad h v d → DpT K G v d
  | _, _, .non => .non
  | _, _, .bl b => .bl b
  | _, _, .int i => .int i
  | _, _, .str x => .str x
  | _, _, .tup s a => .tup (node _ _ s) (RdTAll.to node a)
theorem RdTAll.to {K : PySem.W.Frag} {H G : Hp} {h0 h : Heap} {bad : List Addr} (node : ∀ a xs, (SqT K H a xs ∨ NewT h0 bad h a xs) → SqT K G a xs) : ∀ {vs : List V} {ds : List PyData}, RdTAll K H h0 bad h vs ds → DpTAll K G vs ds
  | _, _, .nil => .nil
  | _, _, .cons a b => .cons (RdT.to node a) (RdTAll.to node b)
end
open Classical in
/-- all tuples of a heap -/
noncomputable def allT (h : Heap) : Hp := fun b => if e : ∃ (o : Obj) (xs : List V), xs.length ≤ sizeLine ∧ (∃ its : List Value, Vals xs its ∧ IsTup h b its.toArray) ∧ h.get? b = some o then some (.frz e.choose (.tup e.choose_spec.choose)) else none
theorem allT_ok {P : Program} {w : World} {h : Heap} {N : Hp} {b : Addr} {u : HO} (e : allT h b = some u) : ∃ o xs, u = .frz o (.tup xs) ∧ ObjOk P w N h b u := by
  unfold allT at e
  split at e
  · rename_i z
    cases e
    have s := z.choose_spec.choose_spec
    exact ⟨_, _, rfl, s.2.2, s.1, s.2.1⟩
  · cases e
theorem allT_new {h0 h : Heap} {bad : List Addr} {a : Addr} {xs : List V} (n : NewT h0 bad h a xs) : ∃ o, allT h a = some (.frz o (.tup xs)) := by
  obtain ⟨its, r, o, e, c⟩ := n.its
  have z : ∃ (o : Obj) (xs : List V), xs.length ≤ sizeLine ∧ (∃ its : List Value, Vals xs its ∧ IsTup h a its.toArray) ∧ h.get? a = some o := ⟨o, xs, n.len, ⟨its, r, o, e, c⟩, e⟩
  unfold allT
  rw [dif_pos z]
  obtain ⟨_, ⟨its2, r2, o2, e2, c2⟩, _⟩ := z.choose_spec.choose_spec
  have ex : z.choose_spec.choose = xs := by
    rw [e] at e2
    cases e2
    obtain ⟨_, m, d⟩ := c
    obtain ⟨_, m2, d2⟩ := c2
    rw [d] at d2
    have : its = its2 := by
      cases d2
      rfl
    subst this
    exact vals_one r2 r
  rw [ex]
  exact ⟨_, rfl⟩
end V3
/-! tuple(f(..) for .. in ..): calls whose results are new tuples. -/
namespace V3
open PySem.Spec PySem L2 PyProof.Rows GxR RZ
theorem obj_there {P : Program} {w : World} {H : Hp} {h : Heap} {a : Addr} {u : HO} (x : ObjOk P w H h a u) : ∃ o, h.get? a = some o := by
  cases u with
  | lst xs =>
    obtain ⟨_, _, _, _, e⟩ := x
    exact ⟨_, e⟩
  | tup xs =>
    obtain ⟨_, _, _, o, e, _⟩ := x
    exact ⟨o, e⟩
  | dK kvs =>
    obtain ⟨_, _, _, _, o, _, _, e, _⟩ := x
    exact ⟨o, e⟩
  | dT kvs =>
    obtain ⟨_, _, _, _, o, _, _, e, _⟩ := x
    exact ⟨o, e⟩
  | set S n =>
    obtain ⟨o, _, _, _, e, _⟩ := x
    exact ⟨o, e⟩
  | ins C dx fs =>
    obtain ⟨_, _, _, e, _⟩ := x
    exact ⟨_, e⟩
  | own y => exact x
  | xd fs =>
    obtain ⟨_, ⟨o, _, _, e, _⟩, _⟩ := x
    exact ⟨o, e⟩
  | rng lo hi =>
    obtain ⟨_, _, _, e⟩ := x
    exact ⟨_, e⟩
  | frz ob u => exact ⟨ob, x.1⟩
  | tbl ps => exact ⟨_, x⟩
  | met f y => exact ⟨_, x⟩
  | ext φ => exact x.2.1
theorem gen_callH {X : Cx} {pins : List (Addr × Obj)} {σ : L2.St} {H : Hp} {s t : Shared} {k : Nat} {f C : Addr} {fd : FuncData} {ps : List Str} {sp : Sp} {B : Around} {ce : Env} {us : List Value} {vs : List V} {q : V → Hp → Prop} {R : Value → Shared → Prop} {Ex : Value → Shared → Prop}
    (I : Inv X pins σ H s) (G : FnOk X.prog X.w X.K X.mg X.base CX0 k f fd ps sp) (bd : Binds X.K fd ps []) (hr : Room (k + 1) X.A) (g : InGen X H s.heap ce C t)
    (b0 : B.handled = none) (bf : B.frames = some (ce :: X.stack)) (bd1 : B.depth ≤ X.A.depth + 1) (bu : B.units ≤ X.A.units + 8) (r : Vals vs us) (ask : sp vs (fast s.heap H) (fun v H' => q v H') E0)
    (fin : ∀ v u t' H', q v H' → HOk X.prog X.w H' t'.heap → Un (frs (ce :: X.stack)) [] (fast s.heap H) H' t.heap t'.heap → RelV v u → KeptG (frs (ce :: X.stack)) t t' → R u t') : wpAny (model X.prog X.w) B (call (.ref f) us) R Ex t := by
  have room : Room k B := ⟨b0, by have := hr.dp; omega, by have := hr.un; omega⟩
  have kin : X.K.In t.heap := I.ok.mod.kin.keeps g.base
  have e0 : Env0 X.prog X.w X.K X.mg X.base B (ce :: X.stack) t (fast s.heap H) := ⟨bf, I.ok.mod, fun b o it => ⟨g.base b o it, fast_none (I.bs b o it).2⟩, g.sz, g.funs, fun b hb => fast_none (g.frf b hb), g.ok, g.bare⟩
  have hl : (us ++ []).length = ps.length := by
    rw [List.append_nil, ← r.length]
    exact G.len _ _ _ _ ask
  have bs := bd t us kin hl
  rw [List.append_nil] at bs
  refine wpAny_call (codeAny_mono (G.run B (ce :: X.stack) t (fast s.heap H) ⟨us, []⟩ us vs (fun v H' => q v H') E0 room e0 bs r ask) fun res t' c => ?_)
  cases res with
  | error e => exact False.elim c
  | ok fl =>
    cases fl with
    | ret u =>
      obtain ⟨kg, _⟩ := kept_CE g.ok c
      obtain ⟨v, H', os, bare, un, ok, rv, qv⟩ := c
      exact fin v u t' H' qv ok un rv kg
    | next => exact False.elim c
    | brk => exact False.elim c
    | cont => exact False.elim c
section
variable {X : Cx} {H : Hp} {h : Heap} {σ : L2.St} {scope : Scope} {ce : Env} {B : Around} {mp : Str → Option Value} {Ok : Shared → Prop} {bad : List Addr} {e e1 e2 : Expr} {P1 P2 : V → Prop}
/-- what a call leaves, read in the heap -/
theorem rd_call {v : V} {d : PyData} {t t' : Shared} {H' : Hp} (G : GFH X H h σ scope ce B mp Ok bad) (ok : Ok t) (dv : DpT X.K H' v d) (hk : HOk X.prog X.w H' t'.heap) (un : Un (frs (ce :: X.stack)) [] (fast h H) H' t.heap t'.heap) : RdT X.K H h bad t'.heap v d := by
  refine RdT.of (fun a xs s => ?_) dv
  have both : ∀ w, H' a = some w → (w = .tup xs ∨ ∃ o, w = .frz o (.tup xs)) → SqT X.K H a xs ∨ NewT h bad t'.heap a xs := fun w e hw => by
    have tup : xs.length ≤ sizeLine ∧ ∃ its : List Value, Vals xs its ∧ IsTup t'.heap a its.toArray := by
      rcases hw with rfl | ⟨o, rfl⟩
      · exact hk a _ e
      · exact (hk a _ e).2
    cases ef : fast h H a with
    | some w2 =>
      left
      have keepW : ∀ o u, fast h H a = some (.frz o u) → H' a = some (.frz o u) := fun o u z => un.frzs a o u z
      rcases fast_cases ef with ⟨ys, o, e1, e2, rfl⟩ | ⟨ys, o, e1, e2, rfl⟩ | ⟨ys, o, e1, rfl⟩ | ⟨ys, o, e1, rfl⟩ | ⟨kvs, o, e1, e2, rfl⟩ | ⟨kvs, o, e1, rfl⟩
      · have z := keepW _ _ ef
        rw [e] at z
        cases z
        rcases hw with z | ⟨o2, z⟩ <;> cases z
        exact .inl (.inl e1)
      · have z := keepW _ _ ef
        rw [e] at z
        cases z
        rcases hw with z | ⟨o2, z⟩ <;> cases z
      · have z := keepW _ _ ef
        rw [e] at z
        cases z
        rcases hw with z | ⟨o2, z⟩ <;> cases z
        exact .inl (.inr ⟨_, e1⟩)
      · have z := keepW _ _ ef
        rw [e] at z
        cases z
        rcases hw with z | ⟨o2, z⟩ <;> cases z
      · have z := keepW _ _ ef
        rw [e] at z
        cases z
        rcases hw with z | ⟨o2, z⟩ <;> cases z
      · have z := keepW _ _ ef
        rw [e] at z
        cases z
        rcases hw with z | ⟨o2, z⟩ <;> cases z
    | none =>
      right
      have absent : t.heap.get? a = none := by
        cases et : t.heap.get? a with
        | none => rfl
        | some o =>
          have := un.free a o et ef (by simp)
          rw [e] at this
          cases this
      refine ⟨fun hb => ?_, ?_, tup.1, tup.2⟩
      · obtain ⟨⟨o, z⟩, _⟩ := G.bad t ok a hb
        rw [absent] at z
        cases z
      · cases eh : h.get? a with
        | none => rfl
        | some o =>
          obtain ⟨o', z⟩ := G.old t ok a o eh
          rw [absent] at z
          cases z
  rcases s with (e | ⟨o, e⟩) | c
  · exact both _ e (.inl rfl)
  · exact both _ e (.inr ⟨o, rfl⟩)
  · exact .inl (.inr c)
theorem geh_call1 {fn : Str} {p0 pos0 : Pos} {k : Nat} {ps : List Str} {sp : Sp} {d : PyData} (G : GFH X H h σ scope ce B mp Ok bad) (D : Df X.prog X.w X.K X.mg X.base fn k ps sp) (hr : Room (k + 1) X.A) (kf : scope.names.lookup fn = some .globalImplicit) (h1 : GE X ce B Ok e1 P1)
    (ask : ∀ x, P1 x → sp [x] (fast h H) (fun v H' => DpT X.K H' v d) E0) (df : (fn == ("__debug__" : Str)) = false := by decide) (hs : ∀ env, starEach [e1] env = (false, eval e1 env) :: starEach [] env := by intro _; rfl) :
    GEH X ce B Ok (.Call (.Name fn p0) [e1] [] pos0) (fun v h' => RdT X.K H h bad h' v d) := fun Ex t ok => by
  obtain ⟨f, fd, gf, kp, bd, F, _⟩ := D.ex
  obtain ⟨pins, s, hsh, I⟩ := G.g.inv
  subst hsh
  refine wpAny_Call_Name_kw (Calls.Name_function_global (by rw [G.g.sc]; exact G.g.kind) (by show ce.scope.names.lookup fn = _; rw [G.g.sc]; exact kf) (Calls.loadGlobal_global (by rw [G.g.glob]; exact I.mod.glob.keeps (G.g.inGen t ok).base) gf ?_) df)
  refine PySem.W.callWith_K (h₀ := X.base) I.ok.mod.kin kp ?_ (hs ce) (by rfl)
  rw [hs]
  show wpAny _ B (spliced ((false, eval e1 ce) :: [])) _ _ t
  refine Calls.spliced_cons (thn (h1 _ t ok) fun u1 t1 ⟨⟨x, r1, p1⟩, k1⟩ => ?_)
  have ok1 := G.g.next _ _ ok k1
  refine Calls.spliced_nil ⟨I.ok.mod.kin.keeps (G.g.inGen t1 ok1).base, ?_⟩
  exact gen_callH (q := fun v H' => DpT X.K H' v d) I F bd hr (G.g.inGen t1 ok1) G.g.b0 G.g.bf G.g.bd G.g.bu (.cons r1 .nil) (ask x p1) fun v2 u2 t2 H2 qv hk un rv2 kg => ⟨⟨v2, rv2, rd_call G ok1 qv hk un⟩, k1.trans kg⟩
theorem geh_call2 {fn : Str} {p0 pos0 : Pos} {k : Nat} {ps : List Str} {sp : Sp} {d : PyData} (G : GFH X H h σ scope ce B mp Ok bad) (D : Df X.prog X.w X.K X.mg X.base fn k ps sp) (hr : Room (k + 1) X.A) (kf : scope.names.lookup fn = some .globalImplicit) (h1 : GE X ce B Ok e1 P1) (h2 : GE X ce B Ok e2 P2)
    (ask : ∀ x y, P1 x → P2 y → sp [x, y] (fast h H) (fun v H' => DpT X.K H' v d) E0) (df : (fn == ("__debug__" : Str)) = false := by decide) (hs : ∀ env, starEach [e1, e2] env = (false, eval e1 env) :: starEach [e2] env := by intro _; rfl) (hs2 : ∀ env, starEach [e2] env = (false, eval e2 env) :: starEach [] env := by intro _; rfl) :
    GEH X ce B Ok (.Call (.Name fn p0) [e1, e2] [] pos0) (fun v h' => RdT X.K H h bad h' v d) := fun Ex t ok => by
  obtain ⟨f, fd, gf, kp, bd, F, _⟩ := D.ex
  obtain ⟨pins, s, hsh, I⟩ := G.g.inv
  subst hsh
  refine wpAny_Call_Name_kw (Calls.Name_function_global (by rw [G.g.sc]; exact G.g.kind) (by show ce.scope.names.lookup fn = _; rw [G.g.sc]; exact kf) (Calls.loadGlobal_global (by rw [G.g.glob]; exact I.mod.glob.keeps (G.g.inGen t ok).base) gf ?_) df)
  refine PySem.W.callWith_K (h₀ := X.base) I.ok.mod.kin kp ?_ (hs ce) (by rw [hs2]; rfl)
  rw [hs, hs2]
  show wpAny _ B (spliced ((false, eval e1 ce) :: (false, eval e2 ce) :: [])) _ _ t
  refine Calls.spliced_cons (thn (h1 _ t ok) fun u1 t1 ⟨⟨x, r1, p1⟩, k1⟩ => ?_)
  have ok1 := G.g.next _ _ ok k1
  refine Calls.spliced_cons (thn (h2 _ t1 ok1) fun u2 t2 ⟨⟨y, r2, p2⟩, k2⟩ => ?_)
  have ok2 := G.g.next _ _ ok1 k2
  refine Calls.spliced_nil ⟨I.ok.mod.kin.keeps (G.g.inGen t2 ok2).base, ?_⟩
  exact gen_callH (q := fun v H' => DpT X.K H' v d) I F bd hr (G.g.inGen t2 ok2) G.g.b0 G.g.bf G.g.bd G.g.bu (.cons r1 (.cons r2 .nil)) (ask x y p1 p2) fun v2 u3 t3 H2 qv hk un rv2 kg => ⟨⟨v2, rv2, rd_call G ok2 qv hk un⟩, (k1.trans k2).trans kg⟩
end
section
variable {X : Cx} {pins : List (Addr × Obj)} {σ : L2.St} {H1 : Hp} {h0 : Heap} {P g : Addr} {t5 : Shared} {wr' fs' bad : List Addr} {St' : Nat → Shared → Prop} {L : List Nat} {pos : Pos} {Q : VK}
theorem items_rd {d : Nat → PyData} {acc : Array Value} {h : Heap} (a : ItemsH (fun j y h => ∃ i, L[j]? = some i ∧ ∃ v, RelV v y ∧ RdT X.K H1 h0 bad h v (d i)) acc L.length h) : ∃ ys, Vals ys acc.toList ∧ RdTAll X.K H1 h0 bad h ys (L.map d) := by
  have go : ∀ (M : List Nat) (l : List Value), l.length = M.length → (∀ j y, l[j]? = some y → ∃ i, M[j]? = some i ∧ ∃ v, RelV v y ∧ RdT X.K H1 h0 bad h v (d i)) → ∃ ys, Vals ys l ∧ RdTAll X.K H1 h0 bad h ys (M.map d) := fun M => by
    induction M with
    | nil =>
      intro l hl _
      cases l with
      | nil =>
        exact ⟨[], .nil, .nil⟩
      | cons a r => cases hl
    | cons m r ih =>
      intro l hl hh
      cases l with
      | nil => cases hl
      | cons a s =>
        obtain ⟨i, hi, v, rv, rd⟩ := hh 0 a rfl
        have e : m = i := Option.some.inj hi
        subst e
        obtain ⟨ys, vr, rr⟩ := ih s (Nat.succ.inj hl) fun j y hj => hh (j + 1) y hj
        exact ⟨v :: ys, .cons rv vr, .cons rd rr⟩
  exact go L acc.toList (by rw [Array.length_toList]; exact a.1) fun j y hj => a.2 j y (by simpa using hj)
theorem tup_endH {d : Nat → PyData} (wb : ∀ b ∈ wr', b ∈ bad) (fb : ∀ b ∈ fs', b ∈ bad) (Sg : StandsH X g t5 wr' fs' L.length (fun j y h => ∃ i, L[j]? = some i ∧ ∃ v, RelV v y ∧ RdT X.K H1 h0 bad h v (d i)) St')
    (hH : ∀ b u, H1 b = some u → ∃ o, h0.get? b = some o) (hP : ∃ q, H1 P = some (.tbl q))
    (on : ∀ (t' : Shared) (N : Hp), MovedV wr' fs' t5 t' → (∀ b u, N b = some u → ∃ o xs, u = .frz o (.tup xs) ∧ ObjOk X.prog X.w N t'.heap b u) → ∃ H2, TabG H2 P ∧ (∀ b u, b ≠ P → H1 b = some u → H2 b = some u) ∧ (∀ b u, H1 b = none → h0.get? b = none → N b = some u → H2 b = some u) ∧ Inv X pins σ H2 t') (l9 : L.length ≤ sizeLine)
    (q : ∀ H2 l, But P H1 H2 → TabG H2 P → DpT X.K H2 (.ref l) (.tuple (L.map d)) → Q (.ref l) H2) :
    wpAny (model X.prog X.w) X.A (spliced (backTo pos (starEach [] X.env))) (fun vs t6 => wpAny (model X.prog X.w) X.A (call (.type "tuple") (.ref g :: vs)) (EP X pins σ Q) X.xe t6) X.xe t5 := by
  refine Calls.spliced_nil (call_tuple_genH (bad := bad) (WalksH.down (A := X.A.in1.in1.in1) Sg.walk) wb fb (fun j v h h' ⟨i, hi, v2, r, rd⟩ k => ⟨i, hi, v2, r, rd.stay k⟩) l9 Sg.ty Sg.st Sg.low (fun z => Nat.lt_irrefl _ (Sg.wlow _ z)) (fun z => Nat.lt_irrefl _ (Sg.flow _ z)) (fun i t2 h' tk st2 k2 => Sg.frame i t2 h' tk _ (Nat.le_refl _) st2 k2) fun t' acc mv items => ?_)
  obtain ⟨H2, tb, k1, k2, J⟩ := on t' (allT t'.heap) mv fun b u e => allT_ok e
  obtain ⟨ys, rv, rd⟩ := items_rd items
  have ly : ys.length ≤ sizeLine := by
    rw [rv.length, Array.length_toList, items.1]
    exact l9
  have dy : DpTAll X.K H2 ys (L.map d) := RdTAll.to (fun a xs hh => by
    rcases hh with s | n
    · rcases s with (e | ⟨o, e⟩) | c
      · refine .inl (.inl (k1 _ _ (fun z => ?_) e))
        obtain ⟨q, hq⟩ := hP
        rw [z, hq] at e
        cases e
      · refine .inl (.inr ⟨o, k1 _ _ (fun z => ?_) e⟩)
        obtain ⟨q, hq⟩ := hP
        rw [z, hq] at e
        cases e
      · exact .inr c
    · obtain ⟨o, e⟩ := allT_new n
      refine .inl (.inr ⟨o, k2 _ _ ?_ n.n0 e⟩)
      cases eh : H1 a with
      | none => rfl
      | some u =>
        obtain ⟨o2, z⟩ := hH a u eh
        rw [n.n0] at z
        cases z) rd
  have fresh := J.hok.fresh (Nat.le_refl t'.heap.objs.size)
  have I2 : Inv X pins σ (upd H2 t'.heap.objs.size (.tup ys)) { t' with heap := t'.heap.push { cls := .type "tuple", data := .seq acc } } :=
    J.laid (t' := t'.toks) (fun b o e => Heap.get?_push_of_some _ e) (Nat.le_refl _) (show ObjOk X.prog X.w _ _ _ (.tup _) from ⟨ly, acc.toList, rv, by
      (have e : acc.toList.toArray = acc := by simp)
      rw [e]
      exact IsTup.new _ _⟩)
  have sm : Same H2 (upd H2 t'.heap.objs.size (.tup ys)) := same_upd fresh
  refine ⟨.ref t'.heap.objs.size, _, I2, rfl, q _ _ (fun b u nb e => sm b u (k1 b u nb e)) (TabG.same (P := P) tb sm) (.tup (SqT.of upd_same) (dy.keep (Same.kt sm)))⟩
end
section
variable {X : Cx}
/-- what is told of the tests and of the new thing at each place -/
structure AsksH (X : Cx) (scope : Scope) (σ : L2.St) (H1 : Hp) (Row : Nat → (Str → Option Value) → Prop) (ifs : List Expr) (elt : Expr) (pz : Nat → Bool) (d : Nat → PyData) : Prop where
  tst : ∀ (h : Heap), HOk X.prog X.w H1 h → ∀ (bad : List Addr) (ce : Env) (B : Around) (mp : Str → Option Value) (Ok : Shared → Prop) (i : Nat), Row i mp → GFH X H1 h σ scope ce B mp Ok bad → GT X ce B Ok ifs (pz i)
  elt : ∀ (h : Heap), HOk X.prog X.w H1 h → ∀ (bad : List Addr) (ce : Env) (B : Around) (mp : Str → Option Value) (Ok : Shared → Prop) (i : Nat), Row i mp → pz i = true → GFH X H1 h σ scope ce B mp Ok bad → GEH X ce B Ok elt (fun v h' => RdT X.K H1 h bad h' v (d i))
def tTupH (X : Cx) (P : Addr) (scope : Scope) (ifs : List Expr) (elt : Expr) (ti : TI) : TE := fun σ H Q => ti σ H fun n Row H1 => ∃ (pz : Nat → Bool) (d : Nat → PyData), AsksH X scope σ H1 Row ifs elt pz d ∧ n ≤ 1000 ∧
  ∀ H2 l, But P H1 H2 → TabG H2 P → DpT X.K H2 (.ref l) (.tuple (((List.range n).filter pz).map d)) → Q (.ref l) H2
variable {c P : Addr} {iter tgt elt : Expr} {ifs : List Expr} {p gpos pos : Pos} {scope : Scope} {ti : TI} {k : Nat}
theorem pe_tupH (hr : Room k X.A) (hg : Gl X "tuple") (hma : X.mg "tuple" = none) (TB : TabB X.base X.mg c P) (hcode : X.env.code = .ref c) (S : GenS0 X.env scope) (hi : IR X P iter tgt scope ti) (nofold : ∀ v, genFold iter X.env v = pure v)
    (he : starEach [genG elt iter tgt ifs scope gpos] X.env = (false, eval (genG elt iter tgt ifs scope gpos) X.env) :: starEach [] X.env := by rfl) : PE X (.Call (.Name "tuple" p) [genG elt iter tgt ifs scope gpos] [] pos) (tTupH X P scope ifs elt ti) := by
  (refine ⟨fun pins s σ H Q I h => ?_⟩)
  refine wpAny_Call_Name_kw (ld_blt (u := .type "tuple") I hg hma (by decide +kernel) ?_)
  refine PyProof.Rows.callWith_type1 (T := "tuple") ?_ he (by rfl)
  rw [he]
  show wpAny _ _ (spliced ((false, eval (genG elt iter tgt ifs scope gpos) X.env) :: backTo pos (starEach [] X.env))) _ _ s
  refine Calls.spliced_cons (genexpH hr.hd S.co (closure_ok S.free) S.cell S.dot S.kind (by have := hr.dp; omega) ?_ nofold)
  refine hi.run pins s σ H _ _ I h fun H1 s0 hz I fp wr n Bd St I0 tab rdy live ⟨pz, d, ask, n9, q⟩ => ?_
  refine gen_coreH (F := fun bad i v h' => RdT X.K H1 s0.heap bad h' v (d i)) (pz := pz) I0 hr TB hcode S rdy live tab (fun bad ce B mp Ok i bd G => ask.tst _ I0.hok bad ce B mp Ok i bd G) (fun bad ce B mp Ok i bd pi G => ask.elt _ I0.hok bad ce B mp Ok i bd pi G) (fun bad g t5 wr' fs' St' wb fb Sg on => tup_endH (P := P) (H1 := H1) wb fb Sg (fun b u e => ?_) ?_ on ?_ q)
  · exact obj_there (I0.hok b u e)
  · obtain ⟨ptab, hP, _⟩ := tab
    exact ⟨_, hP⟩
  · refine Nat.le_of_lt (small1000 (Nat.le_trans (List.length_filter_le _ _) ?_))
    rw [List.length_drop, List.length_range]
    omega
end
end V3
/-! xs.remove(x), x equal to one of the things of the list. -/
namespace V3
open PySem.Spec PySem L2 PyProof.Rows RZ GxR
section
variable {X : Cx}
def rRemD (K : PySem.W.Frag) : V → List V → Hp → VK → Prop := fun x xs H Q => ∃ (l : Addr) (ys : List V) (y : V) (d : PyData) (ds : List PyData) (j : Nat) (z : PyData), x = V.ref l ∧ xs = [y] ∧ H l = some (.lst ys) ∧ DpAll K H ys ds ∧ Dp K H y d ∧
  SeqAt.shaped (.list ds) = true ∧ SeqAt.shaped d = true ∧ ds[j]? = some z ∧ PyData.eqv z d = true ∧ (∀ (m : Nat) (z' : PyData), m < j → ds[m]? = some z' → PyData.eqv z' d = false) ∧ Q .non (upd H l (.lst (ys.eraseIdx j)))
theorem mt_removeD (hu : X.A.units + 65 < cLine) : MtM X "list.remove" (rRemD X.K) := by
  (intro pins s σ H x xs v us Q I rx rxs h)
  obtain ⟨l, ys, y, d, ds, j, z, rfl, rfl, hH, ha, hy, sl, sd, hz, hzj, hno, q⟩ := h
  cases rx
  obtain ⟨uy, rfl, ry⟩ := rxs.one
  (obtain ⟨bs, r1⟩ := Dp.reads I d y uy hy ry)
  (have hxs : PyData.canLayAll0 ds = true := SeqAt.canLay_of_shaped sl)
  (have hroom : X.A.units + 1 + min (PyData.depthAll ds) d.depth < cLine := room_in_shaped sd hu)
  obtain ⟨zl, its, n, rv, hl, eo⟩ := I.lstM hH
  (obtain ⟨as, h4⟩ := Dp.readsAll I ds _ its ha rv)
  (have hn : its.length = ds.length := SeqAt.ReadsAll.length ds its as h4)
  (have hmap : its.map (SeqAt.readOf s.heap) = ds := SeqAt.readsAll_map ds its as hxs h4)
  have hvl := rv.length
  (obtain ⟨hjd, _⟩ := List.getElem?_eq_some_iff.mp hz)
  have hj : j < its.toArray.size := by
    rw [List.size_toArray]
    omega
  have at_ : ∀ (m : Nat) (lm : m < its.toArray.size) (z2 : PyData), ds[m]? = some z2 → SeqAt.readOf s.heap its.toArray[m] = z2 := by
    intro m hm z2 hq'
    (have hml : m < its.length := by simpa using hm)
    rw [← hmap, List.getElem?_map, List.getElem?_eq_getElem hml] at hq'
    have e1 := Option.some.inj hq'
    simpa using e1
  refine call_meets PySem.F.slot_list_remove ⟨_, eo, rfl⟩ PySem.F.entry_list_remove (PySem.F.args_list_remove_2 _ _)
    (SeqAt.list_removeAt l its.toArray n none #[] uy (fun u => PyData.eqv (SeqAt.readOf s.heap u) d) j hj ?_ ?_ (by rw [List.size_toArray]; omega)) ⟨eo, SeqAt.items_eqAt (vs := its.toArray) (show ReadsAll s.heap its.toArray.toList ds as from h4) r1 hxs (SeqAt.canLay_of_shaped sd) hroom, ?_⟩
  · (show PyData.eqv (SeqAt.readOf s.heap its.toArray[j]) d = true)
    rw [at_ j hj z hz]
    exact hzj
  · intro m hm hmj
    have hmk : m < ds.length := by omega
    have hq' : ds[m]? = some ds[m] := List.getElem?_eq_getElem hmk
    (show PyData.eqv (SeqAt.readOf s.heap its.toArray[m]) d = false)
    rw [at_ m hm _ hq']
    exact hno m _ hmj hq'
  · have rr := rv.eraseIdx j
    refine ⟨.non, _, I.lset (its' := its.eraseIdx j) (t' := s.toks) hH eo ?_ rr ?_, rfl, q⟩
    · (show its.toArray.eraseIdxIfInBounds j = (its.eraseIdx j).toArray)
      (rw [List.eraseIdxIfInBounds_toArray])
    · exact Nat.le_trans (List.length_eraseIdx_le ..) zl
end
end V3
/-! Inside a generator expression: a test, one value or another, tuples of data compared. -/
namespace V3
open PySem.Spec PySem L2 PyProof.Rows GxR RZ
section
variable {P : Program} {w : World} {K : PySem.W.Frag} {H : Hp} {h : Heap}
theorem sqT_there {a : Addr} {xs : List V} (ok : HOk P w H h) (kin : K.In h) (q : SqT K H a xs) : ∃ its : List Value, Vals xs its ∧ IsTup h a its.toArray := by
  rcases q with z | ⟨o, its, n, hk, hc, hs2, hz, r⟩
  · obtain ⟨z, its, r, pp⟩ := z.ok ok
    exact ⟨its, r, pp⟩
  · exact ⟨its.toList, r, ⟨o, kin a o hk, hc, n, by simpa using hs2⟩⟩
mutual
theorem DpT.readsH (ok : HOk P w H h) (kin : K.In h) : ∀ (d : PyData) (v : V) (u : Value), DpT K H v d → RelV v u → ∃ as, Reads h u d as
  | .none, _, _, g, r => by
    cases g
    cases r
    exact ⟨_, Reads.none⟩
  | .bool b, _, _, g, r => by
    cases g
    cases r
    exact ⟨_, Reads.bool b⟩
  | .int i, _, _, g, r => by
    cases g
    obtain ⟨t, rfl⟩ := r
    exact ⟨_, Reads.int i t⟩
  | .str x, _, _, g, r => by
    cases g
    obtain ⟨t, rfl⟩ := r
    exact ⟨_, Reads.str x t⟩
  | .list _, _, _, g, _ => by cases g
  | .tuple ds, _, _, g, r => by
    cases g with
    | tup hs ha =>
      cases r
      obtain ⟨its, rv, ⟨o, ho, hc, n, hd⟩⟩ := sqT_there ok kin hs
      obtain ⟨as, hr⟩ := DpT.readsAllH ok kin ds _ its ha rv
      (exact ⟨_, Reads.tuple ho hc hd hr⟩)
  | .dict _, _, _, g, _ => by cases g
theorem DpT.readsAllH (ok : HOk P w H h) (kin : K.In h) : ∀ (ds : List PyData) (vs : List V) (us : List Value), DpTAll K H vs ds → Vals vs us → ∃ as, ReadsAll h us ds as
  | [], _, _, g, r => by
    cases g
    cases r
    exact ⟨_, ReadsAll.nil⟩
  | d :: ds, _, _, g, r => by
    cases g with
    | cons h1 h2 =>
      cases r with
      | cons r1 r2 =>
        obtain ⟨as, q1⟩ := DpT.readsH ok kin d _ _ h1 r1
        obtain ⟨bs, q2⟩ := DpT.readsAllH ok kin ds _ _ h2 r2
        (exact ⟨_, ReadsAll.cons q1 q2⟩)
end
end
section
variable {X : Cx} {H : Hp} {h : Heap} {σ : L2.St} {scope : Scope} {ce : Env} {B : Around} {mp : Str → Option Value} {Ok : Shared → Prop} {e e1 e2 : Expr} {P P1 P2 : V → Prop}
/-- what a test tells inside the frame -/
def GB (X : Cx) (ce : Env) (B : Around) (Ok : Shared → Prop) (e : Expr) (b : Bool) : Prop :=
  ∀ (Ex : Value → Shared → Prop) (t : Shared), Ok t → wpAny (model X.prog X.w) B (isTrue e ce (eval e ce)) (fun c t' => c = b ∧ KeptG (frs (ce :: X.stack)) t t') Ex t
theorem gb_val {b : Bool} (a : GE X ce B Ok e (· = .bl b)) (he : ∀ whole, isTrue e ce whole = (do let v ← whole; standAt e.pos; holding [v] (truthy v)) := by intro _; rfl) : GB X ce B Ok e b := fun Ex t ok => by
  refine isTrue_plain (thn (a Ex t ok) fun u1 t1 ⟨⟨x, r1, p1⟩, k1⟩ => ?_) (he _)
  subst p1
  cases r1
  exact wpAny_truthy_bool ⟨rfl, k1⟩
theorem gb_cmp {p : Pos} {op : CmpOp} {f : Int → Int → Bool} {c : Bool} (G : GF X H h σ scope ce B mp Ok) (a : GE X ce B Ok e1 P1) (b : GE X ce B Ok e2 P2) (hm : behindInMarks op e2 = false)
    (rule : ∀ (i j : Int) (t u : Tok) (Q E : Value → Shared → Prop) (s : Shared), Q (.bool (f i j)) s → wpAny (model X.prog X.w) B (compareOp op (.int i t) (.int j u)) Q E s)
    (q : ∀ x y, P1 x → P2 y → ∃ i j, x = .int i ∧ y = .int j ∧ f i j = c) : GB X ce B Ok (.Compare e1 [op] [e2] p) c := fun Ex t ok => by
  refine wpAny_isTrue_Compare1 (thn (a Ex t ok) fun u1 t1 ⟨⟨x, r1, p1⟩, k1⟩ => thn (b Ex t1 (G.next _ _ ok k1)) fun u2 t2 ⟨⟨y, r2, p2⟩, k2⟩ => ?_) (by first | exact hm | assumption)
  obtain ⟨i, j, rfl, rfl, pv⟩ := q x y p1 p2
  obtain ⟨t', rfl⟩ := r1
  obtain ⟨t'', rfl⟩ := r2
  exact rule _ _ _ _ _ _ _ (wpAny_truthy_bool ⟨pv, k1.trans k2⟩)
theorem gt_one {b : Bool} (a : GB X ce B Ok e b) : GT X ce B Ok [e] b := fun Ex t ok => wpAny_tests_one (a Ex t ok)
theorem ge_if {p : Pos} {et eb eo : Expr} {b : Bool} (G : GF X H h σ scope ce B mp Ok) (a : GB X ce B Ok et b) (f : b = true → GE X ce B Ok eb P) (g : b = false → GE X ce B Ok eo P) : GE X ce B Ok (.IfExp et eb eo p) P := fun Ex t ok => by
  refine wpAny_IfExp (thn (a Ex t ok) fun c t1 ⟨ec, k1⟩ => ?_)
  subst ec
  cases c with
  | true => exact thn (f rfl Ex t1 (G.next _ _ ok k1)) fun u t' ⟨z, k2⟩ => ⟨z, k1.trans k2⟩
  | false => exact thn (g rfl Ex t1 (G.next _ _ ok k1)) fun u t' ⟨z, k2⟩ => ⟨z, k1.trans k2⟩
/-- two tuples of data, whether alike -/
theorem ge_eqD {p : Pos} {d1 d2 : PyData} {k : Nat} (G : GF X H h σ scope ce B mp Ok) (hr : Room k X.A) (a : GE X ce B Ok e1 fun v => DpT X.K (fast h H) v d1) (b : GE X ce B Ok e2 fun v => DpT X.K (fast h H) v d2) (hm : behindInMarks .Eq e2 = false)
    (s1 : SeqAt.shaped d1 = true) (s2 : SeqAt.shaped d2 = true) (q : P (.bl (PyData.eqv d1 d2))) : GE X ce B Ok (.Compare e1 [.Eq] [e2] p) P := fun Ex t ok => by
  refine wpAny_Compare1 (thn (a Ex t ok) fun u1 t1 ⟨⟨x, r1, p1⟩, k1⟩ => thn (b Ex t1 (G.next _ _ ok k1)) fun u2 t2 ⟨⟨y, r2, p2⟩, k2⟩ => ?_) hm
  have ok2 := G.next _ _ (G.next _ _ ok k1) k2
  have g := G.inGen t2 ok2
  obtain ⟨pins, s, _, I⟩ := G.inv
  have kin : X.K.In t2.heap := I.ok.mod.kin.keeps g.base
  obtain ⟨as, q1⟩ := DpT.readsH g.ok kin _ _ _ p1 r1
  obtain ⟨bs, q2⟩ := DpT.readsH g.ok kin _ _ _ p2 r2
  exact SeqAt.compareEq_shaped q1 q2 s1 s2 (by have := hr.un; have := G.bu; omega) ⟨⟨.bl _, rfl, q⟩, k1.trans k2⟩
end
end V3
/-! A generator expression over a list. -/
namespace V3
open PySem.Spec PySem L2 PyProof.Rows GxR RZ
section
variable {X : Cx}
def tiL (X : Cx) (P : Addr) (a : Str) (te : TE) : TI := fun σ H K => te σ H fun v H1 => ∃ (p : Addr) (xs : List V), v = .ref p ∧ H1 p = some (.lst xs) ∧ TabG H1 P ∧ K xs.length (rowN a xs) H1
theorem apartL {pins : List (Addr × Obj)} {σ : L2.St} {H1 : Hp} {s1 : Shared} {P l : Addr} {xs : List V} (I1 : Inv X pins σ H1 s1) (tab : TabG H1 P) (hH : H1 l = some (.lst xs)) : Apart X P l s1 ∧ ∃ its : List Value, Vals xs its ∧ s1.heap.IsList l its.toArray := by
  obtain ⟨z, its, n, r, hl, e⟩ := I1.lstM hH
  obtain ⟨ptab, hP, htr⟩ := tab
  refine ⟨⟨Heap.lt_size e, fun z => ?_, fun z => ?_⟩, its, r, ⟨_, e, rfl, n, rfl⟩⟩
  · rw [z, hP] at hH
    cases hH
  · have := I1.stkFree l z
    rw [hH] at this
    cases this
/-- for a in l, a list of data -/
theorem ir_lst {P : Addr} {iter : Expr} {a : Str} {pa : Pos} {scope : Scope} {te : TE} (hi : PE X iter te) (kd : scope.kind = .function) (ka : scope.names.lookup a = some .local) : IR X P iter (.Name a pa) scope (tiL X P a te) := by
  refine ⟨fun pins s σ H Kq R I h go => ?_⟩
  refine thn (hi.run pins s σ H _ I h) fun xv s1 ⟨v, H1, I1, rv, p, xs, ev, hsq, tab, kq⟩ => ?_
  subst ev
  cases rv
  obtain ⟨ap, its, rvs, tupA⟩ := apartL I1 tab hsq
  have szl := rvs.length
  refine wpAny_pyIter_list tupA ?_
  have keep : ∀ b o, s1.heap.get? b = some o → (s1.heap.push { cls := .type "list_iterator", data := .fields #[.ref p, .int 0 0] }).get? b = some o := fun b o it => Heap.get?_push_of_some _ it
  have frl := frsLow I1
  have tl := tabLow I1 tab
  have len : its.toArray.size = xs.length := by
    rw [List.size_toArray]
    exact szl.symm
  refine go H1 s1 _ s1.heap.objs.size [s1.heap.objs.size, p] [s1.heap.objs.size] xs.length (rowN a xs) (fun i h => h.IsListIter s1.heap.objs.size p i ∧ h.IsList p its.toArray) I1 tab ⟨keep, by rw [Heap.size_push]; exact Nat.le_succ _, fun ce hsc hlo => ?_, fun b hb => ?_, ⟨⟨_, Heap.get?_push_size _ rfl, rfl, rfl⟩, ?_⟩, fun b hb => ?_, fun b hb => ?_, fun b hb => ?_, fun b hb => ?_⟩ (fun i h st b hb => by
      obtain ⟨⟨o, ho, _⟩, _⟩ := st
      rw [List.mem_singleton.mp hb]
      exact ⟨o, ho⟩) kq
  · rw [← len]
    refine (Draws2.name (fun B hB => Walks.list hB s1.heap.objs.size p (Nat.ne_of_lt ap.low) its.toArray) (by show ce.scope.names.lookup a = _; rw [hsc]; exact ka) (by rw [hsc]; simp [kd]) hlo).mono fun i mp ⟨u, hu, m⟩ => ?_
    have hu : its[i]? = some u := by simpa using hu
    obtain ⟨x, hx, r⟩ := vals_at rvs hu
    exact ⟨x, u, hx, m, r⟩
  · exact List.mem_cons.mpr (.inl (List.mem_singleton.mp hb))
  · obtain ⟨ob, h1, h2⟩ := tupA
    exact ⟨ob, keep _ _ h1, h2⟩
  · rw [Heap.size_push]
    (simp only [List.mem_cons, List.not_mem_nil, or_false] at hb)
    rcases hb with z | z <;> subst z
    · exact Nat.lt_succ_self _
    · exact Nat.lt_succ_of_lt ap.low
  · (rw [List.mem_singleton.mp hb])
    exact Nat.le_refl _
  · (simp only [List.mem_cons, List.not_mem_nil, or_false] at hb)
    rcases hb with z | z <;> subst z
    · exact Nat.ne_of_gt tl
    · exact ap.np
  · intro z
    (simp only [List.mem_cons, List.not_mem_nil, or_false] at hb)
    rcases hb with y | y <;> subst y
    · exact Nat.lt_irrefl _ (frl _ z)
    · exact ap.nf z
end
end V3
set_option maxHeartbeats 4100000
namespace V3
open PySem.Spec PySem L2 PyProof.Rows RZ GxR
def rTupOf (K : PySem.W.Frag) : List V → Hp → VK → Prop := fun xs H Q => ∃ p ys, xs = [.ref p] ∧ ((SqL K H p ys ∧ ∀ l : Addr, H l = none → Q (.ref l) (upd H l (.tup ys))) ∨ (SqT K H p ys ∧ Q (.ref p) H))
theorem call_tuple_ofK {X : Cx} {K : PySem.W.Frag} (h : X.K = K) : CallR X (.type "tuple") (rTupOf K) := by
  subst h
  exact call_tuple_of
end V3
/-! Changes of signs: a product of (x - zero) has as many as zeros above 0. -/
namespace V3
/-- the sign as a truth: above 0 -/
def ps (y : Int) : Bool := decide (0 < y)
/-- how often signs change from here on, a being the last sign -/
def wC (a : Bool) : List Int → Nat
  | [] => 0
  | y :: r => if y = 0 then wC a r else (if a = ps y then 0 else 1) + wC (ps y) r
/-- how often signs change -/
def vC : List Int → Nat
  | [] => 0
  | y :: r => if y = 0 then vC r else wC (ps y) r
/-- times (x - z), c being the number behind -/
def mulG (z : Int) (c : Int) : List Int → List Int
  | [] => [c]
  | y :: r => (c - z * y) :: mulG z y r
def mulL (z : Int) (p : List Int) : List Int := mulG z 0 p
def bn (b : Bool) : Nat := if b then 1 else 0
theorem ps_ne {a b : Int} (ha : a ≠ 0) (h : ps a = !ps b) : (0 < a ∧ ¬ 0 < b) ∨ (a < 0 ∧ 0 < b) := by
  unfold ps at h
  by_cases x : 0 < a <;> by_cases y : 0 < b <;> simp [x, y] at h ⊢
  omega
theorem w_mul {z : Int} (hz : 0 < z) : ∀ (p : List Int) (a s : Bool) (c : Int), (c ≠ 0 → ps c = s) → (p = [] → c ≠ 0) → (∀ l, p.getLast? = some l → l ≠ 0) → wC s p + bn (a != s) ≤ wC a (mulG z c p)
  | [], a, s, c, hc, h0, _ => by
    have c0 := h0 rfl
    have e := hc c0
    show 0 + bn (a != s) ≤ (if c = 0 then 0 else (if a = ps c then 0 else 1) + 0)
    rw [if_neg c0, e]
    cases a <;> cases s <;> simp [bn]
  | y :: r, a, s, c, hc, _, hl => by
    have hl2 : ∀ l, r.getLast? = some l → l ≠ 0 := fun l h => hl l (by
      cases r with
      | nil => cases h
      | cons b t => rw [List.getLast?_cons_cons]; exact h)
    have hr : r = [] → y ≠ 0 := fun e => hl y (by rw [e]; rfl)
    show (if y = 0 then wC s r else (if s = ps y then 0 else 1) + wC (ps y) r) + bn (a != s) ≤ (if c - z * y = 0 then wC a (mulG z y r) else (if a = ps (c - z * y) then 0 else 1) + wC (ps (c - z * y)) (mulG z y r))
    by_cases y0 : y = 0
    · subst y0
      rw [if_pos rfl, Int.mul_zero, Int.sub_zero]
      by_cases c0 : c = 0
      · rw [if_pos c0]
        exact w_mul hz r a s 0 (fun h => absurd rfl h) hr hl2
      · rw [if_neg c0, hc c0]
        have k := w_mul hz r s s 0 (fun h => absurd rfl h) hr hl2
        cases a <;> cases s <;> simp [bn] at k ⊢ <;> omega
    · rw [if_neg y0]
      by_cases t : s = ps y
      · rw [if_pos t]
        have ky : y ≠ 0 → ps y = s := fun _ => t.symm
        by_cases q0 : c - z * y = 0
        · rw [if_pos q0, ← t]
          have k := w_mul hz r a s y ky hr hl2
          omega
        · rw [if_neg q0, ← t]
          have k := w_mul hz r (ps (c - z * y)) s y ky hr hl2
          generalize ps (c - z * y) = q at k ⊢
          cases a <;> cases s <;> cases q <;> simp [bn] at k ⊢ <;> omega
      · rw [if_neg t]
        -- the sign of c - z * y is s
        have sy : ps y = !s := by
          cases s <;> cases hq : ps y <;> simp [hq] at t ⊢
        have qs : c - z * y ≠ 0 ∧ ps (c - z * y) = s := by
          unfold ps at sy hc ⊢
          cases s with
          | true =>
            have yn : ¬ 0 < y := by simpa using sy
            have y1 : y < 0 := by omega
            have m := Int.mul_neg_of_pos_of_neg hz y1
            have c1 : 0 ≤ c := by
              by_cases c0 : c = 0
              · omega
              · have := hc c0
                simp at this
                omega
            exact ⟨by omega, by simp; omega⟩
          | false =>
            have y1 : 0 < y := by simpa using sy
            have m := Int.mul_pos hz y1
            have c1 : c ≤ 0 := by
              by_cases c0 : c = 0
              · omega
              · have := hc c0
                simp at this
                omega
            exact ⟨by omega, by simp; omega⟩
        rw [if_neg qs.1, qs.2]
        have k := w_mul hz r s (ps y) y (fun _ => rfl) hr hl2
        rw [sy] at k ⊢
        cases a <;> cases s <;> simp [bn] at k ⊢ <;> omega
theorem v_mul {z : Int} (hz : 0 < z) : ∀ (p : List Int), p ≠ [] → (∀ l, p.getLast? = some l → l ≠ 0) → vC p + 1 ≤ vC (mulL z p)
  | [], h, _ => absurd rfl h
  | y :: r, _, hl => by
    have hl2 : ∀ l, r.getLast? = some l → l ≠ 0 := fun l h => hl l (by
      cases r with
      | nil => cases h
      | cons b t => rw [List.getLast?_cons_cons]; exact h)
    show (if y = 0 then vC r else wC (ps y) r) + 1 ≤ (if 0 - z * y = 0 then vC (mulG z y r) else wC (ps (0 - z * y)) (mulG z y r))
    by_cases y0 : y = 0
    · subst y0
      rw [if_pos rfl, Int.mul_zero, if_pos (by omega)]
      cases r with
      | nil => exact absurd rfl (hl 0 rfl)
      | cons b t => exact v_mul hz (b :: t) (by simp) hl2
    · have m : 0 - z * y ≠ 0 := by
        have := Int.mul_ne_zero (Int.ne_of_gt hz) y0
        omega
      have sg : ps (0 - z * y) = !ps y := by
        unfold ps
        by_cases c : 0 < y
        · have := Int.mul_pos hz c
          simp [c]
          omega
        · have := Int.mul_neg_of_pos_of_neg hz (show y < 0 by omega)
          simp [c]
          omega
      rw [if_neg y0, if_neg m, sg]
      have k := w_mul hz r (!ps y) (ps y) y (fun _ => rfl) (fun e => y0) hl2
      cases hq : ps y <;> simp [bn, hq] at k ⊢ <;> omega
/-- with the signs of every other number turned -/
def altN (b : Bool) : List Int → List Int
  | [] => []
  | y :: r => (if b then -y else y) :: altN (!b) r
theorem ps_neg {y : Int} (h : y ≠ 0) : ps (-y) = !ps y := by
  unfold ps
  by_cases c : 0 < y <;> simp [c] <;> omega
/-- both ways together no oftener than places -/
theorem w_both : ∀ (p : List Int) (a a' : Bool) (b : Bool) (d : Nat), (∀ l, p.getLast? = some l → l ≠ 0) → (p ≠ []) →
    (a' = (if (b != (d % 2 == 0)) then !a else a)) → wC a p + wC a' (altN b p) ≤ p.length + d
  | [], _, _, _, _, _, h, _ => absurd rfl h
  | y :: r, a, a', b, d, hl, _, ha => by
    have hl2 : ∀ l, r.getLast? = some l → l ≠ 0 := fun l h => hl l (by
      cases r with
      | nil => cases h
      | cons b t => rw [List.getLast?_cons_cons]; exact h)
    show (if y = 0 then wC a r else (if a = ps y then 0 else 1) + wC (ps y) r) + (if (if b then -y else y) = 0 then wC a' (altN (!b) r) else (if a' = ps (if b then -y else y) then 0 else 1) + wC (ps (if b then -y else y)) (altN (!b) r)) ≤ (r.length + 1) + d
    by_cases y0 : y = 0
    · subst y0
      have e : (if b then -(0 : Int) else 0) = 0 := by split <;> rfl
      rw [e, if_pos rfl, if_pos rfl]
      have rn : r ≠ [] := fun z => hl 0 (by rw [z]; rfl) rfl
      have k := w_both r a a' (!b) (d + 1) hl2 rn (by
        rw [ha]
        have : ((d + 1) % 2 == 0) = !(d % 2 == 0) := by
          rcases Nat.mod_two_eq_zero_or_one d with q | q <;> simp [q] <;> omega
        rw [this]
        cases b <;> cases (d % 2 == 0) <;> rfl)
      omega
    · have n0 : (if b then -y else y) ≠ 0 := by split <;> omega
      rw [if_neg y0, if_neg n0]
      have sg : ps (if b then -y else y) = (if b then !ps y else ps y) := by
        cases b
        · rfl
        · exact ps_neg y0
      rw [sg]
      have tail : wC (ps y) r + wC (if b then !ps y else ps y) (altN (!b) r) ≤ r.length := by
        cases r with
        | nil => exact Nat.le_refl 0
        | cons q t =>
          have k := w_both (q :: t) (ps y) (if b then !ps y else ps y) (!b) 0 hl2 (by simp) (by cases b <;> rfl)
          omega
      have head : (if a = ps y then 0 else 1) + (if a' = (if b then !ps y else ps y) then 0 else 1) ≤ 1 + d := by
        rw [ha]
        rcases Nat.mod_two_eq_zero_or_one d with q | q
        · have dq : (d % 2 == 0) = true := by simp [q]
          rw [dq]
          cases a <;> cases ps y <;> cases b <;> simp
        · have d1 : 1 ≤ d := by omega
          have one : ∀ (q : Prop) [Decidable q], (if q then 0 else 1 : Nat) ≤ 1 := fun q _ => by split <;> omega
          exact Nat.le_trans (Nat.add_le_add (one _) (one _)) (by omega)
      omega
theorem v_both : ∀ (p : List Int), (∀ l, p.getLast? = some l → l ≠ 0) → (∀ y r, p = y :: r → y ≠ 0) → vC p + vC (altN false p) ≤ p.length - 1
  | [], _, _ => Nat.le_refl 0
  | y :: r, hl, h0 => by
    have y0 := h0 y r rfl
    have hl2 : ∀ l, r.getLast? = some l → l ≠ 0 := fun l h => hl l (by
      cases r with
      | nil => cases h
      | cons b t => rw [List.getLast?_cons_cons]; exact h)
    show (if y = 0 then vC r else wC (ps y) r) + (if y = 0 then vC (altN true r) else wC (ps y) (altN true r)) ≤ r.length + 1 - 1
    rw [if_neg y0, if_neg y0]
    cases r with
    | nil => exact Nat.le_refl 0
    | cons q t =>
      have k := w_both (q :: t) (ps y) (ps y) true 0 hl2 (by simp) rfl
      have e : (q :: t).length = t.length + 1 := rfl
      omega
end V3
/-! The product of (x - zero), the lowest power first: its changes of signs and its noughts. -/
namespace V3
def pL : List Int → List Int
  | [] => [1]
  | z :: r => mulL z (pL r)
theorem mulG_ne (z c : Int) (p : List Int) : mulG z c p ≠ [] := by
  cases p <;> simp [mulG]
theorem mulG_len (z : Int) : ∀ (c : Int) (p : List Int), (mulG z c p).length = p.length + 1
  | _, [] => rfl
  | c, y :: r => by
    show (mulG z y r).length + 1 = r.length + 1 + 1
    rw [mulG_len z y r]
theorem mulG_last (z : Int) : ∀ (c y : Int) (r : List Int), (mulG z c (y :: r)).getLast? = (y :: r).getLast?
  | c, y, [] => rfl
  | c, y, q :: t => by
    have k := mulG_last z y q t
    show ((c - z * y) :: mulG z y (q :: t)).getLast? = (y :: q :: t).getLast?
    rw [List.getLast?_cons_cons, ← k]
    show ((c - z * y) :: (y - z * q) :: mulG z q t).getLast? = ((y - z * q) :: mulG z q t).getLast?
    rw [List.getLast?_cons_cons]
theorem pL_len : ∀ w : List Int, (pL w).length = w.length + 1
  | [] => rfl
  | z :: r => by
    show (mulG z 0 (pL r)).length = _
    rw [mulG_len, pL_len r]
    rfl
theorem pL_ne (w : List Int) : pL w ≠ [] := fun h => by
  have := pL_len w
  rw [h] at this
  cases this
theorem pL_last : ∀ w : List Int, (pL w).getLast? = some 1
  | [] => rfl
  | z :: r => by
    have k := pL_last r
    show (mulG z 0 (pL r)).getLast? = some 1
    cases hp : pL r with
    | nil => exact absurd hp (pL_ne r)
    | cons y t =>
      rw [mulG_last, ← hp]
      exact k
theorem pL_lastn (w : List Int) : ∀ l, (pL w).getLast? = some l → l ≠ 0 := fun l h => by
  rw [pL_last] at h
  have := Option.some.inj h
  omega
theorem mulG_swap (x y : Int) : ∀ (p : List Int) (c c' d : Int), c - x * d = c' - y * d → mulG x c (mulG y d p) = mulG y c' (mulG x d p)
  | [], c, c', d, h => by
    show [c - x * d, d] = [c' - y * d, d]
    rw [h]
  | q :: t, c, c', d, h => by
    show (c - x * (d - y * q)) :: mulG x (d - y * q) (mulG y q t) = (c' - y * (d - x * q)) :: mulG y (d - x * q) (mulG x q t)
    rw [mulG_swap x y t (d - y * q) (d - x * q) q (by grind)]
    congr 1
    grind
theorem pL_perm {a b : List Int} (h : a.Perm b) : pL a = pL b := by
  induction h with
  | nil => rfl
  | cons x _ ih =>
    show mulL x _ = mulL x _
    rw [ih]
  | swap x y l => exact mulG_swap y x (pL l) 0 0 0 (by omega)
  | trans _ _ h1 h2 => rw [h1, h2]
theorem v_pos (rest : List Int) : ∀ pos : List Int, (∀ z ∈ pos, 0 < z) → pos.length ≤ vC (pL (pos ++ rest))
  | [], _ => Nat.zero_le _
  | z :: r, h => by
    have k := v_pos rest r fun y hy => h y (List.mem_cons_of_mem _ hy)
    have m := v_mul (h z List.mem_cons_self) (pL (r ++ rest)) (pL_ne _) (pL_lastn _)
    show r.length + 1 ≤ vC (mulL z (pL (r ++ rest)))
    omega
/-! ### the other way round -/
def sN (b : Bool) (y : Int) : Int := if b then -y else y
theorem altN_cons (b : Bool) (y : Int) (r : List Int) : altN b (y :: r) = sN b y :: altN (!b) r := rfl
theorem alt_mul (z : Int) : ∀ (p : List Int) (b : Bool) (c : Int), altN b (mulG z c p) = (mulG (-z) (sN (!b) c) (altN b p)).map fun x => -x
  | [], b, c => by
    show [sN b c] = [-(sN (!b) c)]
    cases b <;> simp [sN]
  | y :: r, b, c => by
    have k := alt_mul z r (!b) y
    show sN b (c - z * y) :: altN (!b) (mulG z y r) = -(sN (!b) c - -z * sN b y) :: (mulG (-z) (sN b y) (altN (!b) r)).map fun x => -x
    rw [k, Bool.not_not]
    congr 1
    cases b <;> simp [sN] <;> grind
theorem mulG_neg (z : Int) : ∀ (p : List Int) (c : Int), mulG z (-c) (p.map fun x => -x) = (mulG z c p).map fun x => -x
  | [], _ => rfl
  | y :: r, c => by
    show (-c - z * -y) :: mulG z (-y) (r.map fun x => -x) = (-(c - z * y)) :: (mulG z y r).map fun x => -x
    rw [mulG_neg z r y]
    congr 1
    grind
theorem w_neg : ∀ (p : List Int) (a : Bool), wC (!a) (p.map fun x => -x) = wC a p
  | [], _ => rfl
  | y :: r, a => by
    show (if -y = 0 then wC (!a) (r.map fun x => -x) else (if (!a) = ps (-y) then 0 else 1) + wC (ps (-y)) (r.map fun x => -x)) = (if y = 0 then wC a r else (if a = ps y then 0 else 1) + wC (ps y) r)
    by_cases y0 : y = 0
    · rw [if_pos (by omega), if_pos y0, w_neg r a]
    · rw [if_neg (by omega), if_neg y0, ps_neg y0, w_neg r (ps y)]
      cases a <;> cases ps y <;> rfl
theorem v_neg : ∀ p : List Int, vC (p.map fun x => -x) = vC p
  | [] => rfl
  | y :: r => by
    show (if -y = 0 then vC (r.map fun x => -x) else wC (ps (-y)) (r.map fun x => -x)) = (if y = 0 then vC r else wC (ps y) r)
    by_cases y0 : y = 0
    · rw [if_pos (by omega), if_pos y0, v_neg r]
    · rw [if_neg (by omega), if_neg y0, ps_neg y0, w_neg r (ps y)]
theorem alt_pL : ∀ w : List Int, altN false (pL w) = pL (w.map fun x => -x) ∨ altN false (pL w) = (pL (w.map fun x => -x)).map fun x => -x
  | [] => .inl rfl
  | z :: r => by
    have m := alt_mul z (pL r) false 0
    have z0 : sN (!false) 0 = 0 := rfl
    rw [z0] at m
    have e : altN false (pL (z :: r)) = (mulG (-z) 0 (altN false (pL r))).map fun x => -x := m
    have g : pL ((z :: r).map fun x => -x) = mulG (-z) 0 (pL (r.map fun x => -x)) := rfl
    rw [e, g]
    rcases alt_pL r with k | k
    · rw [k]
      exact .inr rfl
    · rw [k]
      left
      have n := mulG_neg (-z) (pL (r.map fun x => -x)) 0
      have z1 : (-0 : Int) = 0 := rfl
      rw [z1] at n
      rw [n, List.map_map]
      have : (fun x : Int => -x) ∘ (fun x => -x) = id := by
        funext x
        show - -x = x
        omega
      rw [this, List.map_id]
theorem v_alt (w : List Int) : vC (altN false (pL w)) = vC (pL (w.map fun x => -x)) := by
  rcases alt_pL w with h | h
  · rw [h]
  · rw [h, v_neg]
/-! ### noughts -/
theorem mulG_zero : ∀ (c : Int) (p : List Int), mulG 0 c p = c :: p
  | _, [] => rfl
  | c, y :: r => by
    show (c - 0 * y) :: mulG 0 y r = c :: y :: r
    rw [mulG_zero y r]
    simp
theorem pL_zeros (rest : List Int) : ∀ k : Nat, pL (List.replicate k 0 ++ rest) = List.replicate k 0 ++ pL rest
  | 0 => rfl
  | k + 1 => by
    show mulG 0 0 (pL (List.replicate k 0 ++ rest)) = 0 :: (List.replicate k 0 ++ pL rest)
    rw [mulG_zero, pL_zeros rest k]
theorem v_zeros (p : List Int) : ∀ k : Nat, vC (List.replicate k 0 ++ p) = vC p
  | 0 => rfl
  | k + 1 => by
    show (if (0 : Int) = 0 then vC (List.replicate k 0 ++ p) else _) = vC p
    rw [if_pos rfl, v_zeros p k]
theorem pL_head : ∀ w : List Int, (∀ z ∈ w, z ≠ 0) → ∀ y r, pL w = y :: r → y ≠ 0
  | [], _, y, r, h => by
    have h : [(1 : Int)] = y :: r := h
    have := (List.cons.inj h).1
    omega
  | z :: t, hz, y, r, h => by
    have h : mulG z 0 (pL t) = y :: r := h
    cases hp : pL t with
    | nil => exact absurd hp (pL_ne t)
    | cons q s =>
      rw [hp] at h
      have h : (0 - z * q) :: mulG z q s = y :: r := h
      have e := (List.cons.inj h).1
      have q0 := pL_head t (fun x hx => hz x (List.mem_cons_of_mem _ hx)) q s hp
      have := Int.mul_ne_zero (hz z List.mem_cons_self) q0
      omega
def posI (w : List Int) : List Int := w.filter fun z => decide (0 < z)
def negI (w : List Int) : List Int := w.filter fun z => decide (z < 0)
def nulI (w : List Int) : List Int := w.filter fun z => decide (z = 0)
theorem parts_perm : ∀ w : List Int, w.Perm (nulI w ++ (posI w ++ negI w))
  | [] => List.Perm.refl _
  | z :: r => by
    have k := parts_perm r
    unfold nulI posI negI at k ⊢
    by_cases a : z = 0
    · rw [List.filter_cons_of_pos (by simpa using a), List.filter_cons_of_neg (by simp; omega), List.filter_cons_of_neg (by simp; omega)]
      exact List.Perm.cons z k
    · by_cases b : 0 < z
      · rw [List.filter_cons_of_neg (by simpa using a), List.filter_cons_of_pos (by simpa using b), List.filter_cons_of_neg (by simp; omega)]
        refine List.Perm.trans (List.Perm.cons z k) ?_
        exact (List.perm_middle).symm
      · rw [List.filter_cons_of_neg (by simpa using a), List.filter_cons_of_neg (by simpa using b), List.filter_cons_of_pos (by simp; omega)]
        refine List.Perm.trans (List.Perm.cons z k) ?_
        (rw [← List.append_assoc, ← List.append_assoc])
        exact (List.perm_middle).symm
theorem nul_rep (w : List Int) : nulI w = List.replicate (nulI w).length 0 := List.eq_replicate_iff.mpr ⟨rfl, fun x hx => by
  have := (List.mem_filter.mp hx).2
  simpa using this⟩
theorem filter_neg_pos (w : List Int) : (w.map fun x => -x).filter (fun z => decide (0 < z)) = (negI w).map fun x => -x := by
  unfold negI
  rw [List.filter_map]
  congr 1
  apply List.filter_congr
  intro x _
  show decide (0 < -x) = decide (x < 0)
  apply decide_eq_decide.mpr
  omega
/-- the product's changes of signs: as many as zeros above 0; its lowest numbers that are 0: as many as zeros at 0 -/
theorem pL_counts (w : List Int) : vC (pL w) = (posI w).length ∧ ∃ y r, pL w = List.replicate (nulI w).length 0 ++ y :: r ∧ y ≠ 0 := by
  have e := pL_perm (parts_perm w)
  rw [nul_rep w, pL_zeros] at e
  have nz : ∀ z ∈ posI w ++ negI w, z ≠ 0 := fun z hz => by
    rcases List.mem_append.mp hz with h | h
    · have := (List.mem_filter.mp h).2
      simp at this
      omega
    · have := (List.mem_filter.mp h).2
      simp at this
      omega
  have hp : ∀ z ∈ posI w, 0 < z := fun z hz => by simpa using (List.mem_filter.mp hz).2
  have lo := v_pos (negI w) (posI w) hp
  have hn : ∀ z ∈ (negI w).map (fun x => -x), 0 < z := fun z hz => by
    obtain ⟨y, hy, rfl⟩ := List.mem_map.mp hz
    have := (List.mem_filter.mp hy).2
    simp at this
    omega
  have lo2 := v_pos ((posI w).map fun x => -x) ((negI w).map fun x => -x) hn
  have pm : (((negI w).map fun x => -x) ++ ((posI w).map fun x => -x)).Perm ((posI w ++ negI w).map fun x => -x) := by
    rw [List.map_append]
    exact List.perm_append_comm
  rw [pL_perm pm, List.length_map] at lo2
  have up := v_both (pL (posI w ++ negI w)) (pL_lastn _) (pL_head _ nz)
  rw [v_alt, pL_len, List.length_append] at up
  have hd : ∃ y r, pL (posI w ++ negI w) = y :: r := by
    cases h : pL (posI w ++ negI w) with
    | nil => exact absurd h (pL_ne _)
    | cons y r => exact ⟨y, r, rfl⟩
  obtain ⟨y, r, hy⟩ := hd
  refine ⟨?_, y, r, ?_, pL_head _ nz y r hy⟩
  · rw [e, v_zeros]
    omega
  · rw [e, hy]
end V3
/-! Faddeev and LeVerrier of a table that is led along whole numbers. -/
namespace V3
/-- the sum of so many -/
def sg (n : Nat) (f : Nat → Int) : Int := ((List.range n).map f).sum
theorem sg_zero (f : Nat → Int) : sg 0 f = 0 := rfl
theorem sg_succ (n : Nat) (f : Nat → Int) : sg (n + 1) f = sg n f + f n := by
  unfold sg
  rw [List.range_succ, List.map_append, List.sum_append]
  simp
theorem sg_congr {n : Nat} {f g : Nat → Int} (h : ∀ k, k < n → f k = g k) : sg n f = sg n g := by
  induction n with
  | zero => rfl
  | succ m ih => rw [sg_succ, sg_succ, ih (fun k hk => h k (by omega)), h m (by omega)]
theorem sg_mul (n : Nat) (a : Int) (f : Nat → Int) : sg n (fun k => a * f k) = a * sg n f := by
  induction n with
  | zero => simp [sg_zero]
  | succ m ih =>
    rw [sg_succ, sg_succ, ih]
    grind
theorem sg_add (n : Nat) (f g : Nat → Int) : sg n (fun k => f k + g k) = sg n f + sg n g := by
  induction n with
  | zero => simp [sg_zero]
  | succ m ih =>
    rw [sg_succ, sg_succ, sg_succ, ih]
    omega
theorem sg_none (n : Nat) : sg n (fun _ => 0) = 0 := by
  induction n with
  | zero => rfl
  | succ m ih =>
    rw [sg_succ, ih]
    rfl
theorem sg_swap (n m : Nat) (f : Nat → Nat → Int) : sg n (fun i => sg m (fun j => f i j)) = sg m (fun j => sg n (fun i => f i j)) := by
  induction n with
  | zero =>
    show 0 = sg m (fun j => 0)
    rw [sg_none]
  | succ k ih =>
    rw [sg_succ, ih, ← sg_add]
    exact sg_congr fun j _ => (sg_succ k fun i => f i j).symm
theorem sg_one (n i : Nat) (b : Int) (f : Nat → Int) (h : i < n) : sg n (fun j => f j * (if j = i then b else 0)) = f i * b := by
  induction n with
  | zero => omega
  | succ m ih =>
    rw [sg_succ]
    by_cases e : i = m
    · subst e
      rw [if_pos rfl]
      have : sg i (fun j => f j * (if j = i then b else 0)) = sg i (fun _ => 0) := sg_congr fun k hk => by
        rw [if_neg (by omega)]
        omega
      rw [this, sg_none]
      omega
    · rw [ih (by omega), if_neg (by omega)]
      omega
/-- the numbers of the product of (x - zero), the highest power first -/
def hF : List Int → Nat → Int
  | [], 0 => 1
  | [], _ + 1 => 0
  | _ :: _, 0 => 1
  | z :: r, k + 1 => hF r (k + 1) - z * hF r k
theorem hF_zero : ∀ w : List Int, hF w 0 = 1
  | [] => rfl
  | _ :: _ => rfl
theorem hF_big : ∀ (w : List Int) (k : Nat), w.length < k → hF w k = 0
  | [], 0, h => by simp at h
  | [], _ + 1, _ => rfl
  | _ :: _, 0, h => by simp at h
  | z :: r, k + 1, h => by
    have h : r.length + 1 < k + 1 := h
    show hF r (k + 1) - z * hF r k = 0
    rw [hF_big r (k + 1) (by omega), hF_big r k (by omega)]
    omega
theorem hF_erase : ∀ (l : List Int) (j k : Nat), j < l.length → hF l (k + 1) = hF (l.eraseIdx j) (k + 1) - l.getD j 0 * hF (l.eraseIdx j) k
  | [], _, _, h => by simp at h
  | x :: r, 0, k, _ => rfl
  | x :: r, j + 1, 0, h => by
    have i1 : hF r 1 = hF (r.eraseIdx j) 1 - r.getD j 0 * hF (r.eraseIdx j) 0 := hF_erase r j 0 (by simpa using h)
    show hF r 1 - x * hF r 0 = (hF (r.eraseIdx j) 1 - x * hF (r.eraseIdx j) 0) - r.getD j 0 * 1
    rw [i1, hF_zero, hF_zero]
    omega
  | x :: r, j + 1, k + 1, h => by
    have i1 := hF_erase r j (k + 1) (by simpa using h)
    have i2 := hF_erase r j k (by simpa using h)
    show hF r (k + 2) - x * hF r (k + 1) = (hF (r.eraseIdx j) (k + 2) - x * hF (r.eraseIdx j) (k + 1)) - r.getD j 0 * (hF (r.eraseIdx j) (k + 1) - x * hF (r.eraseIdx j) k)
    rw [i1, i2]
    grind
theorem sg_cons (n : Nat) (f : Nat → Int) : sg (n + 1) f = f 0 + sg n fun i => f (i + 1) := by
  induction n with
  | zero =>
    rw [sg_succ]
    show 0 + f 0 = f 0 + 0
    omega
  | succ m ih => rw [sg_succ, ih, sg_succ]; omega
theorem hF_sum : ∀ (l : List Int) (k : Nat), sg l.length (fun j => l.getD j 0 * hF (l.eraseIdx j) k) = -((k : Int) + 1) * hF l (k + 1)
  | [], k => by
    show 0 = -((k : Int) + 1) * 0
    omega
  | x :: r, 0 => by
    have ih := hF_sum r 0
    rw [List.length_cons, sg_cons]
    have e : sg r.length (fun i => (x :: r).getD (i + 1) 0 * hF ((x :: r).eraseIdx (i + 1)) 0) = sg r.length (fun j => r.getD j 0 * hF (r.eraseIdx j) 0) := sg_congr fun j _ => by
      show r.getD j 0 * 1 = r.getD j 0 * hF (r.eraseIdx j) 0
      rw [hF_zero]
    rw [e, ih]
    show x * hF r 0 + _ = -((0 : Nat) + 1 : Int) * (hF r 1 - x * hF r 0)
    rw [hF_zero]
    grind
  | x :: r, k + 1 => by
    have i1 := hF_sum r (k + 1)
    have i2 := hF_sum r k
    rw [List.length_cons, sg_cons]
    have e : sg r.length (fun i => (x :: r).getD (i + 1) 0 * hF ((x :: r).eraseIdx (i + 1)) (k + 1)) = sg r.length (fun j => r.getD j 0 * hF (r.eraseIdx j) (k + 1)) + (-x) * sg r.length (fun j => r.getD j 0 * hF (r.eraseIdx j) k) := by
      rw [← sg_mul, ← sg_add]
      exact sg_congr fun j _ => by
        show r.getD j 0 * (hF (r.eraseIdx j) (k + 1) - x * hF (r.eraseIdx j) k) = _
        grind
    rw [e, i1, i2]
    show x * hF r (k + 1) + _ = -(((k + 1 : Nat) : Int) + 1) * (hF r (k + 2) - x * hF r (k + 1))
    have c : ((k + 1 : Nat) : Int) = (k : Int) + 1 := by omega
    rw [c]
    generalize (k : Int) = m
    grind
/-! ### both ways of writing the product -/
theorem mulG_get (z : Int) : ∀ (p : List Int) (c : Int) (i : Nat), i ≤ p.length → (mulG z c p).getD i 0 = (if i = 0 then c else p.getD (i - 1) 0) - z * p.getD i 0
  | [], c, 0, _ => by
    show c = c - z * 0
    omega
  | [], _, _ + 1, h => by simp at h
  | y :: r, c, 0, _ => rfl
  | y :: r, c, i + 1, h => by
    have k := mulG_get z r y i (by simpa using h)
    show (mulG z y r).getD i 0 = (y :: r).getD i 0 - z * r.getD i 0
    rw [k]
    cases i with
    | zero => rfl
    | succ m => rfl
theorem pL_get : ∀ (w : List Int) (i : Nat), i ≤ w.length → (pL w).getD i 0 = hF w (w.length - i)
  | [], 0, _ => rfl
  | [], _ + 1, h => by simp at h
  | z :: r, i, h => by
    have ln := pL_len r
    have h : i ≤ r.length + 1 := h
    show (mulG z 0 (pL r)).getD i 0 = hF (z :: r) (r.length + 1 - i)
    rw [mulG_get z (pL r) 0 i (by omega)]
    by_cases e : i = r.length + 1
    · subst e
      rw [if_neg (by omega), Nat.sub_self]
      have b : (pL r).getD (r.length + 1) 0 = 0 := by
        (rw [List.getD_eq_getElem?_getD, List.getElem?_eq_none (by omega)])
        rfl
      rw [b]
      have a := pL_get r r.length (Nat.le_refl _)
      rw [Nat.sub_self, hF_zero] at a
      have s : r.length + 1 - 1 = r.length := by omega
      rw [s, a, hF_zero]
      omega
    · have a := pL_get r i (by omega)
      have s : r.length + 1 - i = (r.length - i) + 1 := by omega
      rw [a, s]
      show _ = hF r (r.length - i + 1) - z * hF r (r.length - i)
      by_cases i0 : i = 0
      · subst i0
        rw [if_pos rfl, Nat.sub_zero, hF_big r (r.length + 1) (by omega)]
      · rw [if_neg i0, pL_get r (i - 1) (by omega)]
        have t : r.length - (i - 1) = r.length - i + 1 := by omega
        rw [t]
theorem pL_rev (w : List Int) : ((List.range (w.length + 1)).map (hF w)).reverse = pL w := by
  refine List.ext_getElem (by rw [List.length_reverse, List.length_map, List.length_range, pL_len]) fun i h1 h2 => ?_
  rw [pL_len] at h2
  have a := pL_get w i (by omega)
  rw [List.getD_eq_getElem?_getD, List.getElem?_eq_getElem (by rw [pL_len]; exact h2)] at a
  rw [List.getElem_reverse, List.getElem_map, List.getElem_range]
  have s : ((List.range (w.length + 1)).map (hF w)).length - 1 - i = w.length - i := by
    (rw [List.length_map, List.length_range])
    omega
  rw [s]
  exact a.symm
/-! ### the table -/
/-- after so many steps: the power and the numbers -/
def flS (n : Nat) (W : Nat → Nat → Int) : Nat → (Nat → Nat → Int) × List Int
  | 0 => (fun i j => if i = j then 1 else 0, [1])
  | k + 1 => (fun i j => sg n (fun m => W i m * (flS n W k).1 m j) + (if i = j then (-(sg n fun a => sg n (fun m => W a m * (flS n W k).1 m a))) / ((k : Int) + 1) else 0),
    (flS n W k).2 ++ [(-(sg n fun a => sg n (fun m => W a m * (flS n W k).1 m a))) / ((k : Int) + 1)])
theorem fl_led {n : Nat} {W S : Nat → Nat → Int} {w : List Int} {b : Int} (hn : w.length = n) (b0 : b ≠ 0) (hW : ∀ i j, i < n → j < n → sg n (fun m => W i m * S m j) = w.getD j 0 * S i j)
    (hS : ∀ i j, i < n → j < n → sg n (fun m => S i m * S m j) = if i = j then b else 0) :
    ∀ k : Nat, (∀ i j, i < n → j < n → sg n (fun l => (flS n W k).1 i l * S l j) = hF (w.eraseIdx j) k * S i j) ∧ (flS n W k).2 = (List.range (k + 1)).map (hF w)
  | 0 => by
    refine ⟨fun i j hi hj => ?_, ?_⟩
    · rw [hF_zero]
      have : sg n (fun l => (flS n W 0).1 i l * S l j) = sg n (fun l => S l j * (if l = i then 1 else 0)) := sg_congr fun l _ => by
        show (if i = l then (1 : Int) else 0) * S l j = _
        by_cases e : i = l
        · (rw [if_pos e, if_pos e.symm])
          omega
        · rw [if_neg e, if_neg (fun z => e z.symm)]
          omega
      rw [this, sg_one n i 1 _ hi]
      omega
    · show [(1 : Int)] = [hF w 0]
      rw [hF_zero]
  | k + 1 => by
    obtain ⟨h1, h2⟩ := fl_led hn b0 hW hS k
    -- the product's lines
    have lineP : ∀ i j, i < n → j < n → sg n (fun l => sg n (fun m => W i m * (flS n W k).1 m l) * S l j) = w.getD j 0 * hF (w.eraseIdx j) k * S i j := fun i j hi hj => by
      have e1 : sg n (fun l => sg n (fun m => W i m * (flS n W k).1 m l) * S l j) = sg n (fun l => sg n (fun m => W i m * ((flS n W k).1 m l * S l j))) := sg_congr fun l _ => by
        rw [Int.mul_comm, ← sg_mul]
        exact sg_congr fun m _ => by grind
      rw [e1, sg_swap]
      have e2 : sg n (fun m => sg n (fun l => W i m * ((flS n W k).1 m l * S l j))) = sg n (fun m => hF (w.eraseIdx j) k * (W i m * S m j)) := sg_congr fun m hm => by
        rw [sg_mul, h1 m j hm hj]
        grind
      rw [e2, sg_mul, hW i j hi hj]
      grind
    have tr : sg n (fun a => sg n (fun m => W a m * (flS n W k).1 m a)) = sg n (fun j => w.getD j 0 * hF (w.eraseIdx j) k) := by
      have e1 : b * sg n (fun a => sg n (fun m => W a m * (flS n W k).1 m a)) = b * sg n (fun j => w.getD j 0 * hF (w.eraseIdx j) k) := by
        rw [← sg_mul, ← sg_mul]
        have e2 : sg n (fun a => b * sg n (fun m => W a m * (flS n W k).1 m a)) = sg n (fun a => sg n (fun j => w.getD j 0 * hF (w.eraseIdx j) k * (S j a * S a j))) := sg_congr fun a ha => by
          have f1 : b * sg n (fun m => W a m * (flS n W k).1 m a) = sg n (fun l => sg n (fun m => W a m * (flS n W k).1 m l) * (if l = a then b else 0)) := by
            rw [sg_one n a b (fun l => sg n (fun m => W a m * (flS n W k).1 m l)) ha]
            grind
          have f2 : sg n (fun l => sg n (fun m => W a m * (flS n W k).1 m l) * (if l = a then b else 0)) = sg n (fun l => sg n (fun j => sg n (fun m => W a m * (flS n W k).1 m l) * (S l j * S j a))) := sg_congr fun l hl => by
            rw [← hS l a hl ha, ← sg_mul]
          rw [f1, f2, sg_swap]
          exact sg_congr fun j hj => by
            have f3 : sg n (fun l => sg n (fun m => W a m * (flS n W k).1 m l) * (S l j * S j a)) = S j a * sg n (fun l => sg n (fun m => W a m * (flS n W k).1 m l) * S l j) := by
              rw [← sg_mul]
              exact sg_congr fun l _ => by grind
            rw [f3, lineP a j ha hj]
            grind
        rw [e2, sg_swap]
        exact sg_congr fun j hj => by
          rw [sg_mul, hS j j hj hj, if_pos rfl]
          grind
      exact Int.eq_of_mul_eq_mul_left b0 e1
    have num : (-(sg n fun a => sg n (fun m => W a m * (flS n W k).1 m a))) / ((k : Int) + 1) = hF w (k + 1) := by
      have s := hF_sum w k
      rw [hn] at s
      rw [tr, s]
      have e : -(-((k : Int) + 1) * hF w (k + 1)) = ((k : Int) + 1) * hF w (k + 1) := by grind
      rw [e, Int.mul_ediv_cancel_left _ (by omega)]
    refine ⟨fun i j hi hj => ?_, ?_⟩
    · have e1 : sg n (fun l => (flS n W (k + 1)).1 i l * S l j) = sg n (fun l => sg n (fun m => W i m * (flS n W k).1 m l) * S l j) + sg n (fun l => S l j * (if l = i then hF w (k + 1) else 0)) := by
        rw [← sg_add]
        exact sg_congr fun l _ => by
          show (sg n (fun m => W i m * (flS n W k).1 m l) + (if i = l then (-(sg n fun a => sg n (fun m => W a m * (flS n W k).1 m a))) / ((k : Int) + 1) else 0)) * S l j = _
          rw [num]
          by_cases e : i = l
          · (rw [if_pos e, if_pos e.symm])
            grind
          · rw [if_neg e, if_neg (fun z => e z.symm)]
            grind
      rw [e1, lineP i j hi hj, sg_one n i _ _ hi, hF_erase w j k (by omega)]
      grind
    · show (flS n W k).2 ++ [_] = _
      rw [num, h2]
      have : List.range (k + 1 + 1) = List.range (k + 1) ++ [k + 1] := List.range_succ
      rw [this, List.map_append]
      rfl
/-- the numbers, turned over: the product of (x - zero) -/
theorem fl_planted {n : Nat} {W S : Nat → Nat → Int} {w : List Int} {b : Int} (hn : w.length = n) (b0 : b ≠ 0) (hW : ∀ i j, i < n → j < n → sg n (fun m => W i m * S m j) = w.getD j 0 * S i j)
    (hS : ∀ i j, i < n → j < n → sg n (fun m => S i m * S m j) = if i = j then b else 0) : (flS n W n).2.reverse = pL w := by
  rw [(fl_led hn b0 hW hS n).2, ← hn, pL_rev]
end V3
set_option maxHeartbeats 8000000
namespace V3
open PySem.Spec PySem L2 PyProof.Rows RZ GxR
def topS (i : Nat) : Stmt := PySem.Challenge.pw_rootsabove_k18_whole_surely_within.main.body.getD i (.Pass ⟨0, 0, 0, 0⟩)
structure Gs (K : PySem.W.Frag) (mg : Str → Option Value) : Prop where
  gcd : mg "gcd" = some (.builtin "math.gcd")
  lcm : mg "lcm" = some (.builtin "math.lcm")
  NOUGHT : ∃ p, mg "NOUGHT" = some (.ref p) ∧ ∀ H, SqT K H p [.int 0, .int 1]
  MOST : ∃ t, mg "MOST_ROWS" = some (.int 5 t)
  type_ : mg "type" = none
  int_ : mg "int" = none
  tuple_ : mg "tuple" = none
  list_ : mg "list" = none
  len : mg "len" = none
  range : mg "range" = none
  enumerate : mg "enumerate" = none
  zip : mg "zip" = none
  sum : mg "sum" = none
  abs : mg "abs" = none
  any : mg "any" = none
  all : mg "all" = none
  repr : mg "repr" = none
  min : mg "min" = none
/-! ### what is asked of a value -/
def D.isInt : D → Bool
  | .int _ => true
  | _ => false
def D.lenIs (n : Int) : D → Bool
  | .tup ds => decide ((ds.length : Int) = n)
  | _ => false
def fracB : D → Bool
  | .tup [.int n, .int m] => decide (0 < m) && decide (Int.gcd n m = 1)
  | _ => false
def D.parts : D → List D
  | .tup ds => ds
  | _ => []
def rowB (n : Int) (d : D) : Bool := d.lenIs n && d.parts.all fracB
def D.pair : D → Int × Int
  | .tup [.int n, .int m] => (n, m)
  | _ => (0, 1)
def cellD (rows : List D) (i j : Nat) : Int × Int := ((rows.getD i .oth).parts.getD j .oth).pair
def symB (rows : List D) : Bool := (List.range rows.length).all fun i => (List.range i).all fun j => decide (cellD rows i j = cellD rows j i)
def tabB : D → Bool
  | .tup rows => decide (1 ≤ rows.length) && decide (rows.length ≤ 5) && rows.all (rowB rows.length) && symB rows
  | _ => false
theorem frac_form {d : D} (h : fracB d = true) : ∃ n m, d = .tup [.int n, .int m] ∧ 0 < m ∧ Int.gcd n m = 1 := by
  match d, h with
  | .tup [.int n, .int m], h =>
    obtain ⟨h1, h2⟩ := Bool.and_eq_true_iff.mp h
    exact ⟨n, m, rfl, of_decide_eq_true h1, of_decide_eq_true h2⟩
theorem row_form {n : Int} {d : D} (h : rowB n d = true) : ∃ ds, d = .tup ds ∧ (ds.length : Int) = n ∧ ∀ c ∈ ds, fracB c = true := by
  match d, h with
  | .tup ds, h =>
    obtain ⟨h1, h2⟩ := Bool.and_eq_true_iff.mp h
    exact ⟨ds, rfl, of_decide_eq_true h1, List.all_eq_true.mp h2⟩
section
variable {mg : Str → Option Value} {base : Heap} {K : PySem.W.Frag} {P : Program} {w : World}
abbrev s_is_whole : Stmt := topS 21
abbrev N_is_whole : List Str := ["value"]
theorem sc_is_whole : FnScope N_is_whole ["value"] (defScope s_is_whole) := ⟨rfl, rfl, rfl, by decide +kernel, rfl, by decide +kernel, by decide +kernel⟩
def spWholeA (K : PySem.W.Frag) : Sp := fun vs H Q _ => ∃ a v d, vs = [v] ∧ An K a H v d ∧ Q (.bl d.isInt) H
theorem ok_is_whole (T : Gs K mg) (F : At K mg "is_whole" s_is_whole) : Df P w K mg base "is_whole" 1 ["value"] (spWholeA K) := by
  have sc := sc_is_whole
  refine Df.mk' F sc (fun vs H Q E h => ?_) (fun _ _ _ _ _ _ us hl => match us, hl with | [_], _ => rfl) (fun f cdv A outer s H vs Q E hr h => ?_)
  · obtain ⟨a, v, d, rfl, _⟩ := h
    rfl
  · obtain ⟨a, v, d, rfl, an, q⟩ := h
    refine ⟨_, (pss_one (ps_ret (pe_cmpR op_isTyB (pe_callTy call_typeA (by rfl) T.type_ (by decide +kernel) (pa_cons (pv 0) pa_nil)) (pe_bltn (v := .ty "int") (by rfl) T.int_ (by decide +kernel) rfl) (nomark _)))), ?_⟩
    refine ⟨_, rfl, a, _, d, rfl, an, fun Ty hT => ?_⟩
    refine ⟨_, _, rfl, rfl, ?_⟩
    have e : decide (Ty = "int") = d.isInt := by
      cases d with
      | int i =>
        have e : Ty = "int" := hT
        rw [e]
        rfl
      | oth => exact decide_eq_false hT.1
      | tup ds =>
        have e : Ty = "tuple" := hT
        rw [e]
        rfl
    rw [e]
    exact q
abbrev s_is_tuple_of : Stmt := topS 22
abbrev N_is_tuple_of : List Str := ["value", "size"]
theorem sc_is_tuple_of : FnScope N_is_tuple_of ["value", "size"] (defScope s_is_tuple_of) := ⟨rfl, rfl, rfl, by decide +kernel, rfl, by decide +kernel, by decide +kernel⟩
def spTupOfA (K : PySem.W.Frag) : Sp := fun vs H Q _ => ∃ (a : Addr) (v : V) (d : D) (n : Int), vs = [v, .int n] ∧ An K a H v d ∧ Q (.bl (d.lenIs n)) H
theorem ok_is_tuple_of (T : Gs K mg) (F : At K mg "is_tuple_of" s_is_tuple_of) : Df P w K mg base "is_tuple_of" 1 ["value", "size"] (spTupOfA K) := by
  have sc := sc_is_tuple_of
  refine Df.mk' F sc (fun vs H Q E h => ?_) (fun _ _ _ _ _ _ us hl => match us, hl with | [_, _], _ => rfl) (fun f cdv A outer s H vs Q E hr h => ?_)
  · obtain ⟨a, v, d, n, rfl, _⟩ := h
    rfl
  · obtain ⟨a, v, d, n, rfl, an, q⟩ := h
    refine ⟨_, (pss_one (ps_ret (pe_and (pe_cmpR op_isTyB (pe_callTy call_typeA (by rfl) T.type_ (by decide +kernel) (pa_cons (pv 0) pa_nil)) (pe_bltn (v := .ty "tuple") (by rfl) T.tuple_ (by decide +kernel) rfl) (nomark _)) (pe_one (pe_cmpR op_eq (pe_callB call_len_seq (by rfl) T.len PySem.boot_len (pa_cons (pv 0) pa_nil)) (pv 1) (nomark _)))))), ?_⟩
    refine ⟨_, rfl, a, _, d, rfl, an, fun Ty hT => ?_⟩
    cases d with
    | int i =>
      have e : Ty = "int" := hT
      subst e
      exact ⟨_, _, rfl, rfl, _, rfl, ifF (by decide) q⟩
    | oth => exact ⟨_, _, rfl, rfl, _, rfl, ifF (decide_eq_false hT.2) q⟩
    | tup ds =>
      have e : Ty = "tuple" := hT
      subst e
      obtain ⟨p, xs, rfl, hp, ne, hA⟩ := anTup an
      refine ⟨_, _, rfl, rfl, _, rfl, ifT (by decide) ?_⟩
      refine ⟨_, rfl, _, _, rfl, .inr hp, _, rfl, rfl, ?_⟩
      have ee : decide (V.int (xs.length : Int) = V.int n) = D.lenIs n (.tup ds) := by
        rw [anLen hA]
        show _ = decide _
        simp
      rw [ee]
      exact q
abbrev s_is_fraction : Stmt := topS 23
abbrev N_is_fraction : List Str := ["value", "number", "under"]
theorem sc_is_fraction : FnScope N_is_fraction ["value"] (defScope s_is_fraction) := ⟨rfl, rfl, rfl, by decide +kernel, rfl, by decide +kernel, by decide +kernel⟩
def spFracA (K : PySem.W.Frag) : Sp := fun vs H Q _ => ∃ a v d, vs = [v] ∧ An K a H v d ∧ Q (.bl (fracB d)) H
theorem ok_is_fraction (T : Gs K mg) (D_is_whole : Df P w K mg base "is_whole" 1 ["value"] (spWholeA K)) (D_is_tuple_of : Df P w K mg base "is_tuple_of" 1 ["value", "size"] (spTupOfA K)) (F : At K mg "is_fraction" s_is_fraction) :
    Df P w K mg base "is_fraction" 2 ["value"] (spFracA K) := by
  have sc := sc_is_fraction
  refine Df.mk' F sc (fun vs H Q E h => ?_) (fun _ _ _ _ _ _ us hl => match us, hl with | [_], _ => rfl) (fun f cdv A outer s H vs Q E hr h => ?_)
  · obtain ⟨a, v, d, rfl, _⟩ := h
    rfl
  · obtain ⟨a, v, d, rfl, an, q⟩ := h
    refine ⟨_, (pss_cons (ps_if (pt_not (pt_val (pe_fn D_is_tuple_of (by decide) hr (pa_cons (pv 0) (pa_cons pe_int pa_nil))))) (pss_one (ps_ret pe_bl)) pss_nil) (pss_cons (ps_asg (pv 0) (pg_tup rfl (pgs_cons (pg_name (i := 1) sc.nd rfl (.inl rfl)) (pgs_cons (pg_name (i := 2) sc.nd rfl (.inl rfl)) pgs_nil)))) (pss_one (ps_ret (pe_and (pe_fn D_is_whole (by decide) hr (pa_cons (pv 1) pa_nil)) (pe_and (pe_fn D_is_whole (by decide) hr (pa_cons (pv 2) pa_nil)) (pe_and (pe_cmpR op_gt (pv 2) pe_int (nomark _)) (pe_one (pe_cmpR op_eq (pe_callBfun cr_gcd (by rfl) T.gcd (pa_cons (pv 1) (pa_cons (pv 2) pa_nil))) pe_int (nomark _)))))))))), ?_⟩
    refine ⟨_, rfl, a, _, d, _, rfl, an, _, rfl, if2 (fun c => ?_) (fun c => ?_)⟩
    · have e : fracB d = false := by
        match d, c with
        | .int _, _ => rfl
        | .oth, _ => rfl
        | .tup [], _ => rfl
        | .tup [x], _ => cases x <;> rfl
        | .tup (x :: y :: _ :: _), _ => cases x <;> cases y <;> rfl
        | .tup [_, _], c => simp [D.lenIs] at c
      rw [e] at q
      exact q
    · have c2 : ∃ x y, d = .tup [x, y] := by
        match d, c with
        | .int _, c => simp [D.lenIs] at c
        | .oth, c => simp [D.lenIs] at c
        | .tup [], c => simp [D.lenIs] at c
        | .tup [_], c => simp [D.lenIs] at c
        | .tup (_ :: _ :: _ :: _), c =>
          simp [D.lenIs] at c
          omega
        | .tup [x, y], _ => exact ⟨x, y, rfl⟩
      obtain ⟨x, y, rfl⟩ := c2
      obtain ⟨p, xs, rfl, hp, ne, hA⟩ := anTup an
      cases hA with
      | @cons v1 vs1 _ _ a1 hB =>
        cases hB with
        | @cons v2 vs2 _ _ a2 hC =>
          cases hC
          refine ⟨_, rfl, _, _, rfl, hp, rfl, _, _, rfl, _, _, rfl, rfl, ?_⟩
          refine ⟨_, rfl, a, _, x, rfl, a1, _, rfl, if2 (fun c1 => ?_) (fun c1 => ?_)⟩
          · refine ⟨_, rfl, a, _, y, rfl, a2, _, rfl, if2 (fun c2 => ?_) (fun c2 => ?_)⟩
            · obtain ⟨n, rfl⟩ : ∃ n, x = .int n := by
                cases x <;> first | exact ⟨_, rfl⟩ | cases c1
              obtain ⟨m, rfl⟩ : ∃ m, y = .int m := by
                cases y <;> first | exact ⟨_, rfl⟩ | cases c2
              have e1 := anInt a1
              have e2 := anInt a2
              subst e1 e2
              have qq : fracB (.tup [.int n, .int m]) = (decide (0 < m) && decide (Int.gcd n m = 1)) := rfl
              rw [qq] at q
              refine ⟨_, rfl, _, _, rfl, rfl, _, rfl, if2 (fun c3 => ?_) (fun c3 => ?_)⟩
              · have c4 : 0 < m := of_decide_eq_true c3
                rw [decide_eq_true c4, Bool.true_and] at q
                (refine ⟨_, rfl, _, rfl, _, _, rfl, rfl, ?_⟩)
                have e3 : decide (V.int ((Nat.gcd n.natAbs m.natAbs : Nat) : Int) = V.int 1) = decide (Int.gcd n m = 1) := by
                  rw [decide_eq_decide]
                  unfold Int.gcd
                  constructor
                  · intro z
                    have := V.int.inj z
                    omega
                  · intro z
                    rw [z]
                    rfl
                rw [e3]
                exact q
              · have c4 : ¬ 0 < m := of_decide_eq_false c3
                rw [decide_eq_false c4, Bool.false_and] at q
                exact q
            · have e : fracB (.tup [x, y]) = false := by
                cases x <;> cases y <;> first | rfl | cases c2
              rw [e] at q
              exact q
          · have e : fracB (.tup [x, y]) = false := by
              cases x <;> cases y <;> first | rfl | cases c1
            rw [e] at q
            exact q
abbrev s_first_unlike_fraction : Stmt := topS 25
abbrev N_first_unlike_fraction : List Str := ["values", "index", "value"]
theorem sc_first_unlike_fraction : FnScope N_first_unlike_fraction ["values"] (defScope s_first_unlike_fraction) := ⟨rfl, rfl, rfl, by decide +kernel, rfl, by decide +kernel, by decide +kernel⟩
def spFirstA (K : PySem.W.Frag) : Sp := fun vs H Q _ => ∃ a v ds, vs = [v] ∧ An K a H v (.tup ds) ∧ ∀ H', Same H H' → (ds.all fracB = true → Q .non H') ∧ (ds.all fracB = false → ∀ i : Int, Q (.int i) H')
theorem ok_first (T : Gs K mg) (D_is_fraction : Df P w K mg base "is_fraction" 2 ["value"] (spFracA K)) (F : At K mg "first_unlike_fraction" s_first_unlike_fraction) :
    Df P w K mg base "first_unlike_fraction" 3 ["values"] (spFirstA K) := by
  have sc := sc_first_unlike_fraction
  refine Df.mk' F sc (fun vs H Q E h => ?_) (fun _ _ _ _ _ _ us hl => match us, hl with | [_], _ => rfl) (fun f cdv A outer s H vs Q E hr h => ?_)
  · obtain ⟨a, q, ds, rfl, _⟩ := h
    rfl
  · obtain ⟨a, v, ds, rfl, an, q⟩ := h
    obtain ⟨p, xs, rfl, hp, ne, hA⟩ := anTup an
    refine ⟨_, (pss_cons (ps_for PassesOwn.never rfl (pi_enumT (by rfl) T.enumerate (pa_cons (pv 0) pa_nil)) (pg_tup rfl (pgs_cons (pg_name (i := 1) sc.nd rfl (.inl rfl)) (pgs_cons (pg_name (i := 2) sc.nd rfl (.inl rfl)) pgs_nil))) (pss_one (ps_if (pt_not (pt_val (pe_fn D_is_fraction (by decide) hr (pa_cons (pv 2) pa_nil)))) (pss_one (ps_ret (pv 1))) pss_nil))) (pss_one (ps_ret pe_non))), ?_⟩
    refine ⟨_, rfl, p, xs, rfl, hp, for_enumT (K := K) (a := p) (xs := xs) (fun i σ H' => (∃ y z, σ = [some (.ref p), y, z]) ∧ Same H H' ∧ (ds.take i).all fracB = true) ⟨⟨none, none, rfl⟩, Same.refl _, rfl⟩ (fun i σ H' _ h => sameT h.2.1 hp) ?_ ?_⟩
    · rintro i x T' σ H' hi ⟨⟨y, z, rfl⟩, sm, al⟩ hT
      obtain ⟨d, hd, hdp⟩ := anGetV hA hi
      have sm2 : Same H (upd H' T' (.tup [.int (i : Nat), x])) := sm.trans (same_upd hT)
      refine ⟨T', _, rfl, SqT.of upd_same, rfl, _, _, rfl, _, _, rfl, rfl, ?_⟩
      refine ⟨_, rfl, a, _, d, rfl, An.keep (Same.keepA sm2) hdp, _, rfl, if2 (fun c => ?_) (fun c => ?_)⟩
      · have e : ds.all fracB = false := by
          rw [List.all_eq_false]
          exact ⟨d, List.mem_of_getElem? hd, by simpa using c⟩
        exact ⟨_, rfl, (q _ sm2).2 e _⟩
      · refine ⟨⟨_, _, rfl⟩, sm2, ?_⟩
        rw [take_more hd, List.all_append, al]
        have : fracB d = true := by simpa using c
        simp [this]
    · rintro σ H' ⟨_, sm, al⟩
      rw [anLen hA, List.take_length] at al
      exact (q H' sm).1 al
abbrev s_is_row : Stmt := topS 24
abbrev N_is_row : List Str := ["value", "size"]
theorem sc_is_row : FnScope N_is_row ["value", "size"] (defScope s_is_row) := ⟨rfl, rfl, rfl, by decide +kernel, rfl, by decide +kernel, by decide +kernel⟩
def spRowA (K : PySem.W.Frag) : Sp := fun vs H Q _ => ∃ a v d n, vs = [v, .int n] ∧ An K a H v d ∧ ∀ H', Same H H' → Q (.bl (rowB n d)) H'
theorem ok_is_row (D_is_tuple_of : Df P w K mg base "is_tuple_of" 1 ["value", "size"] (spTupOfA K)) (D_first_unlike_fraction : Df P w K mg base "first_unlike_fraction" 3 ["values"] (spFirstA K)) (F : At K mg "is_row" s_is_row) : Df P w K mg base "is_row" 4 ["value", "size"] (spRowA K) := by
  have sc := sc_is_row
  refine Df.mk' F sc (fun vs H Q E h => ?_) (fun _ _ _ _ _ _ us hl => match us, hl with | [_, _], _ => rfl) (fun f cdv A outer s H vs Q E hr h => ?_)
  · obtain ⟨a, v, d, n, rfl, _⟩ := h
    rfl
  · obtain ⟨a, v, d, n, rfl, an, q⟩ := h
    refine ⟨_, (pss_one (ps_ret (pe_and (pe_fn D_is_tuple_of (by decide) hr (pa_cons (pv 0) (pa_cons (pv 1) pa_nil))) (pe_one (pe_cmpR op_isN (pe_fn D_first_unlike_fraction (by decide) hr (pa_cons (pv 0) pa_nil)) pe_non (nomark _)))))), ?_⟩
    refine ⟨_, rfl, _, rfl, a, _, d, _, rfl, an, _, rfl, if2 (fun c => ?_) (fun c => ?_)⟩
    · obtain ⟨ds, rfl⟩ : ∃ ds, d = .tup ds := by
        cases d <;> first | exact ⟨_, rfl⟩ | cases c
      have e : rowB n (.tup ds) = ds.all fracB := by
        unfold rowB
        rw [c]
        rfl
      rw [e] at q
      refine ⟨_, rfl, a, _, ds, rfl, an, fun H' sm => ⟨fun al => ?_, fun al i => ?_⟩⟩
      · rw [al] at q
        exact ⟨rfl, q H' sm⟩
      · rw [al] at q
        exact ⟨rfl, q H' sm⟩
    · have e : rowB n d = false := by
        unfold rowB
        rw [c]
        rfl
      rw [e] at q
      exact q H (Same.refl _)
end
end V3
namespace V3
open PySem.Spec PySem L2 PyProof.Rows RZ GxR
theorem tabbed_but {P : Addr} {H H' : Hp} (h : Tabbed P H H') : But P H H' := tab_but h
section
variable {mg : Str → Option Value} {base : Heap} {K : PySem.W.Frag} {P : Program} {w : World}
abbrev s_is_table : Stmt := topS 32
abbrev N_is_table : List Str := ["value", "size", "i", "j", "row"]
theorem sc_is_table : FnScope N_is_table ["value"] (defScope s_is_table) := ⟨rfl, rfl, rfl, by decide +kernel, rfl, by decide +kernel, by decide +kernel⟩
/-- of any value: whether it is a table; the def's own table of code objects may have grown -/
def spTabA (K : PySem.W.Frag) (Pt : Addr) : Sp := fun vs H Q _ => ∃ a v d, vs = [v] ∧ An K a H v d ∧ TabG H Pt ∧ ∀ H', But Pt H H' → TabG H' Pt → Q (.bl (tabB d)) H'
theorem all_range {α : Type} (f : α → Bool) (d0 : α) : ∀ (xs : List α), ((List.range xs.length).all fun i => f (xs.getD i d0)) = xs.all f := fun xs => by
  (rw [Bool.eq_iff_iff, List.all_eq_true, List.all_eq_true])
  constructor
  · intro h x hx
    obtain ⟨i, hi⟩ := List.getElem?_of_mem hx
    have := h i (List.mem_range.mpr (List.getElem?_eq_some_iff.mp hi).1)
    rw [List.getD_eq_getElem?_getD, hi] at this
    exact this
  · intro h i hi
    have hl := List.mem_range.mp hi
    rw [List.getD_eq_getElem?_getD, List.getElem?_eq_getElem hl]
    exact h _ (List.getElem_mem hl)
theorem frD_eqv (x y : Int × Int) : PyData.eqv (frD x) (frD y) = decide (x = y) := by
  obtain ⟨a, b⟩ := x
  obtain ⟨c, d⟩ := y
  unfold frD
  simp [PyData.eqv, PyData.eqvAll]
  rfl
/-- a fraction as data -/
theorem an_frD {a : Addr} {H : Hp} {v : V} {d : D} (h : An K a H v d) (f : fracB d = true) : DpT K H v (frD d.pair) := by
  obtain ⟨n, m, rfl, _⟩ := frac_form f
  obtain ⟨p, xs, rfl, hp, ne, hA⟩ := anTup h
  cases hA with
  | cons x y =>
    cases y with
    | cons z u =>
      cases u
      have e1 := anInt x
      have e2 := anInt z
      subst e1 e2
      exact .tup hp (.cons (.int n) (.cons (.int m) .nil))
theorem ok_is_table (T : Gs K mg) {c Pt : Addr} (TB : TabB base mg c Pt) (D_is_row : Df P w K mg base "is_row" 4 ["value", "size"] (spRowA K)) (F : AtC K mg "is_table" s_is_table c) : Df P w K mg base "is_table" 6 ["value"] (spTabA K Pt) := by
  have sc := sc_is_table
  obtain ⟨tm, gm⟩ := T.MOST
  refine Df.mkC F sc (fun vs H Q E h => ?_) (fun _ _ _ _ _ _ us hl => match us, hl with | [_], _ => rfl) (fun f A outer s H vs Q E hr h => ?_)
  · obtain ⟨a, v, d, rfl, _⟩ := h
    rfl
  · obtain ⟨a, v, d, rfl, an, tab, q⟩ := h
    refine ⟨_, (pss_cons (ps_if (PW.pt (pw_or (pt_cmpR op_notTyB (pe_callTy call_typeA (by rfl) T.type_ (by decide +kernel) (pa_cons (pv 0) pa_nil)) (pe_bltn (v := .ty "tuple") (by rfl) T.tuple_ (by decide +kernel) rfl) (nomark _)) (pw_or1 (pt_not (pt_chain op_le op_le pe_int (pe_callB call_len_seq (by rfl) T.len PySem.boot_len (pa_cons (pv 0) pa_nil)) (pe_glob (v := .int 5) (by rfl) gm ⟨_, rfl⟩))))))
   (pss_one (ps_ret pe_bl))
   pss_nil)
  (pss_cons (ps_set (i := 1) sc.nd rfl (Or.inr rfl) (pe_callB call_len_seq (by rfl) T.len PySem.boot_len (pa_cons (pv 0) pa_nil)))
  (pss_cons (ps_if (pt_not (pt_val (pe_allC (P := Pt) hr (by rfl) T.all TB rfl ⟨rfl, rfl, by decide +kernel, rfl, rfl, by
        intro y hy e
        simp only [List.mem_cons, List.not_mem_nil, or_false] at hy
        rcases hy with rfl | rfl | rfl | rfl <;> first | exact ⟨_, rfl⟩ | cases e⟩ (pv 0) D_is_row (ic := 1) ⟨rfl, rfl, rfl, fun _ => rfl, by decide, by decide⟩ rfl (by decide) (by decide) (fun _ => rfl))))
   (pss_one (ps_ret pe_bl))
   pss_nil)
  (pss_one (ps_ret (pe_all2 (P := Pt) hr (by rfl) T.all (by rfl) T.range TB rfl ⟨rfl, rfl, by decide +kernel, rfl, rfl, by
        intro y hy e
        simp only [List.mem_cons, List.not_mem_nil, or_false] at hy
        rcases hy with rfl | rfl | rfl | rfl | rfl <;> first | exact ⟨_, rfl⟩ | cases e⟩ rfl (by decide) (pa_cons (pv 1) pa_nil) (ic := 0) ⟨rfl, rfl, rfl, fun _ => rfl, by decide, by decide⟩ rfl (by decide) (by decide))))))), ?_⟩
    refine ⟨_, rfl, a, _, d, rfl, an, fun Ty hT => ?_⟩
    have no : (∀ ds, d ≠ .tup ds) → Ty ≠ "tuple" ∧ tabB d = false := fun z => by
      cases d with
      | int i =>
        have e : Ty = "int" := hT
        subst e
        exact ⟨by decide, rfl⟩
      | oth => exact ⟨hT.2, rfl⟩
      | tup ds => exact absurd rfl (z ds)
    refine ⟨_, _, rfl, rfl, _, rfl, if2 (fun c1 => ?_) (fun c1 => ?_)⟩
    · have c2 : Ty ≠ "tuple" := by simpa using c1
      have e : tabB d = false := (no fun ds z => by
        subst z
        exact c2 hT).2
      rw [e] at q
      exact q H (fun _ _ _ x => x) tab
    · have c2 : Ty = "tuple" := by simpa using c1
      obtain ⟨rows, rfl⟩ : ∃ ds, d = .tup ds := by
        apply Classical.byContradiction
        intro z
        exact (no fun ds y => z ⟨ds, y⟩).1 c2
      obtain ⟨p, xs, rfl, hp, ne, hA⟩ := anTup an
      have len := anLen hA
      have stop : tabB (.tup rows) = false → Q (.bl false) H := fun e => by
        rw [e] at q
        exact q H (fun _ _ _ x => x) tab
      refine ⟨_, rfl, p, xs, rfl, .inr hp, _, _, rfl, rfl, _, rfl, if2 (fun c3 => ?_) (fun c3 => ?_)⟩
      · have c4 : 1 ≤ xs.length := by
          have := of_decide_eq_true c3
          omega
        refine ⟨_, _, rfl, rfl, _, rfl, if2 (fun c5 => ?_) (fun c5 => ?_)⟩
        · refine stop ?_
          have : ¬ rows.length ≤ 5 := by
            have h : ¬ ((xs.length : Int) ≤ 5) := by simpa using c5
            omega
          simp [tabB, this]
        · have c6 : rows.length ≤ 5 := by
            have h : ((xs.length : Int) ≤ 5) := by simpa using c5
            omega
          refine ⟨_, rfl, p, xs, rfl, .inr hp, ?_⟩
          refine ⟨_, rfl, p, xs, .int (xs.length : Int), fun i => rowB rows.length (rows.getD i .oth), rfl, hp, tab, rfl, fun h ok i x hi => ?_, fun H2 tb => ?_⟩
          · obtain ⟨d, hd, dx⟩ := anGetV hA hi
            refine ⟨a, x, d, _, rfl, An.fast ok dx, fun H' sm => ?_⟩
            have e : rows.getD i .oth = d := by
              rw [List.getD_eq_getElem?_getD, hd]
              rfl
            show V.bl (rowB (xs.length : Int) d) = V.bl (rowB (rows.length : Int) (rows.getD i .oth))
            rw [e, len]
          have eall : ((List.range xs.length).all fun i => rowB rows.length (rows.getD i .oth)) = rows.all (rowB rows.length) := by
            rw [len]
            exact all_range _ _ rows
          rw [eall]
          refine ⟨_, rfl, if2 (fun c7 => ?_) (fun c7 => ?_)⟩
          · have c8 : rows.all (rowB rows.length) = false := by simpa using c7
            have e : tabB (.tup rows) = false := by simp [tabB, c8]
            rw [e] at q
            exact q H2 (tab_but tb) tb.1
          · have c8 : rows.all (rowB rows.length) = true := by simpa using c7
            have rf : ∀ i, i < xs.length → ∃ ds, rows[i]? = some (.tup ds) ∧ ds.length = rows.length ∧ ∀ c ∈ ds, fracB c = true := fun i hi => by
              have hl : i < rows.length := by omega
              obtain ⟨ds, e1, e2, e3⟩ := row_form (List.all_eq_true.mp c8 rows[i] (List.getElem_mem hl))
              exact ⟨ds, by rw [List.getElem?_eq_getElem hl, e1], by omega, e3⟩
            have cell : ∀ i j, i < xs.length → j < xs.length → ∃ ds c, rows[i]? = some (.tup ds) ∧ ds[j]? = some c ∧ fracB c = true ∧ cellD rows i j = c.pair := fun i j hi hj => by
              obtain ⟨ds, e1, e2, e3⟩ := rf i hi
              have hl : j < ds.length := by omega
              refine ⟨ds, ds[j], e1, List.getElem?_eq_getElem hl, e3 _ (List.getElem_mem hl), ?_⟩
              unfold cellD
              have g1 : rows.getD i .oth = .tup ds := by
                rw [List.getD_eq_getElem?_getD, e1]
                rfl
              have g2 : ds.getD j .oth = ds[j] := by
                rw [List.getD_eq_getElem?_getD, List.getElem?_eq_getElem hl]
                rfl
              rw [g1]
              show (ds.getD j .oth).pair = _
              rw [g2]
            refine ⟨_, rfl, xs.length, p, fun i j => frD (cellD rows i j), rfl, by omega, tb.1, rfl, ⟨xs, KeepA.sqT (a := a) (Tabbed.keepA tab (tab_but tb)) ne hp, fun i hi => ?_⟩, fun H3 tb3 => ?_⟩
            · have hxi : xs[i]? = some xs[i] := List.getElem?_eq_getElem hi
              obtain ⟨d, hd, dx⟩ := anGetV hA hxi
              obtain ⟨ds, e1, e2, e3⟩ := rf i hi
              rw [hd] at e1
              cases e1
              obtain ⟨b, cs, eb, hcs, neb, call⟩ := anTup dx
              have lc : cs.length = ds.length := anLen call
              refine ⟨b, cs, by rw [hxi, eb], KeepA.sqT (a := a) (Tabbed.keepA tab (tab_but tb)) neb hcs, fun j hj => ?_⟩
              have hcj : cs[j]? = some (cs[j]'(by omega)) := List.getElem?_eq_getElem (by omega)
              obtain ⟨d2, hd2, dc⟩ := anGetV call hcj
              obtain ⟨ds', c, g1, g2, g3, g4⟩ := cell i j hi hj
              rw [hd] at g1
              cases g1
              rw [hd2] at g2
              cases g2
              refine ⟨_, hcj, ?_, ?_⟩
              · show Dp _ _ _ (frD (cellD rows i j))
                rw [g4]
                exact (an_frD (An.keep (Tabbed.keepA tab (tab_but tb)) dc) g3).dp
              · show SeqAt.shaped (frD (cellD rows i j)) = true
                rfl
            · have e : ((List.range xs.length).all fun i => (List.range i).all fun j => PyData.eqv (frD (cellD rows i j)) (frD (cellD rows j i))) = tabB (.tup rows) := by
                have e1 : tabB (.tup rows) = symB rows := by
                  have : 1 ≤ rows.length := by omega
                  simp [tabB, this, c6, c8]
                rw [e1]
                unfold symB
                rw [len]
                congr 1
                funext i
                congr 1
                funext j
                exact frD_eqv _ _
              show Q (.bl ((List.range xs.length).all fun i => (List.range i).all fun j => PyData.eqv (frD (cellD rows i j)) (frD (cellD rows j i)))) H3
              rw [e]
              exact q H3 ((tab_but tb).trans (tab_but tb3)) tb3.1
      · refine ⟨_, rfl, ifT (by rfl) (stop ?_)⟩
        have : ¬ 1 ≤ rows.length := by
          have h := of_decide_eq_false c3
          omega
        simp [tabB, this]
end
end V3
set_option maxHeartbeats 4100000
namespace V3
open PySem.Spec PySem L2 PyProof.Rows RZ GxR
theorem pow_le_pow' {a b : Nat} (h : a ≤ b) : 2 ^ a ≤ 2 ^ b := Nat.pow_le_pow_right (by decide) h
structure Sf (q : Int × Int) : Prop where
  pos : 0 < q.2
  s1 : q.1.natAbs < 2 ^ 4000
  s2 : q.2.natAbs < 2 ^ 4000
/-! ### the shared denominator -/
def lcmRow (u : Nat) (row : List (Int × Int)) : Nat := row.foldl (fun u q => Nat.lcm u q.2.natAbs) u
def lcmAll (rows : List (List (Int × Int))) : Nat := rows.foldl lcmRow 1
theorem lcmRow_dvd : ∀ (row : List (Int × Int)) (u : Nat), u ∣ lcmRow u row
  | [], u => Nat.dvd_refl u
  | q :: r, u => Nat.dvd_trans (Nat.dvd_lcm_left u q.2.natAbs) (lcmRow_dvd r _)
theorem lcmRow_mem : ∀ (row : List (Int × Int)) (u : Nat) (q : Int × Int), q ∈ row → q.2.natAbs ∣ lcmRow u row
  | x :: r, u, q, h => by
    (rcases List.mem_cons.mp h with rfl | h)
    · exact Nat.dvd_trans (Nat.dvd_lcm_right u q.2.natAbs) (lcmRow_dvd r _)
    · exact lcmRow_mem r _ q h
theorem lcmRow_pos : ∀ (row : List (Int × Int)) (u : Nat), 0 < u → (∀ q ∈ row, 0 < q.2) → 0 < lcmRow u row
  | [], u, h, _ => h
  | q :: r, u, h, k => by
    have h1 : 0 < q.2 := k q List.mem_cons_self
    have h2 : 0 < q.2.natAbs := by omega
    exact lcmRow_pos r _ (Nat.lcm_pos h h2) fun x hx => k x (List.mem_cons_of_mem _ hx)
theorem lcmAll_fold_dvd : ∀ (rows : List (List (Int × Int))) (u : Nat), u ∣ rows.foldl lcmRow u
  | [], u => Nat.dvd_refl u
  | r :: rs, u => Nat.dvd_trans (lcmRow_dvd r u) (lcmAll_fold_dvd rs _)
theorem lcmAll_fold_pos : ∀ (rows : List (List (Int × Int))) (u : Nat), 0 < u → (∀ r ∈ rows, ∀ q ∈ r, 0 < q.2) → 0 < rows.foldl lcmRow u
  | [], u, h, _ => h
  | r :: rs, u, h, k => lcmAll_fold_pos rs _ (lcmRow_pos r u h (k r List.mem_cons_self)) fun x hx => k x (List.mem_cons_of_mem _ hx)
theorem lcmAll_fold_mem : ∀ (rows : List (List (Int × Int))) (u : Nat) (r : List (Int × Int)), r ∈ rows → ∀ q ∈ r, q.2.natAbs ∣ rows.foldl lcmRow u
  | x :: rs, u, r, h, q, hq => by
    (rcases List.mem_cons.mp h with rfl | h)
    · exact Nat.dvd_trans (lcmRow_mem r u q hq) (lcmAll_fold_dvd rs _)
    · exact lcmAll_fold_mem rs _ r h q hq
theorem lcmAll_pos (rows : List (List (Int × Int))) (k : ∀ r ∈ rows, ∀ q ∈ r, 0 < q.2) : 0 < lcmAll rows := lcmAll_fold_pos rows 1 (by decide) k
theorem lcmAll_mem {rows : List (List (Int × Int))} {r : List (Int × Int)} (h : r ∈ rows) {q : Int × Int} (hq : q ∈ r) : q.2.natAbs ∣ lcmAll rows := lcmAll_fold_mem rows 1 r h q hq
theorem lcmAll_take_more {rows : List (List (Int × Int))} {i : Nat} {r : List (Int × Int)} (h : rows[i]? = some r) : lcmAll (rows.take (i + 1)) = lcmRow (lcmAll (rows.take i)) r := by
  unfold lcmAll
  (rw [take_more h, List.foldl_append])
  rfl
theorem lcmRow_take_more {u : Nat} {r : List (Int × Int)} {i : Nat} {q : Int × Int} (h : r[i]? = some q) : lcmRow u (r.take (i + 1)) = Nat.lcm (lcmRow u (r.take i)) q.2.natAbs := by
  unfold lcmRow
  (rw [take_more h, List.foldl_append])
  rfl
/-- what is on the way divides the end -/
theorem lcm_way {rows : List (List (Int × Int))} {i j : Nat} {r : List (Int × Int)} (h : rows[i]? = some r) : lcmRow (lcmAll (rows.take i)) (r.take j) ∣ lcmAll rows := by
  have e1 : lcmAll rows = (rows.drop (i + 1)).foldl lcmRow (lcmAll (rows.take (i + 1))) := by
    unfold lcmAll
    rw [← List.foldl_append, List.take_append_drop]
  rw [e1, lcmAll_take_more h]
  refine Nat.dvd_trans ?_ (lcmAll_fold_dvd _ _)
  have e2 : lcmRow (lcmAll (rows.take i)) r = lcmRow (lcmRow (lcmAll (rows.take i)) (r.take j)) (r.drop j) := by
    unfold lcmRow
    rw [← List.foldl_append, List.take_append_drop]
  rw [e2]
  exact lcmRow_dvd _ _
def wholeRow (u : Int) (r : List (Int × Int)) : List Int := r.map fun q => q.1 * (u / q.2)
section
variable {mg : Str → Option Value} {base : Heap} {K : PySem.W.Frag} {P : Program} {w : World}
abbrev s_fraction : Stmt := topS 7
abbrev N_fraction : List Str := ["number", "under", "shared"]
theorem sc_fraction : FnScope N_fraction ["number", "under"] (defScope s_fraction) := ⟨rfl, rfl, rfl, by decide +kernel, rfl, by decide +kernel, by decide +kernel⟩
theorem ok_fraction (T : Gs K mg) (F : At K mg "fraction" s_fraction) : Df P w K mg base "fraction" 1 ["number", "under"] spFrac := by
  have sc := sc_fraction
  refine Df.mk' F sc (fun vs H Q E h => ?_) (fun _ _ _ _ _ _ us hl => match us, hl with | [_, _], _ => rfl) (fun f cdv A outer s H vs Q E hr h => ?_)
  · obtain ⟨n, u, rfl, _⟩ := h
    rfl
  · obtain ⟨n, u, rfl, hu, su, q⟩ := h
    refine ⟨_, (pss_cons (ps_set (i := 2) sc.nd rfl (.inl rfl) (pe_callBfun cr_gcd (by rfl) T.gcd (pa_cons (pv 0) (pa_cons (pv 1) pa_nil)))) (pss_cons (ps_if (pt_cmpR op_lt (pv 1) pe_int (nomark _)) (pss_one (ps_set (i := 2) sc.nd rfl (.inl rfl) (pe_un un_neg (pv 2)))) pss_nil) (pss_one (ps_ret (pe_tup (pa_cons (pe_op op_fdivW (pv 0) (pv 2)) (pa_cons (pe_op op_fdivW (pv 1) (pv 2)) pa_nil))))))), ?_⟩
    have g0 := gcdP (n := n) hu
    have g1 := gcdL (n := n) hu
    have w : CDivW n (Int.gcd n u : Int) := wide_div g0 (b := 9000) (wide_le (by omega) g1 su) (by decide) (by decide)
    refine ⟨_, rfl, _, rfl, n, u, rfl, ?_⟩
    refine ⟨_, rfl, _, _, rfl, rfl, _, rfl, ite2 (fun e => ?_) (fun e => ?_)⟩
    · exact absurd (of_decide_eq_true e) (by omega)
    · refine ⟨_, rfl, _, rfl, _, _, rfl, rfl, w, _, rfl, _, rfl, _, _, rfl, rfl, w, by show 2 ≤ sizeLine; decide, fun p hp => ?_⟩
      exact q _ p (same_upd hp) (made hu upd_same)
abbrev s_shared_under : Stmt := topS 11
abbrev N_shared_under : List Str := ["rows", "under", "row", "number"]
theorem sc_shared_under : FnScope N_shared_under ["rows"] (defScope s_shared_under) := ⟨rfl, rfl, rfl, by decide +kernel, rfl, by decide +kernel, by decide +kernel⟩
def rowsD (rows : List (List (Int × Int))) : PyData := .tuple (rows.map rowD)
def spShared (K : PySem.W.Frag) : Sp := fun vs H Q _ => ∃ v rows, vs = [v] ∧ Dp K H v (rowsD rows) ∧ (∀ r ∈ rows, ∀ q ∈ r, 0 < q.2) ∧ lcmAll rows < 2 ^ 9000 ∧ Q (.int (lcmAll rows)) H
theorem ok_shared (T : Gs K mg) (F : At K mg "shared_under" s_shared_under) : Df P w K mg base "shared_under" 1 ["rows"] (spShared K) := by
  have sc := sc_shared_under
  refine Df.mk' F sc (fun vs H Q E h => ?_) (fun _ _ _ _ _ _ us hl => match us, hl with | [_], _ => rfl) (fun f cdv A outer s H vs Q E hr h => ?_)
  · obtain ⟨a, q, rfl, _⟩ := h
    rfl
  · obtain ⟨v, rows, rfl, hx, pos, sz, q⟩ := h
    obtain ⟨p, xs, rfl, hp, ha⟩ := dpTup hx
    have hl : xs.length = rows.length := by rw [dpAll_len ha, List.length_map]
    have tot := lcmAll_pos rows pos
    refine ⟨_, (pss_cons (ps_set (i := 1) sc.nd rfl (Or.inl rfl) pe_int)
  (pss_cons (ps_for PassesOwn.never rfl (pi_tup (pv 0)) (pg_name (i := 2) sc.nd rfl (Or.inl rfl))
   (pss_one (ps_for PassesOwn.never rfl (pi_tup (pv 2)) (pg_name (i := 3) sc.nd rfl (Or.inl rfl))
   (pss_one (ps_set (i := 1) sc.nd rfl (Or.inl rfl) (pe_callBfun cr_lcm (by rfl) T.lcm (pa_cons (pv 1) (pa_cons (pe_ix ix_tup (pv 3) pe_int (fun _ _ => rfl)) pa_nil))))))))
  (pss_one (ps_ret (pv 1))))), ?_⟩
    refine ⟨_, rfl, p, rfl, ⟨_, hp⟩, for_tup (K := K) (a := p) (xs := xs) (fun i σ H' => (∃ y z, σ = [some (.ref p), some (.int (lcmAll (rows.take i))), y, z]) ∧ H' = H) ⟨⟨none, none, rfl⟩, rfl⟩ (fun i σ H' _ h => by rw [h.2]; exact hp) ?_ ?_⟩
    · rintro i x σ H' hi ⟨⟨y, z, rfl⟩, rfl⟩
      obtain ⟨d, hd', hdp⟩ := dpAll_getV ha hi
      rw [List.getElem?_map] at hd'
      obtain ⟨r, hr', rfl⟩ := Option.map_eq_some_iff.mp hd'
      obtain ⟨p2, ys, rfl, hp2, ha2⟩ := dpTup hdp
      have hl2 : ys.length = r.length := by rw [dpAll_len ha2, List.length_map]
      refine ⟨_, rfl, p2, rfl, ⟨_, hp2⟩, for_tup (K := K) (a := p2) (xs := ys) (fun j σ H2 => (∃ z, σ = [some (.ref p), some (.int (lcmRow (lcmAll (rows.take i)) (r.take j))), some (.ref p2), z]) ∧ H2 = H') ⟨⟨_, rfl⟩, rfl⟩ (fun i σ H' _ h => by rw [h.2]; exact hp2) ?_ ?_⟩
      · rintro j x2 σ H2 hj ⟨⟨z2, rfl⟩, rfl⟩
        obtain ⟨d2, hd2, hdp2⟩ := dpAll_getV ha2 hj
        rw [List.getElem?_map] at hd2
        obtain ⟨qq, hq, rfl⟩ := Option.map_eq_some_iff.mp hd2
        obtain ⟨p3, rfl, hp3⟩ := dpFr hdp2
        have mr : r ∈ rows := List.mem_of_getElem? hr'
        have mq : qq ∈ r := List.mem_of_getElem? hq
        have b1 : lcmRow (lcmAll (rows.take i)) (r.take j) < 2 ^ 9000 := Nat.lt_of_le_of_lt (Nat.le_of_dvd tot (lcm_way hr')) sz
        have b2 : qq.2.natAbs < 2 ^ 9000 := Nat.lt_of_le_of_lt (Nat.le_of_dvd tot (lcmAll_mem mr mq)) sz
        refine ⟨_, rfl, _, rfl, _, _, _, _, rfl, rfl, hp3, at21, ?_⟩
        refine ⟨_, _, rfl, by rw [Int.natAbs_natCast]; exact b1, b2, ⟨some (.ref p3), ?_⟩, rfl⟩
        rw [lcmRow_take_more hq, Int.natAbs_natCast]
        rfl
      · rintro σ H2 ⟨⟨z2, rfl⟩, rfl⟩
        refine ⟨⟨some (.ref p2), z2, ?_⟩, rfl⟩
        rw [lcmAll_take_more hr', hl2, List.take_length]
    · rintro σ H' ⟨⟨y, z, rfl⟩, rfl⟩
      refine ⟨_, rfl, ?_⟩
      rw [hl, List.take_length]
      exact q
abbrev s_whole_rows : Stmt := topS 12
abbrev N_whole_rows : List Str := ["rows", "under", "row", "number"]
theorem sc_whole_rows : FnScope N_whole_rows ["rows", "under"] (defScope s_whole_rows) := ⟨rfl, rfl, rfl, by decide +kernel, rfl, by decide +kernel, by decide +kernel⟩
/-- rows of whole numbers, in lists -/
def listsD (rows : List (List Int)) : PyData := .list (rows.map fun r => .list (r.map PyData.int))
/-- new lists of ints at D -/
def RowsAt (H : Hp) (D : Addr) (rows : List (List Int)) : Prop := ∃ as : List Addr, H D = some (.lst (as.map V.ref)) ∧ as.length = rows.length ∧ ∀ (i : Nat) a r, as[i]? = some a → rows[i]? = some r → H a = some (.lst (r.map V.int))
def spWholeRows (K : PySem.W.Frag) : Sp := fun vs H Q _ => ∃ v rows u, vs = [v, .int u] ∧ Dp K H v (rowsD rows) ∧ rows.length ≤ 100 ∧ (∀ r ∈ rows, r.length ≤ 100 ∧ ∀ q ∈ r, Sf q) ∧ 0 < u ∧ u.natAbs < 2 ^ 9000 ∧
  ∀ H' D, Same H H' → H D = none → RowsAt H' D (rows.map (wholeRow u)) → Q (.ref D) H'
theorem divLe {u m : Int} (h : 0 < u) (hm : 0 < m) : (u / m).natAbs ≤ u.natAbs := by
  have h1 : 0 ≤ u / m := Int.ediv_nonneg (by omega) (by omega)
  have h2 : u / m ≤ u := Int.ediv_le_self m (by omega)
  omega
theorem ok_whole_rows (T : Gs K mg) (F : At K mg "whole_rows" s_whole_rows) : Df P w K mg base "whole_rows" 1 ["rows", "under"] (spWholeRows K) := by
  have sc := sc_whole_rows
  refine Df.mk' F sc (fun vs H Q E h => ?_) (fun _ _ _ _ _ _ us hl => match us, hl with | [_, _], _ => rfl) (fun f cdv A outer s H vs Q E hr h => ?_)
  · obtain ⟨a, q, u, rfl, _⟩ := h
    rfl
  · obtain ⟨v, rows, u, rfl, hx, l100, ok, hu, su, q⟩ := h
    obtain ⟨p, xs, rfl, hp, ha⟩ := dpTup hx
    have hl : xs.length = rows.length := by rw [dpAll_len ha, List.length_map]
    refine ⟨_, (pss_one (ps_ret (pe_lc (own := [("row", 2)]) (g := gName 2) rfl sc.nd (pi_tup (pv 0)) (blkOk_by (own := [("row", 2)]) (N := N_whole_rows) (sc := defScope s_whole_rows) (by decide +kernel)) (fun _ _ _ _ _ => (pg_name (i := 2) sc.nd rfl (Or.inl rfl))) (fun _ _ _ _ _ => pts_nil) (fun _ _ _ _ _ => by
      refine pe_lc (own := [("number", 3)]) (g := gName 3) (wi := iTup K (tVar 2)) (tt := tYes) (te := tOp (rI CMulW fun i j => .int (i * j)) (tOp (rIxT K) (tVar 3) (tC (.int 0))) (tOp (rI CDivW fun i j => .int (i / j)) (tVar 1) (tOp (rIxT K) (tVar 3) (tC (.int 1))))) rfl ?_ ?_ ?_ ?_ ?_ ?_
      · exact sc.nd
      · exact pi_tup (pv 2)
      · exact blkOk_by (by exact rfl)
      · exact fun _ _ _ _ _ => pg_name (i := 3) sc.nd rfl (Or.inl rfl)
      · exact fun _ _ _ _ _ => pts_nil
      · exact fun _ _ _ _ _ => pe_op op_mulW (pe_ix ix_tup (pv 3) pe_int (fun _ _ => rfl)) (pe_op op_fdivW (pv 1) (pe_ix ix_tup (pv 3) pe_int (fun _ _ => rfl))))))), ?_⟩
    refine ⟨_, rfl, p, rfl, ⟨_, hp⟩, fun D hD => lc_tup (K := K) (a := p) (xs := xs) (fun i H' => Same H H' ∧ RowsAt H' D ((rows.take i).map (wholeRow u))) ?_ (fun i H' _ h => sameT h.1 hp) ?_ ?_⟩
    · exact ⟨same_upd hD, [], upd_same, rfl, fun i a r h => by simp at h⟩
    · rintro i x H' hi ⟨sm, as, hDl, hal, has⟩
      obtain ⟨d, hd', hdp⟩ := dpAll_getV ha hi
      rw [List.getElem?_map] at hd'
      obtain ⟨r, hr', rfl⟩ := Option.map_eq_some_iff.mp hd'
      obtain ⟨p2, ys, rfl, hp2, ha2⟩ := dpTup (Dp.same sm hdp)
      have hl2 : ys.length = r.length := by rw [dpAll_len ha2, List.length_map]
      have okr := ok r (List.mem_of_getElem? hr')
      refine ⟨rfl, yesIf ?_⟩
      refine ⟨_, rfl, p2, rfl, ⟨_, hp2⟩, fun D2 hD2 => lc_tup (K := K) (a := p2) (xs := ys) (fun j H2 => Same H' H2 ∧ H2 D2 = some (.lst ((wholeRow u (r.take j)).map V.int))) ⟨same_upd hD2, upd_same⟩ (fun j H2 _ h => sameT h.1 hp2) ?_ ?_⟩
      · rintro j x2 H2 hj ⟨sm2, hl3⟩
        obtain ⟨d2, hd2, hdp2⟩ := dpAll_getV ha2 hj
        rw [List.getElem?_map] at hd2
        obtain ⟨qq, hq, rfl⟩ := Option.map_eq_some_iff.mp hd2
        obtain ⟨p3, rfl, hp3⟩ := dpFr (Dp.same sm2 hdp2)
        have sq := okr.2 qq (List.mem_of_getElem? hq)
        have s9 : qq.2.natAbs < 2 ^ 9000 := Nat.lt_of_lt_of_le sq.s2 (pow_le_pow' (by decide))
        refine ⟨rfl, yesIf ?_⟩
        refine ⟨_, rfl, _, _, _, _, rfl, rfl, hp3, at20, _, rfl, _, rfl, _, _, _, _, rfl, rfl, hp3, at21, _, _, rfl, rfl, wide_div sq.pos s9 (by decide) (by decide), _, _, rfl, rfl, ?_, ?_⟩
        · exact wide_mul sq.s1 (Nat.lt_of_le_of_lt (divLe hu sq.pos) su) (by decide) (by decide) (by decide)
        · refine ⟨_, hl3, ?_, fun b o hb => ?_, ?_⟩
          · rw [List.length_map, wholeRow, List.length_map, List.length_take]
            exact small1000 (by omega)
          · rw [upd_ne (ne_of_none hb hD2)]
            exact sm2 b o hb
          · rw [upd_same, wholeRow, wholeRow, take_more hq, List.map_append, List.map_append]
            rfl
      · rintro H2 ⟨sm2, hl3⟩
        rw [hl2, List.take_length] at hl3
        have hDl2 : H2 D = some (.lst (as.map V.ref)) := sm2 _ _ hDl
        have hne : D2 ≠ D := fun e => by
          rw [e, hDl] at hD2
          cases hD2
        refine ⟨_, hDl2, ?_, fun b o hb => ?_, as ++ [D2], ?_, ?_, fun k a rr h1 h2 => ?_⟩
        · rw [List.length_map, hal, List.length_map, List.length_take]
          exact small1000 (by omega)
        · rw [upd_ne (ne_of_none hb hD)]
          exact sm2 b o (sm b o hb)
        · rw [upd_same, List.map_append]
          rfl
        · rw [List.length_append, hal, take_more hr', List.length_map, List.length_map, List.length_append]
          rfl
        · rw [take_more hr', List.map_append] at h2
          by_cases hk : k < as.length
          · rw [List.getElem?_append_left hk] at h1
            rw [List.getElem?_append_left (by rw [← hal]; exact hk)] at h2
            have hA := has k a rr h1 h2
            have na : a ≠ D := fun e => by
              subst e
              rw [hDl] at hA
              have hA' := Option.some.inj hA
              injection hA' with hA''
              have : (as.map V.ref)[k]? = (rr.map V.int)[k]? := by rw [hA'']
              rw [List.getElem?_map, h1, List.getElem?_map] at this
              cases e3 : rr[k]? with
              | none => rw [e3] at this; cases this
              | some z => rw [e3] at this; cases this
            rw [upd_ne na]
            exact sm2 _ _ hA
          · rw [List.getElem?_append_right (by omega)] at h1
            rw [List.getElem?_append_right (by rw [← hal]; omega)] at h2
            have k0 : k - as.length = 0 := by
              have := (List.getElem?_eq_some_iff.mp h1).1
              simp at this
              omega
            rw [k0] at h1
            rw [← hal, k0] at h2
            have e1 : D2 = a := Option.some.inj h1
            have e2 : wholeRow u r = rr := Option.some.inj h2
            subst e1
            subst e2
            rw [upd_ne hne]
            exact hl3
    · rintro H' ⟨sm, hR⟩
      rw [hl, List.take_length] at hR
      exact q H' D sm hD hR
end
end V3
namespace V3
open PySem.Spec PySem L2 PyProof.Rows RZ GxR
/-- what divides all of them -/
def gcdZ (xs : List Int) : Nat := xs.foldl (fun g x => Int.gcd (g : Int) x) 0
theorem gcdZ_more {xs : List Int} {i : Nat} {x : Int} (h : xs[i]? = some x) : gcdZ (xs.take (i + 1)) = Int.gcd (gcdZ (xs.take i) : Int) x := by
  unfold gcdZ
  (rw [take_more h, List.foldl_append])
  rfl
theorem gcdF_dvd : ∀ (xs : List Int) (g : Nat), (xs.foldl (fun g x => Int.gcd (g : Int) x) g) ∣ g
  | [], g => Nat.dvd_refl g
  | x :: r, g => Nat.dvd_trans (gcdF_dvd r _) (by
      have := Int.gcd_dvd_left (g : Int) x
      exact Int.natCast_dvd_natCast.mp this)
theorem gcdF_mem : ∀ (xs : List Int) (g : Nat) (x : Int), x ∈ xs → ((xs.foldl (fun g x => Int.gcd (g : Int) x) g : Nat) : Int) ∣ x
  | y :: r, g, x, h => by
    (rcases List.mem_cons.mp h with rfl | h)
    · exact Int.dvd_trans (Int.natCast_dvd_natCast.mpr (gcdF_dvd r _)) (Int.gcd_dvd_right (g : Int) x)
    · exact gcdF_mem r _ x h
theorem gcdF_lt {b : Nat} : ∀ (xs : List Int) (g : Nat), g < 2 ^ b → (∀ x ∈ xs, x.natAbs < 2 ^ b) → xs.foldl (fun g x => Int.gcd (g : Int) x) g < 2 ^ b
  | [], g, h, _ => h
  | x :: r, g, h, k => gcdF_lt r _ (by
      show Nat.gcd (g : Int).natAbs x.natAbs < _
      rw [Int.natAbs_natCast]
      rcases Nat.eq_zero_or_pos g with e | e
      · rw [e, Nat.gcd_zero_left]
        exact k x List.mem_cons_self
      · exact Nat.lt_of_le_of_lt (Nat.gcd_le_left _ e) h) fun y hy => k y (List.mem_cons_of_mem _ hy)
theorem gcdZ_lt {xs : List Int} {b : Nat} (k : ∀ x ∈ xs, x.natAbs < 2 ^ b) : gcdZ xs < 2 ^ b := gcdF_lt xs 0 (Nat.two_pow_pos b) k
theorem gcdZ_mem {xs : List Int} {x : Int} (h : x ∈ xs) : ((gcdZ xs : Nat) : Int) ∣ x := gcdF_mem xs 0 x h
section
variable {mg : Str → Option Value} {base : Heap} {K : PySem.W.Frag} {P : Program} {w : World}
abbrev s_dot : Stmt := topS 15
abbrev N_dot : List Str := ["one", "other", "a", "b"]
theorem sc_dot : FnScope N_dot ["one", "other"] (defScope s_dot) := ⟨rfl, rfl, rfl, by decide +kernel, rfl, by decide +kernel, by decide +kernel⟩
def spDotG (K : PySem.W.Frag) (Pd : Addr) : Sp := fun vs H Q _ => ∃ (p q : Addr) (xs ys : List Int) (m : Nat), vs = [.ref p, .ref q] ∧ SqL K H p (xs.map V.int) ∧ SqL K H q (ys.map V.int) ∧ TabG H Pd ∧ (∀ x ∈ xs, x.natAbs < 2 ^ m) ∧ (∀ y ∈ ys, y.natAbs < 2 ^ m) ∧ 0 < m ∧ m ≤ 400000 ∧
  ∀ H', Tabbed Pd H H' → Q (.int (dotZ xs ys)) H'
theorem ok_dotP (T : Gs K mg) {c Pd : Addr} (TB : TabB base mg c Pd) (F : AtC K mg "dot" s_dot c) : Df P w K mg base "dot" 2 ["one", "other"] (spDotG K Pd) := by
  have sc := sc_dot
  refine Df.mkC F sc (fun vs H Q E h => ?_) (fun _ _ _ _ _ _ us hl => match us, hl with | [_, _], _ => rfl) (fun f A outer s H vs Q E hr h => ?_)
  · obtain ⟨p, q, xs, ys, m, rfl, _⟩ := h
    rfl
  · obtain ⟨p, q', xs, ys, m, rfl, hp, hq, tab, bx, by', m0, ml, q⟩ := h
    refine ⟨_, (pss_one (ps_ret (pe_sumZ (P := Pd) hr (by rfl) T.sum (by rfl) T.zip TB rfl ⟨rfl, rfl, by decide +kernel, rfl, rfl, by
      intro y hy e
      simp only [List.mem_cons, List.not_mem_nil, or_false] at hy
      rcases hy with rfl | rfl | rfl <;> cases e⟩ rfl (by simp; decide) (pa_cons (pv 0) (pa_cons (pv 1) pa_nil)) (by decide) (by decide) (fun _ => rfl)))), ?_⟩
    exact ⟨_, rfl, _, rfl, p, q', xs, ys, m, rfl, hp, hq, tab, bx, by', m0, ml, fun H2 t => q H2 t⟩
end
end V3
namespace V3
open PySem.Spec PySem L2 PyProof.Rows RZ GxR
section
variable {mg : Str → Option Value} {base : Heap} {K : PySem.W.Frag} {P : Program} {w : World}
abbrev s_check_table : Stmt := topS 33
abbrev N_check_table : List Str := ["table"]
theorem sc_check_table : FnScope N_check_table ["table"] (defScope s_check_table) := ⟨rfl, rfl, rfl, by decide +kernel, rfl, by decide +kernel, by decide +kernel⟩
def spCheckTable (K : PySem.W.Frag) (Pt : Addr) : Sp := fun vs H Q _ => ∃ a v d, vs = [v] ∧ An K a H v d ∧ tabB d = true ∧ TabG H Pt ∧ ∀ H', But Pt H H' → TabG H' Pt → Q .non H'
theorem ok_check_table {Pt : Addr} (D_is_table : Df P w K mg base "is_table" 6 ["value"] (spTabA K Pt)) (F : At K mg "check_table" s_check_table) : Df P w K mg base "check_table" 7 ["table"] (spCheckTable K Pt) := by
  have sc := sc_check_table
  refine Df.mk' F sc (fun vs H Q E h => ?_) (fun _ _ _ _ _ _ us hl => match us, hl with | [_], _ => rfl) (fun f cdv A outer s H vs Q E hr h => ?_)
  · obtain ⟨a, v, d, rfl, _⟩ := h
    rfl
  · obtain ⟨a, v, d, rfl, an, ok, tab, q⟩ := h
    refine ⟨_, (pss_one (ps_if (pt_not (pt_val (pe_fn D_is_table (by decide) hr (pa_cons (pv 0) pa_nil)))) (pss_one ps_never) pss_nil)), ?_⟩
    refine ⟨_, rfl, a, v, d, rfl, an, tab, fun H' b t => ⟨_, rfl, ?_⟩⟩
    rw [ok]
    exact ifF (by decide) (q H' b t)
end
end V3
namespace V3
open PySem.Spec PySem L2 PyProof.Rows RZ GxR
section
variable {mg : Str → Option Value} {base : Heap} {K : PySem.W.Frag} {P : Program} {w : World}
abbrev s_minus : Stmt := topS 8
abbrev N_minus : List Str := ["one", "other"]
theorem sc_minus : FnScope N_minus ["one", "other"] (defScope s_minus) := ⟨rfl, rfl, rfl, by decide +kernel, rfl, by decide +kernel, by decide +kernel⟩
theorem ok_minus (D_fraction : Df P w K mg base "fraction" 1 ["number", "under"] spFrac) (F : At K mg "minus" s_minus) : Df P w K mg base "minus" 2 ["one", "other"] (spR2 K (· - ·) fun _ => True) := by
  have sc := sc_minus
  refine Df.mk' F sc (fun vs H Q E h => ?_) (fun _ _ _ _ _ _ us hl => match us, hl with | [_, _], _ => rfl) (fun f cdv A outer s H vs Q E hr h => ?_)
  · obtain ⟨v, w, x, y, rfl, _⟩ := h
    rfl
  · obtain ⟨v, w, x, y, rfl, hx, hy, sx, sy, _, q⟩ := h
    obtain ⟨p, rfl, hp⟩ := fqT hx
    obtain ⟨p', rfl, hp'⟩ := fqT hy
    refine ⟨_, (pss_one (ps_ret (pe_fn D_fraction (by decide) hr (pa_cons (pe_op op_sub (pe_op op_mulW (pe_ix ix_tup (pv 0) pe_int (fun _ _ => rfl)) (pe_ix ix_tup (pv 1) pe_int (fun _ _ => rfl))) (pe_op op_mulW (pe_ix ix_tup (pv 1) pe_int (fun _ _ => rfl)) (pe_ix ix_tup (pv 0) pe_int (fun _ _ => rfl)))) (pa_cons (pe_op op_mulW (pe_ix ix_tup (pv 0) pe_int (fun _ _ => rfl)) (pe_ix ix_tup (pv 1) pe_int (fun _ _ => rfl))) pa_nil))))), ?_⟩
    refine ⟨_, rfl, _, _, _, _, rfl, rfl, hp, at20, _, rfl, _, _, _, _, rfl, rfl, hp', at21, _, _, rfl, rfl, mulW4 sx.n (natI sy.d), ?_⟩
    refine ⟨_, rfl, _, _, _, _, rfl, rfl, hp', at20, _, rfl, _, _, _, _, rfl, rfl, hp, at21, _, _, rfl, rfl, mulW4 sy.n (natI sx.d), ?_⟩
    refine ⟨_, _, rfl, rfl, ?_⟩
    refine ⟨_, rfl, _, _, _, _, rfl, rfl, hp, at21, _, rfl, _, _, _, _, rfl, rfl, hp', at21, _, _, rfl, rfl, mulW4 (natI sx.d) (natI sy.d), ?_⟩
    dsimp only at q
    rw [rsub] at q
    exact ⟨_, _, rfl, Int.mul_pos (rden_pos x) (rden_pos y), sz4 (natI sx.d) (natI sy.d), q⟩
abbrev s_times : Stmt := topS 9
abbrev N_times : List Str := ["one", "other"]
theorem sc_times : FnScope N_times ["one", "other"] (defScope s_times) := ⟨rfl, rfl, rfl, by decide +kernel, rfl, by decide +kernel, by decide +kernel⟩
theorem ok_times (D_fraction : Df P w K mg base "fraction" 1 ["number", "under"] spFrac) (F : At K mg "times" s_times) : Df P w K mg base "times" 2 ["one", "other"] (spR2 K (· * ·) fun _ => True) := by
  have sc := sc_times
  refine Df.mk' F sc (fun vs H Q E h => ?_) (fun _ _ _ _ _ _ us hl => match us, hl with | [_, _], _ => rfl) (fun f cdv A outer s H vs Q E hr h => ?_)
  · obtain ⟨v, w, x, y, rfl, _⟩ := h
    rfl
  · obtain ⟨v, w, x, y, rfl, hx, hy, sx, sy, _, q⟩ := h
    obtain ⟨p, rfl, hp⟩ := fqT hx
    obtain ⟨p', rfl, hp'⟩ := fqT hy
    refine ⟨_, (pss_one (ps_ret (pe_fn D_fraction (by decide) hr (pa_cons (pe_op op_mulW (pe_ix ix_tup (pv 0) pe_int (fun _ _ => rfl)) (pe_ix ix_tup (pv 1) pe_int (fun _ _ => rfl))) (pa_cons (pe_op op_mulW (pe_ix ix_tup (pv 0) pe_int (fun _ _ => rfl)) (pe_ix ix_tup (pv 1) pe_int (fun _ _ => rfl))) pa_nil))))), ?_⟩
    refine ⟨_, rfl, _, _, _, _, rfl, rfl, hp, at20, _, rfl, _, _, _, _, rfl, rfl, hp', at20, _, _, rfl, rfl, mulW4 sx.n sy.n, ?_⟩
    refine ⟨_, rfl, _, _, _, _, rfl, rfl, hp, at21, _, rfl, _, _, _, _, rfl, rfl, hp', at21, _, _, rfl, rfl, mulW4 (natI sx.d) (natI sy.d), ?_⟩
    dsimp only at q
    rw [rmul] at q
    exact ⟨_, _, rfl, Int.mul_pos (rden_pos x) (rden_pos y), sz4 (natI sx.d) (natI sy.d), q⟩
abbrev s_is_above : Stmt := topS 10
abbrev N_is_above : List Str := ["one", "other"]
theorem sc_is_above : FnScope N_is_above ["one", "other"] (defScope s_is_above) := ⟨rfl, rfl, rfl, by decide +kernel, rfl, by decide +kernel, by decide +kernel⟩
theorem ok_is_above (F : At K mg "is_above" s_is_above) : Df P w K mg base "is_above" 1 ["one", "other"] (spR2b K fun x y => decide (y < x)) := by
  have sc := sc_is_above
  refine Df.mk' F sc (fun vs H Q E h => ?_) (fun _ _ _ _ _ _ us hl => match us, hl with | [_, _], _ => rfl) (fun f cdv A outer s H vs Q E hr h => ?_)
  · obtain ⟨v, w, x, y, rfl, _⟩ := h
    rfl
  · obtain ⟨v, w, x, y, rfl, hx, hy, sx, sy, q⟩ := h
    obtain ⟨p, rfl, hp⟩ := fqT hx
    obtain ⟨p', rfl, hp'⟩ := fqT hy
    refine ⟨_, (pss_one (ps_ret (pe_cmpR op_gt (pe_op op_mulW (pe_ix ix_tup (pv 0) pe_int (fun _ _ => rfl)) (pe_ix ix_tup (pv 1) pe_int (fun _ _ => rfl))) (pe_op op_mulW (pe_ix ix_tup (pv 1) pe_int (fun _ _ => rfl)) (pe_ix ix_tup (pv 0) pe_int (fun _ _ => rfl))) (nomark _)))), ?_⟩
    refine ⟨_, rfl, _, _, _, _, rfl, rfl, hp, at20, _, rfl, _, _, _, _, rfl, rfl, hp', at21, _, _, rfl, rfl, mulW4 sx.n (natI sy.d), ?_⟩
    refine ⟨_, rfl, _, _, _, _, rfl, rfl, hp', at20, _, rfl, _, _, _, _, rfl, rfl, hp, at21, _, _, rfl, rfl, mulW4 sy.n (natI sx.d), ?_⟩
    dsimp only at q
    rw [← rlt] at q
    exact ⟨_, _, rfl, rfl, q⟩
def spIsFr (K : PySem.W.Frag) : Sp := fun vs H Q _ => ∃ v x, vs = [v] ∧ DpT K H v (frd x) ∧ Q (.bl true) H
abbrev s_check_fraction : Stmt := topS 26
abbrev N_check_fraction : List Str := ["number"]
theorem sc_check_fraction : FnScope N_check_fraction ["number"] (defScope s_check_fraction) := ⟨rfl, rfl, rfl, by decide +kernel, rfl, by decide +kernel, by decide +kernel⟩
def spCheck (K : PySem.W.Frag) : Sp := fun vs H Q _ => ∃ v x, vs = [v] ∧ DpT K H v (frd x) ∧ Q .non H
theorem ok_check_fraction (D_is_fraction : Df P w K mg base "is_fraction" 2 ["value"] (spIsFr K)) (F : At K mg "check_fraction" s_check_fraction) : Df P w K mg base "check_fraction" 3 ["number"] (spCheck K) := by
  have sc := sc_check_fraction
  refine Df.mk' F sc (fun vs H Q E h => ?_) (fun _ _ _ _ _ _ us hl => match us, hl with | [_], _ => rfl) (fun f cdv A outer s H vs Q E hr h => ?_)
  · obtain ⟨a, q, rfl, _⟩ := h
    rfl
  · obtain ⟨v, x, rfl, hx, q⟩ := h
    refine ⟨_, (pss_one (ps_if (pt_not (pt_val (pe_fn D_is_fraction (by decide) hr (pa_cons (pv 0) pa_nil)))) (pss_one ps_never) pss_nil)), ?_⟩
    refine ⟨_, rfl, _, x, rfl, hx, _, rfl, ifF rfl ?_⟩
    exact q
abbrev s_check_fraction_from : Stmt := topS 27
abbrev N_check_fraction_from : List Str := ["number", "least"]
theorem sc_check_fraction_from : FnScope N_check_fraction_from ["number", "least"] (defScope s_check_fraction_from) := ⟨rfl, rfl, rfl, by decide +kernel, rfl, by decide +kernel, by decide +kernel⟩
def spCheckFrom (K : PySem.W.Frag) : Sp := fun vs H Q _ => ∃ v w x y, vs = [v, w] ∧ DpT K H v (frd x) ∧ DpT K H w (frd y) ∧ Bq 4000 x ∧ Bq 4000 y ∧ y ≤ x ∧ Q .non H
theorem ok_check_fraction_from (D_is_fraction : Df P w K mg base "is_fraction" 2 ["value"] (spIsFr K)) (D_is_above : Df P w K mg base "is_above" 1 ["one", "other"] (spR2b K fun x y => decide (y < x)))
    (F : At K mg "check_fraction_from" s_check_fraction_from) : Df P w K mg base "check_fraction_from" 3 ["number", "least"] (spCheckFrom K) := by
  have sc := sc_check_fraction_from
  refine Df.mk' F sc (fun vs H Q E h => ?_) (fun _ _ _ _ _ _ us hl => match us, hl with | [_, _], _ => rfl) (fun f cdv A outer s H vs Q E hr h => ?_)
  · obtain ⟨a, q, x, y, rfl, _⟩ := h
    rfl
  · obtain ⟨v, w, x, y, rfl, hx, hy, sx, sy, le, q⟩ := h
    refine ⟨_, (pss_one (ps_if (PW.pt (pw_or (pt_not (pt_val (pe_fn D_is_fraction (by decide) hr (pa_cons (pv 0) pa_nil)))) (pw_or1 (pt_val (pe_fn D_is_above (by decide) hr (pa_cons (pv 1) (pa_cons (pv 0) pa_nil))))))) (pss_one ps_never) pss_nil)), ?_⟩
    refine ⟨_, rfl, _, x, rfl, hx, _, rfl, ifF rfl ?_⟩
    refine ⟨_, rfl, _, rfl, _, _, y, x, rfl, hy, hx, sy, sx, _, rfl, ifF ?_ q⟩
    have : ¬ x < y := by grind
    simp [this]
abbrev s_check_told : Stmt := topS 36
abbrev N_check_told : List Str := ["mean", "spread"]
theorem sc_check_told : FnScope N_check_told ["mean", "spread"] (defScope s_check_told) := ⟨rfl, rfl, rfl, by decide +kernel, rfl, by decide +kernel, by decide +kernel⟩
def spCheckTold (K : PySem.W.Frag) : Sp := fun vs H Q _ => ∃ v w x y, vs = [v, w] ∧ DpT K H v (frd x) ∧ DpT K H w (frd y) ∧ Bq 4000 x ∧ Bq 4000 y ∧ 0 ≤ y ∧ Q .non H
theorem bq0 : Bq 4000 0 := ⟨by decide +kernel, by decide +kernel⟩
theorem ok_check_told (T : Gs K mg) (D_check_fraction : Df P w K mg base "check_fraction" 3 ["number"] (spCheck K)) (D_check_fraction_from : Df P w K mg base "check_fraction_from" 3 ["number", "least"] (spCheckFrom K))
    (F : At K mg "check_told" s_check_told) : Df P w K mg base "check_told" 4 ["mean", "spread"] (spCheckTold K) := by
  have sc := sc_check_told
  obtain ⟨pN, gN, hN⟩ := T.NOUGHT
  refine Df.mk' F sc (fun vs H Q E h => ?_) (fun _ _ _ _ _ _ us hl => match us, hl with | [_, _], _ => rfl) (fun f cdv A outer s H vs Q E hr h => ?_)
  · obtain ⟨a, q, x, y, rfl, _⟩ := h
    rfl
  · obtain ⟨v, w, x, y, rfl, hx, hy, sx, sy, y0, q⟩ := h
    refine ⟨_, (pss_cons (ps_expr (pe_fn D_check_fraction (by decide) hr (pa_cons (pv 0) pa_nil))) (pss_one (ps_expr (pe_fn D_check_fraction_from (by decide) hr (pa_cons (pv 1) (pa_cons (pe_glob (v := .ref pN) (by rfl) gN rfl) pa_nil)))))), ?_⟩
    refine ⟨_, rfl, _, x, rfl, hx, ?_⟩
    exact ⟨_, rfl, _, _, y, 0, rfl, hy, .tup (hN H) (.cons (.int 0) (.cons (.int 1) .nil)), sy, bq0, y0, q⟩
abbrev s_check_told_stretch : Stmt := topS 37
abbrev N_check_told_stretch : List Str := ["mean", "spread", "low", "high"]
theorem sc_check_told_stretch : FnScope N_check_told_stretch ["mean", "spread", "low", "high"] (defScope s_check_told_stretch) := ⟨rfl, rfl, rfl, by decide +kernel, rfl, by decide +kernel, by decide +kernel⟩
structure Oa (m s l h : Rat) : Prop where
  bm : Bq 20 m
  bs : Bq 40 s
  bl : Bq 140 l
  bh : Bq 140 h
  s0 : 0 ≤ s
  lh : l ≤ h
def spCheckStretch (K : PySem.W.Frag) : Sp := fun vs H Q _ => ∃ (v1 v2 v3 v4 : V) (m s l h : Rat), vs = [v1, v2, v3, v4] ∧ DpT K H v1 (frd m) ∧ DpT K H v2 (frd s) ∧ DpT K H v3 (frd l) ∧ DpT K H v4 (frd h) ∧ Oa m s l h ∧ Q .non H
theorem ok_check_told_stretch (D_check_told : Df P w K mg base "check_told" 4 ["mean", "spread"] (spCheckTold K)) (D_check_fraction : Df P w K mg base "check_fraction" 3 ["number"] (spCheck K)) (D_check_fraction_from : Df P w K mg base "check_fraction_from" 3 ["number", "least"] (spCheckFrom K))
    (F : At K mg "check_told_stretch" s_check_told_stretch) : Df P w K mg base "check_told_stretch" 5 ["mean", "spread", "low", "high"] (spCheckStretch K) := by
  have sc := sc_check_told_stretch
  refine Df.mk' F sc (fun vs H Q E h => ?_) (fun _ _ _ _ _ _ us hl => match us, hl with | [_, _, _, _], _ => rfl) (fun f cdv A outer s H vs Q E hr h => ?_)
  · obtain ⟨v1, v2, v3, v4, m, s, l, h, rfl, _⟩ := h
    rfl
  · obtain ⟨v1, v2, v3, v4, m, s, l, h, rfl, d1, d2, d3, d4, o, q⟩ := h
    refine ⟨_, (pss_cons (ps_expr (pe_fn D_check_told (by decide) hr (pa_cons (pv 0) (pa_cons (pv 1) pa_nil)))) (pss_cons (ps_expr (pe_fn D_check_fraction (by decide) hr (pa_cons (pv 2) pa_nil))) (pss_one (ps_expr (pe_fn D_check_fraction_from (by decide) hr (pa_cons (pv 3) (pa_cons (pv 2) pa_nil))))))), ?_⟩
    refine ⟨_, rfl, _, rfl, _, _, m, s, rfl, d1, d2, o.bm.mono (by decide), o.bs.mono (by decide), o.s0, ?_⟩
    refine ⟨_, rfl, _, l, rfl, d3, ?_⟩
    exact ⟨_, rfl, _, rfl, _, _, h, l, rfl, d4, d3, o.bh.mono (by decide), o.bl.mono (by decide), o.lh, q⟩
abbrev s_is_sure : Stmt := topS 39
abbrev N_is_sure : List Str := ["mean", "spread", "low", "high"]
theorem sc_is_sure : FnScope N_is_sure ["mean", "spread", "low", "high"] (defScope s_is_sure) := ⟨rfl, rfl, rfl, by decide +kernel, rfl, by decide +kernel, by decide +kernel⟩
def spSure (K : PySem.W.Frag) : Sp := fun vs H Q _ => ∃ (v1 v2 v3 v4 : V) (m s l h : Rat), vs = [v1, v2, v3, v4] ∧ DpT K H v1 (frd m) ∧ DpT K H v2 (frd s) ∧ DpT K H v3 (frd l) ∧ DpT K H v4 (frd h) ∧ Oa m s l h ∧ ∀ H', Same H H' → Q (.bl (sureR m s l h)) H'
theorem ok_is_sure (D_is_above : Df P w K mg base "is_above" 1 ["one", "other"] (spR2b K fun x y => decide (y < x))) (D_times : Df P w K mg base "times" 2 ["one", "other"] (spR2 K (· * ·) fun _ => True)) (D_minus : Df P w K mg base "minus" 2 ["one", "other"] (spR2 K (· - ·) fun _ => True))
    (F : At K mg "is_sure" s_is_sure) : Df P w K mg base "is_sure" 3 ["mean", "spread", "low", "high"] (spSure K) := by
  have sc := sc_is_sure
  refine Df.mk' F sc (fun vs H Q E h => ?_) (fun _ _ _ _ _ _ us hl => match us, hl with | [_, _, _, _], _ => rfl) (fun f cdv A outer s H vs Q E hr h => ?_)
  · obtain ⟨v1, v2, v3, v4, m, s, l, h, rfl, _⟩ := h
    rfl
  · obtain ⟨v1, v2, v3, v4, m, s, l, h, rfl, d1, d2, d3, d4, o, q⟩ := h
    refine ⟨_, (pss_one (ps_ret (pe_not (pe_fn D_is_above (by decide) hr (pa_cons (pv 1) (pa_cons (pe_fn D_times (by decide) hr (pa_cons (pe_fn D_minus (by decide) hr (pa_cons (pv 0) (pa_cons (pv 2) pa_nil))) (pa_cons (pe_fn D_minus (by decide) hr (pa_cons (pv 3) (pa_cons (pv 0) pa_nil))) pa_nil))) pa_nil)))))), ?_⟩
    refine ⟨_, rfl, ?_⟩
    refine ⟨_, rfl, _, rfl, _, _, m, l, rfl, d1, d3, o.bm.mono (by decide), o.bl.mono (by decide), .intro, fun H1 p1 s1 h1 => ?_⟩
    refine ⟨_, rfl, _, rfl, _, _, h, m, rfl, fqSame d4 s1, fqSame d1 s1, o.bh.mono (by decide), o.bm.mono (by decide), .intro, fun H2 p2 s2 h2 => ?_⟩
    refine ⟨_, _, m - l, h - m, rfl, fqSame (fqO h1) s2, fqO h2, o.bm.sub o.bl (by decide), o.bh.sub o.bm (by decide), .intro, fun H3 p3 s3 h3 => ?_⟩
    have b1 : Bq 161 (m - l) := o.bm.sub o.bl (by decide)
    have b2 : Bq 161 (h - m) := o.bh.sub o.bm (by decide)
    refine ⟨_, _, s, (m - l) * (h - m), rfl, fqSame d2 ((s1.trans s2).trans s3), fqO h3, o.bs.mono (by decide), b1.mul b2 (by decide), ?_⟩
    have e : sureR m s l h = !(decide ((m - l) * (h - m) < s)) := by
      unfold sureR
      by_cases c : s ≤ (m - l) * (h - m)
      · have : ¬ (m - l) * (h - m) < s := by grind
        simp [c, this]
      · have : (m - l) * (h - m) < s := by grind
        simp [c, this]
    rw [e] at q
    exact ⟨_, rfl, q H3 ((s1.trans s2).trans s3)⟩
end
end V3
set_option maxHeartbeats 8000000
namespace V3
open PySem.Spec PySem L2 PyProof.Rows RZ GxR
/-- at p the rows M, each in a list of its own -/
structure Mx (H : Hp) (p : Addr) (ps : List Addr) (M : List (List Int)) : Prop where
  at_ : H p = some (.lst (ps.map V.ref))
  out : p ∉ ps
  nd : ps.Nodup
  len : ps.length = M.length
  row : ∀ (i : Nat) (q : Addr) (r : List Int), ps[i]? = some q → M[i]? = some r → H q = some (.lst (r.map V.int))
theorem Mx.same {H H' : Hp} {p : Addr} {ps : List Addr} {M : List (List Int)} (h : Mx H p ps M) (s : Same H H') : Mx H' p ps M :=
  ⟨s _ _ h.at_, h.out, h.nd, h.len, fun i q r a b => s _ _ (h.row i q r a b)⟩
def RowsN (H0 H : Hp) (D : Addr) (rows : List (List Int)) : Prop := ∃ as : List Addr, H D = some (.lst (as.map V.ref)) ∧ as.length = rows.length ∧ (∀ (i : Nat) a r, as[i]? = some a → rows[i]? = some r → H a = some (.lst (r.map V.int))) ∧ as.Nodup ∧ D ∉ as ∧ ∀ a ∈ as, H0 a = none
section
variable {mg : Str → Option Value} {base : Heap} {K : PySem.W.Frag} {P : Program} {w : World}
def spWholeMx (K : PySem.W.Frag) : Sp := fun vs H Q _ => ∃ v rows u, vs = [v, .int u] ∧ Dp K H v (rowsD rows) ∧ rows.length ≤ 100 ∧ (∀ r ∈ rows, r.length ≤ 100 ∧ ∀ q ∈ r, Sf q) ∧ 0 < u ∧ u.natAbs < 2 ^ 9000 ∧
  ∀ H' D ps, Same H H' → H D = none → Mx H' D ps (rows.map (wholeRow u)) → (∀ a ∈ ps, H a = none) → Q (.ref D) H'
theorem ok_whole_mx (T : Gs K mg) (F : At K mg "whole_rows" s_whole_rows) : Df P w K mg base "whole_rows" 1 ["rows", "under"] (spWholeMx K) := by
  have sc := sc_whole_rows
  refine Df.mk' F sc (fun vs H Q E h => ?_) (fun _ _ _ _ _ _ us hl => match us, hl with | [_, _], _ => rfl) (fun f cdv A outer s H vs Q E hr h => ?_)
  · obtain ⟨a, q, u, rfl, _⟩ := h
    rfl
  · obtain ⟨v, rows, u, rfl, hx, l100, ok, hu, su, q⟩ := h
    obtain ⟨p, xs, rfl, hp, ha⟩ := dpTup hx
    have hl : xs.length = rows.length := by rw [dpAll_len ha, List.length_map]
    refine ⟨_, (pss_one (ps_ret (pe_lc (own := [("row", 2)]) (g := gName 2) rfl sc.nd (pi_tup (pv 0)) (blkOk_by (own := [("row", 2)]) (N := N_whole_rows) (sc := defScope s_whole_rows) (by decide +kernel)) (fun _ _ _ _ _ => (pg_name (i := 2) sc.nd rfl (Or.inl rfl))) (fun _ _ _ _ _ => pts_nil) (fun _ _ _ _ _ => by
      refine pe_lc (own := [("number", 3)]) (g := gName 3) (wi := iTup K (tVar 2)) (tt := tYes) (te := tOp (rI CMulW fun i j => .int (i * j)) (tOp (rIxT K) (tVar 3) (tC (.int 0))) (tOp (rI CDivW fun i j => .int (i / j)) (tVar 1) (tOp (rIxT K) (tVar 3) (tC (.int 1))))) rfl ?_ ?_ ?_ ?_ ?_ ?_
      · exact sc.nd
      · exact pi_tup (pv 2)
      · exact blkOk_by (by exact rfl)
      · exact fun _ _ _ _ _ => pg_name (i := 3) sc.nd rfl (Or.inl rfl)
      · exact fun _ _ _ _ _ => pts_nil
      · exact fun _ _ _ _ _ => pe_op op_mulW (pe_ix ix_tup (pv 3) pe_int (fun _ _ => rfl)) (pe_op op_fdivW (pv 1) (pe_ix ix_tup (pv 3) pe_int (fun _ _ => rfl))))))), ?_⟩
    refine ⟨_, rfl, p, rfl, ⟨_, hp⟩, fun D hD => lc_tup (K := K) (a := p) (xs := xs) (fun i H' => Same H H' ∧ RowsN H H' D ((rows.take i).map (wholeRow u))) ?_ (fun i H' _ h => sameT h.1 hp) ?_ ?_⟩
    · exact ⟨same_upd hD, [], upd_same, rfl, (fun i a r h => by simp at h), List.nodup_nil, by simp, fun a h => by cases h⟩
    · rintro i x H' hi ⟨sm, as, hDl, hal, has, nda, nDa, fra⟩
      obtain ⟨d, hd', hdp⟩ := dpAll_getV ha hi
      rw [List.getElem?_map] at hd'
      obtain ⟨r, hr', rfl⟩ := Option.map_eq_some_iff.mp hd'
      obtain ⟨p2, ys, rfl, hp2, ha2⟩ := dpTup (Dp.same sm hdp)
      have hl2 : ys.length = r.length := by rw [dpAll_len ha2, List.length_map]
      have okr := ok r (List.mem_of_getElem? hr')
      refine ⟨rfl, yesIf ?_⟩
      refine ⟨_, rfl, p2, rfl, ⟨_, hp2⟩, fun D2 hD2 => lc_tup (K := K) (a := p2) (xs := ys) (fun j H2 => Same H' H2 ∧ H2 D2 = some (.lst ((wholeRow u (r.take j)).map V.int))) ⟨same_upd hD2, upd_same⟩ (fun j H2 _ h => sameT h.1 hp2) ?_ ?_⟩
      · rintro j x2 H2 hj ⟨sm2, hl3⟩
        obtain ⟨d2, hd2, hdp2⟩ := dpAll_getV ha2 hj
        rw [List.getElem?_map] at hd2
        obtain ⟨qq, hq, rfl⟩ := Option.map_eq_some_iff.mp hd2
        obtain ⟨p3, rfl, hp3⟩ := dpFr (Dp.same sm2 hdp2)
        have sq := okr.2 qq (List.mem_of_getElem? hq)
        have s9 : qq.2.natAbs < 2 ^ 9000 := Nat.lt_of_lt_of_le sq.s2 (pow_le_pow' (by decide))
        refine ⟨rfl, yesIf ?_⟩
        refine ⟨_, rfl, _, _, _, _, rfl, rfl, hp3, at20, _, rfl, _, rfl, _, _, _, _, rfl, rfl, hp3, at21, _, _, rfl, rfl, wide_div sq.pos s9 (by decide) (by decide), _, _, rfl, rfl, ?_, ?_⟩
        · exact wide_mul sq.s1 (Nat.lt_of_le_of_lt (divLe hu sq.pos) su) (by decide) (by decide) (by decide)
        · refine ⟨_, hl3, ?_, fun b o hb => ?_, ?_⟩
          · rw [List.length_map, wholeRow, List.length_map, List.length_take]
            exact small1000 (by omega)
          · rw [upd_ne (ne_of_none hb hD2)]
            exact sm2 b o hb
          · rw [upd_same, wholeRow, wholeRow, take_more hq, List.map_append, List.map_append]
            rfl
      · rintro H2 ⟨sm2, hl3⟩
        rw [hl2, List.take_length] at hl3
        have hDl2 : H2 D = some (.lst (as.map V.ref)) := sm2 _ _ hDl
        have hne : D2 ≠ D := fun e => by
          rw [e, hDl] at hD2
          cases hD2
        refine ⟨_, hDl2, ?_, fun b o hb => ?_, as ++ [D2], ?_, ?_, (fun k a rr h1 h2 => ?_), ?_, ?_, fun a ha => ?_⟩
        · rw [List.length_map, hal, List.length_map, List.length_take]
          exact small1000 (by omega)
        · rw [upd_ne (ne_of_none hb hD)]
          exact sm2 b o (sm b o hb)
        · rw [upd_same, List.map_append]
          rfl
        · rw [List.length_append, hal, take_more hr', List.length_map, List.length_map, List.length_append]
          rfl
        · rw [take_more hr', List.map_append] at h2
          by_cases hk : k < as.length
          · rw [List.getElem?_append_left hk] at h1
            rw [List.getElem?_append_left (by rw [← hal]; exact hk)] at h2
            have hA := has k a rr h1 h2
            have na : a ≠ D := fun e => by
              subst e
              rw [hDl] at hA
              have hA' := Option.some.inj hA
              injection hA' with hA''
              have : (as.map V.ref)[k]? = (rr.map V.int)[k]? := by rw [hA'']
              rw [List.getElem?_map, h1, List.getElem?_map] at this
              cases e3 : rr[k]? with
              | none => rw [e3] at this; cases this
              | some z => rw [e3] at this; cases this
            rw [upd_ne na]
            exact sm2 _ _ hA
          · rw [List.getElem?_append_right (by omega)] at h1
            rw [List.getElem?_append_right (by rw [← hal]; omega)] at h2
            have k0 : k - as.length = 0 := by
              have := (List.getElem?_eq_some_iff.mp h1).1
              simp at this
              omega
            rw [k0] at h1
            rw [← hal, k0] at h2
            have e1 : D2 = a := Option.some.inj h1
            have e2 : wholeRow u r = rr := Option.some.inj h2
            subst e1
            subst e2
            rw [upd_ne hne]
            exact hl3
        · refine List.nodup_append.mpr ⟨nda, by simp, fun a ha b hb e => ?_⟩
          rw [List.mem_singleton.mp hb] at e
          subst e
          obtain ⟨k, hk⟩ := List.getElem?_of_mem ha
          have kl := (List.getElem?_eq_some_iff.mp hk).1
          have := has k a _ hk (List.getElem?_eq_getElem (by rw [← hal]; exact kl))
          rw [hD2] at this
          cases this
        · intro h
          (rcases List.mem_append.mp h with h | h)
          · exact nDa h
          · exact hne (List.mem_singleton.mp h).symm
        · rcases List.mem_append.mp ha with h | h
          · exact fra a h
          · rw [List.mem_singleton.mp h]
            cases e : H D2 with
            | none => rfl
            | some o =>
              have := sm D2 o e
              rw [hD2] at this
              cases this
    · rintro H' ⟨sm, hR⟩
      rw [hl, List.take_length] at hR
      obtain ⟨as, h1, h2, h3, h4, h5, h6⟩ := hR
      exact q H' D as sm hD ⟨h1, h5, h4, h2, h3⟩ h6
end
end V3
namespace V3
open PySem.Spec PySem L2 PyProof.Rows RZ GxR
theorem op_in_seqK {X : Cx} {K : PySem.W.Frag} (h : X.K = K) : OpR X (compareOp .In) (rIn K false) := by
  subst h
  exact op_in_seq
section
variable {mg : Str → Option Value} {base : Heap} {K : PySem.W.Frag} {P : Program} {w : World}
abbrev s_unit_row : Stmt := topS 17
abbrev N_unit_row : List Str := ["size", "places", "place"]
theorem sc_unit_row : FnScope N_unit_row ["size", "places"] (defScope s_unit_row) := ⟨rfl, rfl, rfl, by decide +kernel, rfl, by decide +kernel, by decide +kernel⟩
def unitL (n k : Nat) : List Int := (List.range n).map fun i => if i = k then 1 else 0
def spUnit (K : PySem.W.Frag) : Sp := fun vs H Q _ => ∃ (p : Addr) (n k : Nat), vs = [.int n, .ref p] ∧ SqT K H p [.int k] ∧ n ≤ 100 ∧ ∀ H' D, Same H H' → H D = none → H' D = some (.lst ((unitL n k).map V.int)) → Q (.ref D) H'
theorem ok_unit_row (T : Gs K mg) (F : At K mg "unit_row" s_unit_row) : Df P w K mg base "unit_row" 1 ["size", "places"] (spUnit K) := by
  have sc := sc_unit_row
  refine Df.mk' F sc (fun vs H Q E h => ?_) (fun _ _ _ _ _ _ us hl => match us, hl with | [_, _], _ => rfl) (fun f cdv A outer s H vs Q E hr h => ?_)
  · obtain ⟨p, n, k, rfl, _⟩ := h
    rfl
  · obtain ⟨p, n, k, rfl, hp, n100, q⟩ := h
    refine ⟨_, (pss_one (ps_ret (pe_lc (own := [("place", 2)]) (g := gName 2) rfl sc.nd (pi_range1 rfl T.range (pa_cons (pv 0) pa_nil)) (blkOk_by (own := [("place", 2)]) (N := N_unit_row) (sc := defScope s_unit_row) (by decide +kernel)) (fun _ _ _ _ _ => (pg_name (i := 2) sc.nd rfl (.inl rfl))) (fun _ _ _ _ _ => pts_nil) (fun _ _ _ _ _ => (pe_ifExp (pt_cmpR (op_in_seqK (K := K) rfl) (pv 2) (pv 1) (by rfl)) pe_int pe_int))))), ?_⟩
    refine ⟨_, rfl, _, rfl, by omega, by omega, fun D hD => lc_range (lo := 0) (n := _) (fun i H' => Same H H' ∧ H' D = some (.lst (((List.range i).map fun j => if j = k then (1 : Int) else 0).map V.int))) ⟨same_upd hD, upd_same⟩ ?_ ?_⟩
    · rintro i H' hi ⟨sm, hd⟩
      have hi2 : i < n := by omega
      have fin : ∀ z : Int, z = (if i = k then 1 else 0) → ∃ acc, H' D = some (.lst acc) ∧ acc.length < sizeLine ∧ Same H (upd H' D (.lst (acc ++ [V.int z]))) ∧ (upd H' D (.lst (acc ++ [V.int z]))) D = some (.lst (((List.range (i + 1)).map fun j => if j = k then (1 : Int) else 0).map V.int)) := fun z ez => by
        subst ez
        refine ⟨_, hd, small1000 ?_, same_updN sm hD, ?_⟩
        · rw [List.length_map, List.length_map, List.length_range]
          omega
        · rw [upd_same, List.range_succ, List.map_append, List.map_append]
          rfl
      refine ⟨rfl, yesIf ?_⟩
      refine ⟨_, rfl, _, rfl, p, [.int k], rfl, .inr (sameT sm hp), rfl, rfl, ?_⟩
      have eb : inV (V.int (0 + (i : Int))) [V.int (k : Int)] = decide (i = k) := by
        rw [Int.zero_add]
        show (eqV (V.int (k : Int)) (V.int (i : Int)) || false) = _
        rw [Bool.or_false]
        show decide _ = _
        exact decide_eq_decide.mpr ⟨fun e => by omega, fun e => by omega⟩
      rw [if_neg (by decide), eb]
      refine ⟨_, rfl, ?_⟩
      refine if2 (fun c => ?_) (fun c => ?_)
      · exact fin 1 (by rw [if_pos (of_decide_eq_true c)])
      · exact fin 0 (by rw [if_neg (of_decide_eq_false c)])
    · rintro H' ⟨sm, hd⟩
      exact q H' D sm hD (by rw [hd]; rfl)
end
end V3
set_option maxHeartbeats 8100000
/-! Iterables of a generator expression over a list or a tuple alike: enumerate, zip. -/
namespace V3
open PySem.Spec PySem L2 PyProof.Rows GxR RZ
section
variable {X : Cx}
/-- a list or a tuple -/
def SqK (K : PySem.W.Frag) (H : Hp) (l : Addr) (xs : List V) : Prop := H l = some (.lst xs) ∨ SqT K H l xs
/-- what is drawn of a list or a tuple -/
def Src (X : Cx) (P l : Addr) (xs : List V) (s1 : Shared) : Prop := Apart X P l s1 ∧ ∃ (its : List Value) (o0 : Obj) (Hs : Heap → Prop) (Rd : Addr → Nat → Heap → Prop), Vals xs its ∧ Begins (.ref l) o0 Hs ∧ Hs s1.heap ∧
  (∀ (A : Around), A.handled = none → ∀ it, l ≠ it → Draws X.prog X.w A it [it, l] its.toArray.size (fun i v => its.toArray[i]? = some v) (Rd it)) ∧ (∀ it h, h.get? it = some o0 → Hs h → Rd it 0 h) ∧ ∀ it i h, Rd it i h → ∃ o, h.get? it = some o
theorem src_of {pins : List (Addr × Obj)} {σ : L2.St} {H1 : Hp} {s1 : Shared} {P l : Addr} {xs : List V} (I1 : Inv X pins σ H1 s1) (tab : TabG H1 P) (h : SqK X.K H1 l xs) : Src X P l xs s1 := by
  rcases h with h | h
  · obtain ⟨ap, its, r, pl⟩ := apartL I1 tab h
    exact ⟨ap, its, _, _, fun it i h => h.IsListIter it l i ∧ h.IsList l its.toArray, r, begins_list l its.toArray, pl, fun A hh it ne => Draws.list hh it l ne its.toArray, fun it h a b => ⟨⟨_, a, rfl, rfl⟩, b⟩, fun it i h st => by
      obtain ⟨⟨o, ho, _⟩, _⟩ := st
      exact ⟨o, ho⟩⟩
  · obtain ⟨ap, its, r, pl⟩ := apartT I1 tab h
    exact ⟨ap, its, _, _, fun it i h => h.IsTupleIter it l i ∧ h.IsTuple l its.toArray, r, begins_tuple l its.toArray, pl, fun A hh it ne => Draws.tuple hh it l ne its.toArray, fun it h a b => ⟨⟨_, a, rfl, rfl⟩, b⟩, fun it i h st => by
      obtain ⟨⟨o, ho, _⟩, _⟩ := st
      exact ⟨o, ho⟩⟩
def tiEK (X : Cx) (P : Addr) (a b : Str) (ta : TA) : TI := fun σ H K => ta σ H fun vs H1 => ∃ (p : Addr) (xs : List V), vs = [.ref p] ∧ SqK X.K H1 p xs ∧ TabG H1 P ∧ K xs.length (rowE a b xs) H1
def tiZK (X : Cx) (P : Addr) (a b : Str) (ta : TA) : TI := fun σ H K => ta σ H fun vs H1 => ∃ (p q : Addr) (xs ys : List V), vs = [.ref p, .ref q] ∧ SqK X.K H1 p xs ∧ SqK X.K H1 q ys ∧ TabG H1 P ∧ K (min xs.length ys.length) (rowZ a b xs ys) H1
/-- for a, b in enumerate(t), a list or a tuple -/
theorem ir_enumK {P : Addr} {e1 : Expr} {a b : Str} {pa pb tp pe pe2 : Pos} {kk : Nat} {scope : Scope} {ta : TA} (hge : Gl X "enumerate") (hme : X.mg "enumerate" = none) (ha : PA X [e1] ta) (kd : scope.kind = .function) (ka : scope.names.lookup a = some .local) (kb : scope.names.lookup b = some .local) (ab : (a = b) = False)
    (hs : starEach [e1] X.env = [(false, eval e1 X.env)] := by rfl) : IR X P (.Call (.Name "enumerate" pe) [e1] [] pe2) (.Tuple [.Name a pa, .Name b pb] kk tp) scope (tiEK X P a b ta) := by
  refine ⟨fun pins s σ H Kq R I h go => ?_⟩
  refine Call_ (ld_blt I hge hme boot_enumerate (PyProof.Rows.callWith_type1 (thn (ha.run pe2 pins s σ H _ I h) fun us s1 ⟨vs, H1, I1, r1, l, xs, evs, hsq, tab, kq⟩ => ?_) hs rfl))
  subst evs
  cases r1 with
  | cons r rr =>
    cases rr
    cases r
    obtain ⟨ap, its, o0, Hs, Rd, rv, bg, hh0, drw, stt, lv⟩ := src_of I1 tab hsq
    have hal := ap.low
    refine call_enum_begins bg hh0 fun hq isE hit hsz hk => wpAny_pyIter_enum isE ?_
    have lenE : its.toArray.size = xs.length := by
      rw [List.size_toArray]
      exact rv.length.symm
    have frl := frsLow I1
    have tl := tabLow I1 tab
    refine go H1 s1 hq (s1.heap.objs.size + 1) [s1.heap.objs.size + 1, s1.heap.objs.size, l] [s1.heap.objs.size + 1, s1.heap.objs.size] xs.length (rowE a b xs)
      (fun i h => (∃ old, IsEnum h (s1.heap.objs.size + 1) s1.heap.objs.size i old) ∧ Rd s1.heap.objs.size i h) I1 tab ⟨hk, by rw [hsz]; exact Nat.le_add_right _ _, fun ce hsc hlo => ?_, fun b hb => ?_, ⟨⟨_, isE⟩, stt _ _ hit (bg.keeps _ _ hh0 hk)⟩, fun b hb => ?_, fun b hb => ?_, fun b hb => ?_, fun b hb => ?_⟩ (fun i h st b hb => by
        obtain ⟨⟨_, e⟩, st2⟩ := st
        (simp only [List.mem_cons, List.not_mem_nil, or_false] at hb)
        rcases hb with z | z
        · rw [z]
          exact ⟨_, e⟩
        · rw [z]
          exact lv _ _ _ st2) kq
    · rw [← lenE]
      refine (Draws2.pair (Mid := fun i T h => (∃ x, IsEnumOut h (s1.heap.objs.size + 1) s1.heap.objs.size ((i : Int) + 1) x T) ∧ Rd s1.heap.objs.size (i + 1) h ∧ T ≠ s1.heap.objs.size + 1 ∧ T ≠ s1.heap.objs.size) (fun B hB => WalksT.enumerateD (A := B) (drw B.in1 (by exact hB) s1.heap.objs.size (Nat.ne_of_lt hal)) (s1.heap.objs.size + 1) (Nat.succ_ne_self _) (fun z => ?_) (List.mem_cons_self ..)) (fun i vals pt => ?_) (by show ce.scope.names.lookup a = _; rw [hsc]; exact ka) (by show ce.scope.names.lookup b = _; rw [hsc]; exact kb) ab (by rw [hsc]; simp [kd]) hlo).mono fun i mp ⟨x, y, ⟨t, x', hx, exy⟩, ma, mb⟩ => ?_
      · simp only [List.mem_cons, List.not_mem_nil, or_false] at z
        rcases z with z | z
        · exact Nat.succ_ne_self _ z
        · exact Nat.ne_of_lt (Nat.lt_succ_of_lt hal) z.symm
      · obtain ⟨t, x, _, e⟩ := pt
        exact ⟨_, _, e⟩
      · have e1 : x = .int (i : Int) t ∧ y = x' := by simpa using exy
        obtain ⟨rfl, rfl⟩ := e1
        have hx : its[i]? = some y := by simpa using hx
        obtain ⟨v, hv, r⟩ := vals_at rv hx
        exact ⟨v, y, t, hv, ma, mb, r⟩
    · simp only [List.mem_cons, List.not_mem_nil, or_false] at hb ⊢
      rcases hb with z | z
      · exact .inl z
      · exact .inr (.inl z)
    · rw [hsz]
      (simp only [List.mem_cons, List.not_mem_nil, or_false] at hb)
      rcases hb with z | z | z <;> subst z
      · exact Nat.lt_succ_self _
      · (exact Nat.lt_succ_of_lt (Nat.lt_succ_self _))
      · exact Nat.lt_succ_of_lt (Nat.lt_succ_of_lt hal)
    · (simp only [List.mem_cons, List.not_mem_nil, or_false] at hb)
      rcases hb with z | z <;> subst z
      · exact Nat.le_add_right _ _
      · exact Nat.le_refl _
    · (simp only [List.mem_cons, List.not_mem_nil, or_false] at hb)
      rcases hb with z | z | z <;> subst z
      · exact Nat.ne_of_gt (Nat.lt_succ_of_lt tl)
      · exact Nat.ne_of_gt tl
      · exact ap.np
    · intro z
      (simp only [List.mem_cons, List.not_mem_nil, or_false] at hb)
      rcases hb with y | y | y <;> subst y
      · exact absurd (frl _ z) (Nat.not_lt_of_le (Nat.le_add_right _ _))
      · exact absurd (frl _ z) (Nat.not_lt_of_le (Nat.le_refl _))
      · exact ap.nf z
end
end V3
/-! min over a generator expression; products and tests of whole numbers inside one. -/
namespace V3
open PySem.Spec PySem L2 PyProof.Rows GxR RZ
section
variable {w : World} {prog : Program} {A : Around}
theorem min_loopV {I : Addr} {wr fs : List Addr} {n : Nat} {P : Nat → Value → Prop} {St : Nat → Shared → Prop} {R : Result → Shared → Prop} (Wk : WalksV prog w A.in1 I wr fs n P St) (S : Addr) (Sw : S ∉ wr) (Sf : S ∉ fs)
    (fr : ∀ i (t : Shared) h' tk, St i t → (∀ b o, b ≠ S → t.heap.get? b = some o → h'.get? b = some o) → St i { t with heap := h', toks := tk }) (bt : Nat → Nat → Bool) (less : CmpOf prog w A.in1 .Lt P bt) :
    ∀ (k j : Nat) (t : Shared) (vb : Value) (c : Nat), n - (j + 1) = k → j + 1 ≤ n → St (j + 1) t → P (argBest bt j) vb → t.heap.get? S = some { cls := .type "list", dict := none, data := .seq #[vb, vb] c, slots := #[] } →
      (∀ v t', P (argBest bt (n - 1)) v → MovedV (S :: wr) fs t t' → R (.ok (.ret v)) t') → codeAny (model prog w) A (.builtin "min.loop" ⟨[.ref I, .none, .ref S], []⟩) R t := by
  have other : ∀ (f : Obj → Obj) (h0 : Heap) b o, b ≠ S → h0.get? b = some o → (h0.update S f).get? b = some o := fun f h0 b o n it => (Heap.get?_update_other _ _ (Ne.symm n)).trans it
  have nm : (toString "min" ++ toString ".loop" : String) = "min.loop" := by decide
  intro k
  induction k with
  | zero =>
    intro j t vb c ek jl st pb atS want
    have e1 : j + 1 = n := by omega
    (refine codeAny_builtin F.entry_min_loop ?_)
    (rw [Around.under_plainId F.plain_min_loop _])
    (show wpAny _ A.in1 (seqItems? (.ref S) >>= _) _ _ t)
    (refine wpAny_bind (wpAny_seqItems atS rfl ?_))
    (show wpAny _ A.in1 (tryCatch (pyNext (.ref I)) _ >>= _) _ _ t)
    refine wpAny_bind (wpAny_tryCatch (Wk.done t _ _ (e1 ▸ st) fun t' mv => ?_))
    have atU := (mv.heap S _ Sw atS).1 Sf
    (show wpAny _ A.in1 (updateSeq S (fun _ => #[]) >>= _) _ _ _)
    refine wpAny_bind (wpAny_updateSeq atU rfl (wpAny_bind (wpAny_letGo (wpAny_pure ?_))))
    exact want vb _ (by rw [← e1]; exact pb) (mv.wrote fun b o n it => other _ _ b o n it)
  | succ k again =>
    intro j t vb c ek jl st pb atS want
    have lt : j + 1 < n := by omega
    (refine codeAny_builtin F.entry_min_loop ?_)
    (rw [Around.under_plainId F.plain_min_loop _])
    (show wpAny _ A.in1 (seqItems? (.ref S) >>= _) _ _ t)
    (refine wpAny_bind (wpAny_seqItems atS rfl ?_))
    (show wpAny _ A.in1 (tryCatch (pyNext (.ref I)) _ >>= _) _ _ t)
    refine wpAny_bind (wpAny_tryCatch (Wk.item (j + 1) t _ _ lt st fun v u pv su mv => ?_))
    have atU := (mv.heap S _ Sw atS).1 Sf
    (show wpAny _ A.in1 (tryCatch (holding [v, v] (richCompare .Lt v vb >>= _)) _ >>= _) _ _ _)
    refine wpAny_bind (wpAny_tryCatch (wpAny_holding (wpAny_bind (less (j + 1) (argBest bt j) v vb _ _ _ pv pb ?_))))
    refine wpAny_bind (wpAny_holding (wpAny_truthy_bool (wpAny_bind (wpAny_letGo (wpAny_pure ?_)))))
    cases eb : bt (j + 1) (argBest bt j) with
    | true =>
      (simp only [if_true])
      refine wpAny_bind (wpAny_updateSeq atU rfl (wpAny_bind (wpAny_letGo ?_)))
      rw [nm]
      refine wpAny_pure ⟨plainId_quiet F.plain_min_loop _, again (j + 1) _ v _ (by omega) lt (fr _ u _ u.toks su fun b o n it => other _ _ b o n it) (by simp only [argBest, eb, if_true]; exact pv) (Heap.get?_update_self _ atU rfl) fun v' t' pv' mv2 => ?_⟩
      exact want v' t' pv' ((mv.wrote fun b o n it => other _ _ b o n it).trans mv2)
    | false =>
      (simp only [Bool.false_eq_true, if_false])
      (refine wpAny_bind (wpAny_letGo ?_))
      rw [nm]
      refine wpAny_pure ⟨plainId_quiet F.plain_min_loop _, again (j + 1) _ vb c (by omega) lt su (by simp only [argBest, eb, Bool.false_eq_true, if_false]; exact pb) atU fun v' t' pv' mv2 => ?_⟩
      exact want v' t' pv' ((mv.wide fun b hb => List.mem_cons_of_mem _ hb).trans mv2)
theorem call_minV {E : Value → Shared → Prop} {s : Shared} {x : Value} {Q : Value → Shared → Prop}
    (h : wpAny (model prog w) A.in1 (pyIter x) (fun it t => ∃ I wr fs n P St bt, it = .ref I ∧ WalksV prog w A.in1 I wr fs n P St ∧ St 0 t ∧ 0 < n ∧ CmpOf prog w A.in1 .Lt P bt ∧ t.heap.objs.size ∉ wr ∧ t.heap.objs.size ∉ fs ∧
      (∀ i (t2 : Shared) h' tk, St i t2 → (∀ b o, b ≠ t.heap.objs.size → t2.heap.get? b = some o → h'.get? b = some o) → St i { t2 with heap := h', toks := tk }) ∧
      ∀ v (t' : Shared), P (argBest bt (n - 1)) v → MovedV wr fs t t' → Q v t') E s) : (wpAny (model prog w) A (call (.builtin "min") [x]) Q E s) := by
  have nm : (toString "min" ++ toString ".loop" : String) = "min.loop" := by decide
  (refine call_function_tree F.kind_min F.plain_min F.entry_min (F.args_min1 _) ?_)
  (show wpAny _ A.in1 (Builtin.Builtins.bindParams "min" ["key", "default"] 0 ⟨[], []⟩ >>= _) _ _ s)
  refine wpAny_bind (wpAny_of_eq (rfl : Builtin.Builtins.bindParams "min" ["key", "default"] 0 ⟨[], []⟩ = pure [none, none]) (wpAny_bind (wpAny_pure (wpAny_bind (wpAny_mono h (fun it t ht => ?_) fun _ _ z => z)))))
  obtain ⟨I, wr, fs, n, P, St, bt, rfl, Wk, st, n0, less, Sw, Sf, fr, want⟩ := ht
  (refine wpAny_bind (wpAny_newObj_type ?_))
  rw [nm]
  have kept : ∀ b o, t.heap.get? b = some o → (t.heap.push { cls := .type "list", data := .seq #[] }).get? b = some o := fun b o it => Heap.get?_push_of_some _ it
  have other : ∀ (f : Obj → Obj) (h0 : Heap) b o, b ≠ t.heap.objs.size → h0.get? b = some o → (h0.update t.heap.objs.size f).get? b = some o := fun f h0 b o n it => (Heap.get?_update_other _ _ (Ne.symm n)).trans it
  have atS : (t.heap.push { cls := .type "list", data := .seq #[] }).get? t.heap.objs.size = some { cls := .type "list", dict := none, data := .seq #[], slots := #[] } := Heap.get?_push_size _ rfl
  (refine wpAny_pure ⟨plainId_quiet F.plain_min_loop _, ?_⟩)
  (refine codeAny_builtin F.entry_min_loop ?_)
  (rw [Around.under_plainId F.plain_min_loop _])
  show wpAny _ A.in1 (seqItems? (.ref t.heap.objs.size) >>= _) _ _ _
  (refine wpAny_bind (wpAny_seqItems atS rfl ?_))
  (show wpAny _ A.in1 (tryCatch (pyNext (.ref I)) _ >>= _) _ _ _)
  refine wpAny_bind (wpAny_tryCatch (Wk.item 0 _ _ _ n0 (fr 0 t _ t.toks st fun b o _ it => kept b o it) fun v u pv su mv => ?_))
  have atU := (mv.heap _ _ Sw atS).1 Sf
  show wpAny _ A.in1 (updateSeq t.heap.objs.size (fun _ => #[v, v]) >>= _) _ _ _
  refine wpAny_bind (wpAny_updateSeq atU rfl ?_)
  rw [nm]
  refine wpAny_pure ⟨plainId_quiet F.plain_min_loop _, min_loopV Wk _ Sw Sf fr bt less _ 0 _ v _ rfl n0 (fr _ u _ u.toks su fun b o n it => other _ _ b o n it) pv (Heap.get?_update_self _ atU rfl) fun v' t' pv' mv2 => ?_⟩
  have m3 := (mv.wrote (S := t.heap.objs.size) (tk := u.toks) fun b o n it => other (Obj.mapSeq fun _ => #[v, v]) _ b o n it).trans mv2
  refine want v' t' pv' ⟨m3.os, m3.bare, fun b o nb it => m3.heap b o (fun z => ?_) (kept b o it)⟩
  rcases List.mem_cons.mp z with e | e
  · exact Nat.lt_irrefl _ (e ▸ Heap.lt_size it)
  · exact nb e
end
end V3
/-! zip of lists and tuples alike; min over a generator expression; a whole number as a test; products. -/
namespace V3
open PySem.Spec PySem L2 PyProof.Rows GxR RZ
section
variable {X : Cx}
/-- for a, b in zip(t, u), lists or tuples -/
theorem ir_zipK {P : Addr} {e1 e2 : Expr} {a b : Str} {pa pb tp pe pe2 : Pos} {kk : Nat} {scope : Scope} {ta : TA} (hge : Gl X "zip") (hme : X.mg "zip" = none) (ha : PA X [e1, e2] ta) (kd : scope.kind = .function) (ka : scope.names.lookup a = some .local) (kb : scope.names.lookup b = some .local) (ab : (a = b) = False)
    (hs : starEach [e1, e2] X.env = (false, eval e1 X.env) :: starEach [e2] X.env := by rfl) (hpl : (backTo pe2 (starEach [e2] X.env)).any (·.1) = false := by rfl) : IR X P (.Call (.Name "zip" pe) [e1, e2] [] pe2) (.Tuple [.Name a pa, .Name b pb] kk tp) scope (tiZK X P a b ta) := by
  refine ⟨fun pins s σ H Kq R I h go => ?_⟩
  refine Call_ (ld_blt I hge hme PyProof.Rows.boot_zip (PyProof.Rows.callWith_type1 (thn (ha.run pe2 pins s σ H _ I h) fun us s0 ⟨vs, H1, I0, rvs0, lp, lq, xs, ys, evs, hsx, hsy, tab, kq⟩ => ?_) hs hpl))
  subst evs
  obtain ⟨up, uq, rfl, rp, rq⟩ : ∃ up uq, us = [up, uq] ∧ RelV (.ref lp) up ∧ RelV (.ref lq) uq := by
    cases rvs0 with
    | cons r rr =>
      cases rr with
      | cons r2 rr =>
        cases rr
        exact ⟨_, _, rfl, r, r2⟩
  cases (show up = Value.ref lp from rp)
  cases (show uq = Value.ref lq from rq)
  obtain ⟨ax, itx, o1, Hs1, Rd1, rvx, bg1, hh1, drw1, stt1, lv1⟩ := src_of I0 tab hsx
  obtain ⟨ay, ity, o2, Hs2, Rd2, rvy, bg2, hh2, drw2, stt2, lv2⟩ := src_of I0 tab hsy
  refine zip_begins2 bg1 bg2 hh1 hh2 fun hz isz isTI isTO at1 at2 szz keptz => wpAny_pyIter_zip isz ?_
  have frl := frsLow I0
  have tl := tabLow I0 tab
  have lx := ax.low
  have ly := ay.low
  have e1 : itx.toArray.size = xs.length := by
    rw [List.size_toArray]
    exact rvx.length.symm
  have e2 : ity.toArray.size = ys.length := by
    rw [List.size_toArray]
    exact rvy.length.symm
  have sep : ZipSep2 (s0.heap.objs.size + 4) (s0.heap.objs.size + 2) (s0.heap.objs.size + 3) s0.heap.objs.size (s0.heap.objs.size + 1) [s0.heap.objs.size, lp] [s0.heap.objs.size + 1, lq] :=
    zip_sep2 (fun b hb => by rw [List.mem_singleton.mp hb]; exact lx) (fun b hb => by rw [List.mem_singleton.mp hb]; exact ly)
  refine go H1 s0 hz (s0.heap.objs.size + 4) ((s0.heap.objs.size + 4) :: (s0.heap.objs.size + 2) :: (s0.heap.objs.size + 3) :: ([s0.heap.objs.size, lp] ++ [s0.heap.objs.size + 1, lq])) [s0.heap.objs.size + 4, s0.heap.objs.size + 3, s0.heap.objs.size, s0.heap.objs.size + 1] (min xs.length ys.length) (rowZ a b xs ys)
    (fun i h => IsZip h (s0.heap.objs.size + 4) (s0.heap.objs.size + 2) (s0.heap.objs.size + 3) .none ∧ IsTupOf2 h (s0.heap.objs.size + 2) (.ref s0.heap.objs.size) (.ref (s0.heap.objs.size + 1)) ∧ (∃ a1 a2, IsTupOf2 h (s0.heap.objs.size + 3) a1 a2) ∧ Rd1 s0.heap.objs.size i h ∧ Rd2 (s0.heap.objs.size + 1) i h) I0 tab
    ⟨keptz, by rw [szz]; exact Nat.le_add_right _ _, fun ce hsc hlo => ?_, fun b hb => ?_, ⟨isz, isTI, ⟨_, _, isTO⟩, stt1 _ _ at1 (bg1.keeps _ _ hh1 keptz), stt2 _ _ at2 (bg2.keeps _ _ hh2 keptz)⟩, fun b hb => ?_, fun b hb => ?_, fun b hb => ?_, fun b hb => ?_⟩ (fun i h st b hb => by
      obtain ⟨e, _, ⟨_, _, e2⟩, st1, st2⟩ := st
      (simp only [List.mem_cons, List.not_mem_nil, or_false] at hb)
      rcases hb with z | z | z | z
      · rw [z]
        exact ⟨_, e⟩
      · rw [z]
        exact ⟨_, e2⟩
      · rw [z]
        exact lv1 _ _ _ st1
      · rw [z]
        exact lv2 _ _ _ st2) kq
  · rw [← e1, ← e2]
    refine (Draws2.pair (fun B hB => WalksT.zipD2 (A := B) sep (drw1 _ (by exact hB) s0.heap.objs.size (Nat.ne_of_lt lx)) (drw2 _ (by exact hB) (s0.heap.objs.size + 1) (Nat.ne_of_lt (Nat.lt_succ_of_lt ly)))) (fun i vals pt => ?_) (by show ce.scope.names.lookup a = _; rw [hsc]; exact ka) (by show ce.scope.names.lookup b = _; rw [hsc]; exact kb) ab (by rw [hsc]; simp [kd]) hlo).mono fun i mp ⟨x, y, ⟨x', y', hx, hy, exy⟩, ma, mb⟩ => ?_
    · obtain ⟨x, y, _, _, e⟩ := pt
      exact ⟨_, _, e⟩
    · have e : x = x' ∧ y = y' := by simpa using exy
      obtain ⟨rfl, rfl⟩ := e
      have hx : itx[i]? = some x := by simpa using hx
      have hy : ity[i]? = some y := by simpa using hy
      obtain ⟨v, hv, r⟩ := vals_at rvx hx
      obtain ⟨v2, hv2, r2⟩ := vals_at rvy hy
      exact ⟨v, v2, x, y, hv, hv2, ma, mb, r, r2⟩
  · simp only [List.mem_cons, List.mem_append, List.not_mem_nil, or_false] at hb ⊢
    rcases hb with z | z | z | z <;> simp [z]
  · rw [szz]
    simp only [List.mem_cons, List.mem_append, List.not_mem_nil, or_false] at hb
    have lx' : (lp : Nat) < s0.heap.objs.size := lx
    have ly' : (lq : Nat) < s0.heap.objs.size := ly
    rcases hb with z | z | z | ((z | z) | (z | z)) <;> subst z
    · exact Nat.add_lt_add_left (by decide) _
    · exact Nat.add_lt_add_left (by decide) _
    · exact Nat.add_lt_add_left (by decide) _
    · exact Nat.lt_add_of_pos_right (by decide)
    · exact Nat.lt_of_lt_of_le lx' (Nat.le_add_right _ _)
    · exact Nat.add_lt_add_left (by decide) _
    · exact Nat.lt_of_lt_of_le ly' (Nat.le_add_right _ _)
  · (simp only [List.mem_cons, List.not_mem_nil, or_false] at hb)
    rcases hb with z | z | z | z <;> subst z
    · exact Nat.le_add_right _ _
    · exact Nat.le_add_right _ _
    · exact Nat.le_refl _
    · exact Nat.le_add_right _ _
  · simp only [List.mem_cons, List.mem_append, List.not_mem_nil, or_false] at hb
    rcases hb with z | z | z | ((z | z) | (z | z)) <;> subst z
    · exact Nat.ne_of_gt (Nat.lt_of_lt_of_le tl (Nat.le_add_right _ _))
    · exact Nat.ne_of_gt (Nat.lt_of_lt_of_le tl (Nat.le_add_right _ _))
    · exact Nat.ne_of_gt (Nat.lt_of_lt_of_le tl (Nat.le_add_right _ _))
    · exact Nat.ne_of_gt tl
    · exact ax.np
    · exact Nat.ne_of_gt (Nat.lt_of_lt_of_le tl (Nat.le_add_right _ _))
    · exact ay.np
  · intro z
    simp only [List.mem_cons, List.mem_append, List.not_mem_nil, or_false] at hb
    rcases hb with y | y | y | ((y | y) | (y | y)) <;> subst y
    · exact absurd (frl _ z) (Nat.not_lt_of_le (Nat.le_add_right _ _))
    · exact absurd (frl _ z) (Nat.not_lt_of_le (Nat.le_add_right _ _))
    · exact absurd (frl _ z) (Nat.not_lt_of_le (Nat.le_add_right _ _))
    · exact absurd (frl _ z) (Nat.not_lt_of_le (Nat.le_refl _))
    · exact ax.nf z
    · exact absurd (frl _ z) (Nat.not_lt_of_le (Nat.le_add_right _ _))
    · exact ay.nf z
end
section
variable {X : Cx} {H : Hp} {h : Heap} {σ : L2.St} {scope : Scope} {ce : Env} {B : Around} {mp : Str → Option Value} {Ok : Shared → Prop} {e e1 e2 : Expr} {P P1 P2 : V → Prop}
theorem ge_mul {p : Pos} (G : GF X H h σ scope ce B mp Ok) (a : GE X ce B Ok e1 P1) (b : GE X ce B Ok e2 P2) (q : ∀ x y, P1 x → P2 y → ∃ i j, x = .int i ∧ y = .int j ∧ CMulW i j ∧ P (.int (i * j))) : GE X ce B Ok (.BinOp e1 .Mult e2 p) P := fun Ex t ok => by
  refine wpAny_BinOp (thn (a Ex t ok) fun u1 t1 ⟨⟨x, r1, p1⟩, k1⟩ => thn (b Ex t1 (G.next _ _ ok k1)) fun u2 t2 ⟨⟨y, r2, p2⟩, k2⟩ => ?_)
  obtain ⟨i, j, rfl, rfl, cm, pv⟩ := q x y p1 p2
  obtain ⟨t', rfl⟩ := r1
  obtain ⟨t'', rfl⟩ := r2
  exact mul_int ⟨⟨.int _, ⟨_, rfl⟩, pv⟩, k1.trans (k2.trans ⟨rfl, k2.bare, KM.exact fun _ _ it => it⟩)⟩ cm.ok
/-- a whole number as a test -/
theorem gb_int {i : Int} (a : GE X ce B Ok e (· = .int i)) (he : ∀ whole, isTrue e ce whole = (do let v ← whole; standAt e.pos; holding [v] (truthy v)) := by intro _; rfl) : GB X ce B Ok e (i != 0) := fun Ex t ok => by
  refine isTrue_plain (thn (a Ex t ok) fun u1 t1 ⟨⟨x, r1, p1⟩, k1⟩ => ?_) (he _)
  subst p1
  obtain ⟨t', rfl⟩ := r1
  exact PyProof.Rows.truthy_int ⟨rfl, k1⟩
end
section
variable {X : Cx}
variable {pins : List (Addr × Obj)} {σ : L2.St} {H1 : Hp} {P g : Addr} {t5 : Shared} {wr' fs' : List Addr} {St' : Nat → Shared → Prop} {L : List Nat} {pos : Pos} {Q : VK}
theorem min_endT {val : Nat → Int} (Sg : Stands X g t5 wr' fs' L.length (fun j y => ∃ i, L[j]? = some i ∧ ∃ v, RelV v y ∧ v = .int (val i)) St') (on : ∀ t', MovedV wr' fs' t5 t' → ∃ H2, Tabbed P H1 H2 ∧ Inv X pins σ H2 t') (n0 : 0 < L.length)
    (q : ∀ H2 (i : Nat), Tabbed P H1 H2 → i ∈ L → (∀ j ∈ L, val i ≤ val j) → Q (.int (val i)) H2) :
    wpAny (model X.prog X.w) X.A (spliced (backTo pos (starEach [] X.env))) (fun vs t6 => wpAny (model X.prog X.w) X.A (call (.builtin "min") (.ref g :: vs)) (EP X pins σ Q) X.xe t6) X.xe t5 := by
  refine Calls.spliced_nil (call_minV ?_)
  refine Sg.walk.in4.self _ _ _ Sg.st ⟨g, _, _, _, _, _, _, rfl, Sg.walk.in4, Sg.st, n0, CmpOf.ints_lt (fun j => ((L[j]?).map val).getD 0) (fun j y hy => isI_of hy), fun z => Nat.lt_irrefl _ (Sg.wlow _ z), fun z => Nat.lt_irrefl _ (Sg.flow _ z), fun i t2 h' tk st2 k2 => Sg.frame i t2 h' tk _ (Nat.le_refl _) st2 k2, fun v t' pv mv => ?_⟩
  obtain ⟨H2, tb, J⟩ := on t' mv
  obtain ⟨i, hi, v2, r, rfl⟩ := pv
  obtain ⟨le, best⟩ := argBest_lt (fun j => ((L[j]?).map val).getD 0) (L.length - 1)
  refine ⟨.int (val i), H2, J, r, q H2 i tb (List.mem_of_getElem? hi) fun j hj => ?_⟩
  obtain ⟨k, hk⟩ := List.getElem?_of_mem hj
  have kl := (List.getElem?_eq_some_iff.mp hk).1
  have := best k (by omega)
  rw [hk, hi] at this
  exact this
def tMinG (X : Cx) (P : Addr) (scope : Scope) (ifs : List Expr) (elt : Expr) (ti : TI) : TE := fun σ H Q => ti σ H fun n Row H1 => ∃ (pz : Nat → Bool) (val : Nat → Int), Asks X scope σ H1 Row ifs elt pz (fun i v => v = .int (val i)) ∧ 0 < ((List.range n).filter pz).length ∧
  ∀ H2 i, Tabbed P H1 H2 → i < n → pz i = true → (∀ j, j < n → pz j = true → val i ≤ val j) → Q (.int (val i)) H2
variable {c : Addr} {iter tgt elt : Expr} {ifs : List Expr} {p gpos : Pos} {scope : Scope} {ti : TI} {k : Nat}
theorem pe_minG (hr : Room k X.A) (hg : Gl X "min") (hma : X.mg "min" = none) (TB : TabB X.base X.mg c P) (hcode : X.env.code = .ref c) (S : GenS0 X.env scope) (hi : IR X P iter tgt scope ti) (nofold : ∀ v, genFold iter X.env v = pure v)
    (he : starEach [genG elt iter tgt ifs scope gpos] X.env = (false, eval (genG elt iter tgt ifs scope gpos) X.env) :: starEach [] X.env := by rfl) : PE X (.Call (.Name "min" p) [genG elt iter tgt ifs scope gpos] [] pos) (tMinG X P scope ifs elt ti) := by
  (refine ⟨fun pins s σ H Q I h => ?_⟩)
  refine wpAny_Call_Name_kw (ld_blt (u := .builtin "min") I hg hma (by decide +kernel) ?_)
  refine PyProof.Rows.callWith_builtin1 (id := "min") ?_ he (by rfl)
  rw [he]
  show wpAny _ _ (spliced ((false, eval (genG elt iter tgt ifs scope gpos) X.env) :: backTo pos (starEach [] X.env))) _ _ s
  refine Calls.spliced_cons (genexpD hr.hd S.co (closure_ok S.free) S.cell S.dot S.kind (by have := hr.dp; omega) ?_ nofold)
  refine hi.run pins s σ H _ _ I h fun H1 s0 hz I fp wr n Bd St I0 tab rdy _ ⟨pz, val, ask, n0, q⟩ => ?_
  exact gen_coreT (F := fun i v => v = .int (val i)) (pz := pz) I0 hr TB hcode S rdy tab (fun ce B mp Ok i bd G => ask.tst _ I0.hok ce B mp Ok i bd G) (fun ce B mp Ok i bd pi G => ask.elt _ I0.hok ce B mp Ok i bd pi G) (fun g t5 wr' fs' St' Sg on => min_endT (P := P) (H1 := H1) Sg on n0 fun H2 i tb mi le =>
    q H2 i tb (List.mem_range.mp (List.mem_filter.mp mi).1) (List.mem_filter.mp mi).2 fun j hj pj => le j (List.mem_filter.mpr ⟨List.mem_range.mpr hj, pj⟩))
end
end V3
set_option maxHeartbeats 8000000
namespace V3
open PySem.Spec PySem L2 PyProof.Rows RZ GxR
theorem intAt {xs : List Int} {i : Nat} {v : V} (h : (xs.map V.int)[i]? = some v) : ∃ z, xs[i]? = some z ∧ v = .int z := by
  rw [List.getElem?_map] at h
  obtain ⟨z, hz, rfl⟩ := Option.map_eq_some_iff.mp h
  exact ⟨z, hz, rfl⟩
theorem getDAt {xs : List Int} {i : Nat} {z : Int} (h : xs[i]? = some z) : xs.getD i 0 = z := by
  rw [List.getD_eq_getElem?_getD, h]
  rfl
/-- the sum of products, place by place -/
def dotP (xs ys : List Int) : Int := ((List.range (min xs.length ys.length)).map fun i => xs.getD i 0 * ys.getD i 0).sum
section
variable {mg : Str → Option Value} {base : Heap} {K : PySem.W.Frag} {P : Program} {w : World}
def spDotK (K : PySem.W.Frag) (Pd : Addr) : Sp := fun vs H Q _ => ∃ (p q : Addr) (xs ys : List Int) (m : Nat), vs = [.ref p, .ref q] ∧ SqK K H p (xs.map V.int) ∧ SqK K H q (ys.map V.int) ∧ TabG H Pd ∧ (∀ x ∈ xs, x.natAbs < 2 ^ m) ∧ (∀ y ∈ ys, y.natAbs < 2 ^ m) ∧ 0 < m ∧ m ≤ 400000 ∧
  ∀ H', Tabbed Pd H H' → Q (.int (dotP xs ys)) H'
theorem ok_dotK (T : Gs K mg) {c Pd : Addr} (TB : TabB base mg c Pd) (F : AtC K mg "dot" s_dot c) : Df P w K mg base "dot" 2 ["one", "other"] (spDotK K Pd) := by
  have sc := sc_dot
  refine Df.mkC F sc (fun vs H Q E h => ?_) (fun _ _ _ _ _ _ us hl => match us, hl with | [_, _], _ => rfl) (fun f A outer s H vs Q E hr h => ?_)
  · obtain ⟨p, q, xs, ys, m, rfl, _⟩ := h
    rfl
  · obtain ⟨p, q', xs, ys, m, rfl, hp, hq, tab, bx, by', m0, ml, q⟩ := h
    refine ⟨_, (pss_one (ps_ret (pe_sumG (P := Pd) hr (by rfl) T.sum TB rfl ⟨rfl, rfl, by decide +kernel, rfl, by
      intro y hy e
      simp only [List.mem_cons, List.not_mem_nil, or_false] at hy
      rcases hy with rfl | rfl | rfl <;> first | exact ⟨_, rfl⟩ | cases e⟩ (ir_zipK (by rfl) T.zip (pa_cons (pv 0) (pa_cons (pv 1) pa_nil)) rfl rfl rfl (by simp; decide)) (fun _ => rfl)))), ?_⟩
    refine ⟨_, rfl, _, rfl, p, q', _, _, rfl, hp, hq, tab, (fun _ => true), (fun i => xs.getD i 0 * ys.getD i 0), ⟨fun h ok ce B mp Ok i row G => gt_none G, fun h ok ce B mp Ok i row pi G => ?_⟩, fun H2 tb => ?_⟩
    · obtain ⟨x, y, u, u', hx, hy, ma, mb, r, r'⟩ := row
      obtain ⟨x', hx', rfl⟩ := intAt hx
      obtain ⟨y', hy', rfl⟩ := intAt hy
      refine ge_mul G (P1 := (· = .int x')) (P2 := (· = .int y')) (ge_loc G rfl ma r rfl) (ge_loc G rfl mb r' rfl) ?_
      rintro _ _ rfl rfl
      refine ⟨_, _, rfl, rfl, wide_mul (bx _ (List.mem_of_getElem? hx')) (by' _ (List.mem_of_getElem? hy')) m0 m0 (by omega), ?_⟩
      show V.int (x' * y') = V.int (xs.getD i 0 * ys.getD i 0)
      rw [getDAt hx', getDAt hy']
    · have e : (List.range (min (xs.map V.int).length (ys.map V.int).length)).filter (fun _ => true) = List.range (min xs.length ys.length) := by
        rw [List.filter_eq_self.mpr (fun _ _ => rfl), List.length_map, List.length_map]
      rw [e]
      exact q H2 tb
abbrev s_first_place : Stmt := topS 18
abbrev N_first_place : List Str := ["row", "place", "number"]
theorem sc_first_place : FnScope N_first_place ["row"] (defScope s_first_place) := ⟨rfl, rfl, rfl, by decide +kernel, rfl, by decide +kernel, by decide +kernel⟩
def spPlace (K : PySem.W.Frag) (Pf : Addr) : Sp := fun vs H Q _ => ∃ (p : Addr) (xs : List Int), vs = [.ref p] ∧ SqK K H p (xs.map V.int) ∧ TabG H Pf ∧ (∃ x ∈ xs, x ≠ 0) ∧
  ∀ H' (i : Nat), Tabbed Pf H H' → i < xs.length → xs.getD i 0 ≠ 0 → (∀ j, j < i → xs.getD j 0 = 0) → Q (.int i) H'
theorem ok_first_place (T : Gs K mg) {c Pf : Addr} (TB : TabB base mg c Pf) (F : AtC K mg "first_place" s_first_place c) : Df P w K mg base "first_place" 2 ["row"] (spPlace K Pf) := by
  have sc := sc_first_place
  refine Df.mkC F sc (fun vs H Q E h => ?_) (fun _ _ _ _ _ _ us hl => match us, hl with | [_], _ => rfl) (fun f A outer s H vs Q E hr h => ?_)
  · obtain ⟨p, xs, rfl, _⟩ := h
    rfl
  · obtain ⟨p, xs, rfl, hp, tab, some0, q⟩ := h
    refine ⟨_, (pss_one (ps_ret (pe_minG (P := Pf) hr (by rfl) T.min TB rfl ⟨rfl, rfl, by decide +kernel, rfl, by
      intro y hy e
      simp only [List.mem_cons, List.not_mem_nil, or_false] at hy
      rcases hy with rfl | rfl | rfl <;> first | exact ⟨_, rfl⟩ | cases e⟩ (ir_enumK (by rfl) T.enumerate (pa_cons (pv 0) pa_nil) rfl rfl rfl (by simp; decide)) (fun _ => rfl)))), ?_⟩
    refine ⟨_, rfl, p, _, rfl, hp, tab, (fun i => xs.getD i 0 != 0), (fun i => (i : Int)), ⟨fun h ok ce B mp Ok i row G => ?_, fun h ok ce B mp Ok i row pi G => ?_⟩, ?_, fun H2 i tb hi pi le => ?_⟩
    · obtain ⟨x, u, t, hx, ma, mb, r⟩ := row
      obtain ⟨x', hx', rfl⟩ := intAt hx
      show GT _ ce B Ok _ (xs.getD i 0 != 0)
      rw [getDAt hx']
      exact gt_one (gb_int (ge_loc (P := (· = .int x')) G rfl mb r rfl))
    · obtain ⟨x, u, t, hx, ma, mb, r⟩ := row
      exact ge_loc (v := .int (i : Int)) G rfl ma ⟨t, rfl⟩ rfl
    · obtain ⟨x, hx, x0⟩ := some0
      (obtain ⟨j, hj⟩ := List.getElem?_of_mem hx)
      refine List.length_pos_of_mem (a := j) (List.mem_filter.mpr ⟨List.mem_range.mpr ?_, ?_⟩)
      · rw [List.length_map]
        exact (List.getElem?_eq_some_iff.mp hj).1
      · rw [getDAt hj]
        exact bne_iff_ne.mpr x0
    · rw [List.length_map] at hi
      refine q H2 i tb hi (bne_iff_ne.mp pi) fun j hj => ?_
      cases e : xs.getD j 0 != 0 with
      | false => exact bne_eq_false_iff_eq.mp e
      | true =>
        have : (i : Int) ≤ (j : Int) := le j (by rw [List.length_map]; omega) e
        omega
end
end V3
set_option maxHeartbeats 8100000
/-! zip of any number of lists: one turn. -/
namespace V3
open PySem.Spec PySem L2 PyProof.Rows GxR RZ
/-- iterators over lists, each at its place -/
def ItRows (h : Heap) (js ls : List Addr) (rs : List (List Value)) (f : Nat → Nat) : Prop :=
  ∀ (k : Nat) (j l : Addr) (r : List Value), js[k]? = some j → ls[k]? = some l → rs[k]? = some r → h.IsListIter j l (f k) ∧ h.IsList l r.toArray
structure SepN (z TI TO : Addr) (js ls : List Addr) (rs : List (List Value)) : Prop where
  zI : TI ≠ z
  zO : TO ≠ z
  IO : TI ≠ TO
  zj : z ∉ js
  zl : z ∉ ls
  Ij : TI ∉ js
  Oj : TO ∉ js
  Ol : TO ∉ ls
  nd : js.Nodup
  jl : ∀ j ∈ js, j ∉ ls
  l1 : js.length = ls.length
  l2 : js.length = rs.length
theorem ItRows.keep {h h' : Heap} {js ls : List Addr} {rs : List (List Value)} {f : Nat → Nat} (x : ItRows h js ls rs f) (e : ∀ b ∈ js ++ ls, ∀ o, h.get? b = some o → h'.get? b = some o) : ItRows h' js ls rs f := fun k j l r a b c => by
  obtain ⟨p, q⟩ := x k j l r a b c
  exact ⟨p.at fun o z => e j (List.mem_append_left _ (List.mem_of_getElem? a)) o z, q.at fun o z => e l (List.mem_append_right _ (List.mem_of_getElem? b)) o z⟩
theorem dropCons {α : Type} {l rest : List α} {a : α} {k : Nat} (h : a :: rest = l.drop k) : l[k]? = some a ∧ rest = l.drop (k + 1) ∧ k < l.length := by
  have e1 : (l.drop k)[0]? = some a := by rw [← h]; rfl
  rw [List.getElem?_drop, Nat.add_zero] at e1
  refine ⟨e1, ?_, (List.getElem?_eq_some_iff.mp e1).1⟩
  have e2 : (a :: rest).drop 1 = (l.drop k).drop 1 := by rw [h]
  rw [List.drop_drop] at e2
  exact e2
theorem dropNil {α : Type} {l : List α} {k : Nat} (h : [] = l.drop k) : l.length ≤ k := List.drop_eq_nil_iff.mp h.symm
theorem idxOne {js : List Addr} (nd : js.Nodup) {m k : Nat} {j : Addr} (a : js[m]? = some j) (b : js[k]? = some j) : m = k := by
  have h1 := (List.getElem?_eq_some_iff.mp a).1
  exact (List.getElem?_inj h1 nd).mp (by rw [a, b])
theorem ItRows.step {h h' : Heap} {js ls : List Addr} {rs : List (List Value)} {i k : Nat} {j l : Addr} (x : ItRows h js ls rs fun m => if m < k then i + 1 else i) (nd : js.Nodup) (jl : ∀ j ∈ js, j ∉ ls) (hj : js[k]? = some j) (hl : ls[k]? = some l) (it : h'.IsListIter j l (i + 1)) (e : Heap.ExtBut j h h') :
    ItRows h' js ls rs fun m => if m < k + 1 then i + 1 else i := fun m j2 l2 r a b c => by
  obtain ⟨p, q⟩ := x m j2 l2 r a b c
  have nl : l2 ≠ j := fun z => jl j (List.mem_of_getElem? hj) (z ▸ List.mem_of_getElem? b)
  refine ⟨?_, q.extBut e nl⟩
  by_cases em : m = k
  · subst em
    rw [hj] at a
    rw [hl] at b
    cases a
    cases b
    dsimp only
    rw [if_pos (Nat.lt_succ_self _)]
    exact it
  · have nj : j2 ≠ j := fun z => by
      subst z
      exact em (idxOne nd a hj)
    have p2 := p.extBut e nj
    dsimp only at p2 ⊢
    by_cases lk : m < k
    · rw [if_pos lk] at p2
      rw [if_pos (by omega)]
      exact p2
    · rw [if_neg lk] at p2
      rw [if_neg (by omega)]
      exact p2
section
variable {prog : Program} {w : World} {A : Around} {E : Value → Shared → Prop} {s : Shared} {z TI TO : Addr} {js ls : List Addr} {rs : List (List Value)} {i : Nat} {acc0 : Array Value}
theorem zipN_first {Q : Value → Shared → Prop} {xs : List Value} (S : SepN z TI TO js ls rs) (hz : IsZip s.heap z TI TO .none) (hTI : s.heap.get? TI = some { cls := .type "tuple", data := .seq (js.map Value.ref).toArray }) (hTO : s.heap.get? TO = some { cls := .type "tuple", data := .seq acc0 }) (sz : acc0.size = js.length) (n0 : 0 < js.length) (sm : js.length ≤ sizeLine)
    (st : ItRows s.heap js ls rs fun _ => i) (lx : xs.length = js.length) (hx : ∀ (k : Nat) r x, rs[k]? = some r → xs[k]? = some x → r[i]? = some x)
    (hQ : ∀ h', IsZip h' z TI TO (rawInt s.heap.objs.size) → h'.get? TO = some { cls := .type "tuple", data := .seq xs.toArray } → ItRows h' js ls rs (fun _ => i + 1) → h'.get? s.heap.objs.size = some { cls := .type "tuple", data := .seq xs.toArray } → h'.objs.size = s.heap.objs.size + 1 →
      (∀ c o, c ≠ z → c ≠ TO → c ∉ js → s.heap.get? c = some o → h'.get? c = some o) → Q (.ref s.heap.objs.size) { s with heap := h' }) :
    wpAny (model prog w) A (Builtin.«zip.__next__» ⟨[.ref z], []⟩) (fun fi s' => ∃ v, fi = .done (.ret v) ∧ Q v s') E s := by
  (obtain ⟨hp, g, d, tk, os⟩ := s)
  (show wpAny _ _ (field (.ref z) 2 >>= _) _ _ _)
  (refine wpAny_bind (wpAny_field hz rfl (x := .bool false) rfl ?_))
  (show wpAny _ _ (field (.ref z) 3 >>= _) _ _ _)
  (refine wpAny_bind (wpAny_field hz rfl (x := .ref TI) rfl ?_))
  (refine wpAny_bind (wpAny_seqItems hTI rfl ?_))
  have ne : (js.map Value.ref).toArray.isEmpty = false := by
    rw [Array.isEmpty_eq_false_iff]
    intro e
    have := congrArg Array.size e
    simp at this
    rw [this] at n0
    exact absurd n0 (by decide)
  dsimp only
  rw [if_neg (by rw [ne]; decide)]
  (show wpAny _ _ (Builtin.SmallTypes.ownedTupleIsFree (.ref z) >>= _) _ _ _)
  refine wpAny_bind ?_
  (unfold Builtin.SmallTypes.ownedTupleIsFree)
  (refine wpAny_bind (wpAny_field hz rfl (x := .none) rfl (wpAny_pure ?_)))
  simp only [if_true]
  (refine wpAny_bind (wpAny_rule ?_))
  (refine wpAny_bind (wpAny_field hz rfl (x := .ref TO) rfl ?_))
  dsimp only
  (refine wpAny_bind (wpAny_setField_rec hz (by simp) fun g0 hz0 hs0 => ?_))
  (replace hz0 : IsZip g0 z TI TO .ellipsis := hz0)
  (replace hs0 : Heap.SameBut z hp g0 := hs0)
  have hTO0 : g0.get? TO = some { cls := .type "tuple", data := .seq acc0 } := hs0.extBut _ _ S.zO hTO
  have st0 : ItRows g0 js ls rs fun m => if m < 0 then i + 1 else i := by
    have := st.keep (h' := g0) fun b hb o e => hs0.extBut _ _ (fun q => (List.mem_append.mp hb).elim (fun y => S.zj (q ▸ y)) fun y => S.zl (q ▸ y)) e
    exact this
  refine wpAny_bind (wpAny_forIn_list _ (fun rest b s' => b.1 = none ∧ ∃ (k : Nat) (h' : Heap) (acc : Array Value), rest = ((js.map Value.ref).zipIdx).drop k ∧ k ≤ js.length ∧ s' = ⟨h', g, d, tk, os⟩ ∧ IsZip h' z TI TO .ellipsis ∧ h'.get? TO = some { cls := .type "tuple", data := .seq acc } ∧ acc.size = js.length ∧ (∀ m, m < k → acc[m]? = xs[m]?) ∧
    ItRows h' js ls rs (fun m => if m < k then i + 1 else i) ∧ h'.objs.size = hp.objs.size ∧ ∀ c o, c ≠ z → c ≠ TO → c ∉ js → hp.get? c = some o → h'.get? c = some o) _ ?_ ?_ _ _ ⟨rfl, 0, g0, acc0, by simp, Nat.zero_le _, rfl, hz0, hTO0, sz, fun m hm => absurd hm (Nat.not_lt_zero _), st0, hs0.1, fun c o cz cT cj e => hs0.extBut _ _ cz e⟩)
  · rintro ⟨it, k0⟩ rest ⟨b1, b2⟩ s' ⟨eb, k, h', acc, er, kl, rfl, hzk, hTk, szk, acck, stk, hsz, hk⟩
    obtain ⟨ek, er2, _⟩ := dropCons er
    rw [List.getElem?_zipIdx, List.getElem?_map] at ek
    obtain ⟨v, hv, e3⟩ := Option.map_eq_some_iff.mp ek
    obtain ⟨j, hj, rfl⟩ := Option.map_eq_some_iff.mp hv
    obtain ⟨rfl, rfl⟩ : Value.ref j = it ∧ 0 + k = k0 := ⟨congrArg Prod.fst e3, congrArg Prod.snd e3⟩
    have klt : k < js.length := (List.getElem?_eq_some_iff.mp hj).1
    obtain ⟨l, hl⟩ : ∃ l, ls[k]? = some l := ⟨_, List.getElem?_eq_getElem (by rw [← S.l1]; exact klt)⟩
    obtain ⟨r, hr⟩ : ∃ r, rs[k]? = some r := ⟨_, List.getElem?_eq_getElem (by rw [← S.l2]; exact klt)⟩
    obtain ⟨x, hxk⟩ : ∃ x, xs[k]? = some x := ⟨_, List.getElem?_eq_getElem (by rw [lx]; exact klt)⟩
    obtain ⟨it1, il1⟩ := stk k j _ _ hj hl hr
    dsimp only at it1
    rw [if_neg (Nat.lt_irrefl _)] at it1
    have jm : j ∈ js := List.mem_of_getElem? hj
    refine wpAny_bind (wpAny_onRaise ?_)
    show wpAny _ _ (Builtin.SmallTypes.nextOf (.ref j) >>= _) _ _ _
    refine wpAny_bind (wpAny_nextOf_list_item it1 il1 (x := x) (by simpa using hx k _ _ hr hxk) fun p1 it2 hs1 => wpAny_pure ?_)
    replace hs1 : Heap.SameBut j h' p1 := hs1
    have hT1 : p1.get? TO = some { cls := .type "tuple", data := .seq acc } := hs1.extBut _ _ (fun q => S.Oj (q ▸ jm)) hTk
    have hz1 : IsZip p1 z TI TO .ellipsis := hs1.extBut _ _ (fun q => S.zj (q ▸ jm)) hzk
    dsimp only
    refine wpAny_bind (wpAny_seqItems (s := ⟨p1, g, d, tk, os⟩) hT1 rfl ?_)
    dsimp only
    refine wpAny_bind (wpAny_updateSeq (s := ⟨p1, g, d, tk, os⟩) hT1 rfl ?_ (by rw [szk]; exact sm) (by show (acc.setIfInBounds _ _).size ≤ _; rw [Array.size_setIfInBounds, szk]; exact Nat.le_succ_of_le sm))
    have hs2 : Heap.SameBut TO p1 (p1.update TO (Obj.mapSeq fun y => y.setIfInBounds (0 + k) x)) := Heap.SameBut.update ..
    have hT2 : (p1.update TO (Obj.mapSeq fun y => y.setIfInBounds (0 + k) x)).get? TO = some { cls := .type "tuple", data := .seq (acc.setIfInBounds (0 + k) x) } := by
      rw [Heap.get?_update_self _ hT1 rfl]
      simp [Obj.mapSeq]
    refine wpAny_bind (wpAny_letGo (wpAny_pure ⟨rfl, k + 1, _, acc.setIfInBounds (0 + k) x, er2, klt, rfl, hs2.extBut _ _ S.zO.symm hz1, hT2, by rw [Array.size_setIfInBounds, szk], fun m hm => ?_, ?_, by rw [hs2.1, hs1.1, hsz], fun c o cz cT cj e => hs2.extBut _ _ cT (hs1.extBut _ _ (fun q => cj (q ▸ jm)) (hk c o cz cT cj e))⟩))
    · rw [Array.getElem?_setIfInBounds]
      by_cases em : 0 + k = m
      · rw [if_pos em, if_pos (by omega), ← em, Nat.zero_add, hxk]
      · rw [if_neg em]
        exact acck m (by omega)
    · have st1 := stk.step S.nd S.jl hj hl it2 hs1.extBut
      exact st1.keep fun b hb o e => hs2.extBut _ _ (fun q => (List.mem_append.mp hb).elim (fun y => S.Oj (q ▸ y)) fun y => S.Ol (q ▸ y)) e
  · rintro ⟨b1, b2⟩ s' ⟨eb, k, h', acc, er, kl, rfl, hzk, hTk, szk, acck, stk, hsz, hk⟩
    have b1n : b1 = none := eb
    subst b1n
    have kn : k = js.length := by
      have := dropNil er
      rw [List.length_zipIdx, List.length_map] at this
      omega
    subst kn
    have ea : acc = xs.toArray := by
      refine Array.ext (by rw [szk, List.size_toArray, lx]) fun m h1 h2 => ?_
      have := acck m (by omega)
      rw [Array.getElem?_eq_getElem h1] at this
      have lm : m < xs.length := by omega
      rw [List.getElem?_eq_getElem lm] at this
      rw [Option.some.inj this]
      rfl
    subst ea
    dsimp only
    refine wpAny_bind (wpAny_seqItems (s := ⟨h', g, d, tk, os⟩) hTk rfl ?_)
    dsimp only
    refine wpAny_bind (wpAny_newTuple ?_ (by rw [lx]; exact sm))
    have hzlt : z < h'.objs.size := Heap.lt_size hzk
    have lt : ∀ {c o}, h'.get? c = some o → c ≠ h'.objs.size := fun e => Nat.ne_of_lt (Heap.lt_size e)
    show wpAny _ _ (Builtin.SmallTypes.ownedTupleHandOut (.ref z) (.ref h'.objs.size) >>= _) _ _ ⟨h'.push { cls := .type "tuple", data := .seq xs.toArray }, g, d, tk, os⟩
    refine wpAny_bind ?_
    (unfold Builtin.SmallTypes.ownedTupleHandOut)
    have hz6 : IsZip (h'.push { cls := .type "tuple", data := .seq xs.toArray }) z TI TO .ellipsis := Heap.get?_push_of_some _ hzk
    refine wpAny_bind (wpAny_setField_rec hz6 (by simp) fun h7 hz7 hs7 => ?_)
    replace hz7 : IsZip h7 z TI TO (rawInt h'.objs.size) := hz7
    refine wpAny_setField_rec hz7 (by simp) fun h8 hz8 hs8 => ?_
    replace hz8 : IsZip h8 z TI TO (rawInt h'.objs.size) := hz8
    replace hs7 : Heap.SameBut z (h'.push { cls := .type "tuple", data := .seq xs.toArray }) h7 := hs7
    replace hs8 : Heap.SameBut z h7 h8 := hs8
    have up : ∀ c o, c ≠ z → h'.get? c = some o → h8.get? c = some o := fun c o c1 e => hs8.extBut _ _ c1 (hs7.extBut _ _ c1 (Heap.get?_push_of_some _ e))
    have hT8 : h8.get? h'.objs.size = some { cls := .type "tuple", data := .seq xs.toArray } := hs8.extBut _ _ (Nat.ne_of_gt hzlt) (hs7.extBut _ _ (Nat.ne_of_gt hzlt) (Heap.get?_push_size _ rfl))
    have sz8 : h8.objs.size = h'.objs.size + 1 := by rw [hs8.1, hs7.1, Heap.size_push]
    have st8 : ItRows h8 js ls rs fun _ => i + 1 := by
      have h1 := stk.keep (h' := h8) fun b hb o e => up b o (fun q => (List.mem_append.mp hb).elim (fun y => S.zj (q ▸ y)) fun y => S.zl (q ▸ y)) e
      intro m j l r a b c
      have := h1 m j l r a b c
      dsimp only at this
      rw [if_pos (List.getElem?_eq_some_iff.mp a).1] at this
      exact this
    rw [hsz] at hz8 hT8 sz8
    (refine wpAny_pure ⟨_, rfl, ?_⟩)
    show Q (.ref h'.objs.size) ⟨h8, g, d, tk, os⟩
    rw [hsz]
    exact hQ h8 hz8 (up _ _ S.zO.symm.symm hTk) st8 hT8 sz8 fun c o cz cT cj e => up c o cz (hk c o cz cT cj e)
end
end V3
/-! zip of any number of lists: further turns, and the end. -/
namespace V3
open PySem.Spec PySem L2 PyProof.Rows GxR RZ
/-- a zip whose last tuple is held elsewhere -/
def ZipB (h : Heap) (z TI TO T : Addr) (b : Bool) : Prop := h.get? z = some { cls := .type "zip", dict := none, data := .fields #[rawInt T, .bool b, .bool false, .ref TI, .ref TO], slots := #[] }
theorem aliveQ {M : Model} {A : Around} {E : Value → Shared → Prop} {s : Shared} {a : Addr} {Q : Option Obj → Shared → Prop} (h : Q (s.heap.get? a) s) : wpAny M A (loadIfAlive a) Q E s := fun Γ p hΓ => by
  unfold loadIfAlive
  rw [Sem.wp_loadIfAlive]
  exact wpAny_pure h Γ p hΓ
section
variable {prog : Program} {w : World} {A : Around} {E : Value → Shared → Prop} {s : Shared} {z TI TO T : Addr} {js ls : List Addr} {rs : List (List Value)} {i : Nat} {b : Bool} {oT : Obj}
/-- the tuple is held: it is not free -/
theorem heldQ {Q : Bool → Shared → Prop} (hz : ZipB s.heap z TI TO T b) (hT : s.heap.get? T = some oT) (h : ∀ h', ZipB h' z TI TO T true → Heap.SameBut z s.heap h' → Q false { s with heap := h' }) : wpAny (model prog w) A (Builtin.SmallTypes.ownedTupleIsFree (.ref z)) Q E s := by
  (unfold Builtin.SmallTypes.ownedTupleIsFree)
  (refine wpAny_bind (wpAny_field hz rfl (x := rawInt T) rfl ?_))
  show wpAny _ _ (loadIfAlive (T : Int).toNat >>= _) _ _ _
  rw [Int.toNat_natCast]
  refine wpAny_bind (aliveQ ?_)
  rw [hT]
  show wpAny _ _ (field (.ref z) 1 >>= _) _ _ _
  refine wpAny_bind (wpAny_field hz rfl (x := .bool b) rfl ?_)
  cases b with
  | true =>
    refine wpAny_pure ?_
    have := h s.heap hz ⟨rfl, fun _ _ => rfl⟩
    exact this
  | false =>
    show wpAny _ _ (setField (.ref z) 1 (.bool true) >>= _) _ _ _
    refine wpAny_bind (wpAny_setField_rec hz (by simp) fun h' hz' hs' => wpAny_pure (h h' hz' hs'))
theorem zipN_more {Q : Value → Shared → Prop} {xs : List Value} (S : SepN z TI TO js ls rs) (hz : ZipB s.heap z TI TO T b) (hT : s.heap.get? T = some oT) (hTI : s.heap.get? TI = some { cls := .type "tuple", data := .seq (js.map Value.ref).toArray }) (n0 : 0 < js.length) (sm : js.length ≤ sizeLine)
    (st : ItRows s.heap js ls rs fun _ => i) (lx : xs.length = js.length) (hx : ∀ (k : Nat) r x, rs[k]? = some r → xs[k]? = some x → r[i]? = some x)
    (hQ : ∀ h', ZipB h' z TI TO T true → ItRows h' js ls rs (fun _ => i + 1) → h'.get? s.heap.objs.size = some { cls := .type "tuple", data := .seq xs.toArray } → h'.objs.size = s.heap.objs.size + 1 →
      (∀ c o, c ≠ z → c ∉ js → s.heap.get? c = some o → h'.get? c = some o) → Q (.ref s.heap.objs.size) { s with heap := h' }) :
    wpAny (model prog w) A (Builtin.«zip.__next__» ⟨[.ref z], []⟩) (fun fi s' => ∃ v, fi = .done (.ret v) ∧ Q v s') E s := by
  (obtain ⟨hp, g, d, tk, os⟩ := s)
  (show wpAny _ _ (field (.ref z) 2 >>= _) _ _ _)
  (refine wpAny_bind (wpAny_field hz rfl (x := .bool false) rfl ?_))
  (show wpAny _ _ (field (.ref z) 3 >>= _) _ _ _)
  (refine wpAny_bind (wpAny_field hz rfl (x := .ref TI) rfl ?_))
  (refine wpAny_bind (wpAny_seqItems hTI rfl ?_))
  have ne : (js.map Value.ref).toArray.isEmpty = false := by
    rw [Array.isEmpty_eq_false_iff]
    intro e
    have := congrArg Array.size e
    simp at this
    rw [this] at n0
    exact absurd n0 (by decide)
  dsimp only
  rw [if_neg (by rw [ne]; decide)]
  (show wpAny _ _ (Builtin.SmallTypes.ownedTupleIsFree (.ref z) >>= _) _ _ _)
  refine wpAny_bind (heldQ hz hT fun g0 hz0 hs0 => ?_)
  (replace hs0 : Heap.SameBut z hp g0 := hs0)
  rw [if_neg (by decide)]
  dsimp only
  rw [List.forIn_toArray]
  have st0 : ItRows g0 js ls rs fun m => if m < 0 then i + 1 else i := by
    have := st.keep (h' := g0) fun b hb o e => hs0.extBut _ _ (fun q => (List.mem_append.mp hb).elim (fun y => S.zj (q ▸ y)) fun y => S.zl (q ▸ y)) e
    exact this
  refine wpAny_bind (wpAny_forIn_list _ (fun rest b s' => b.1 = none ∧ ∃ (k : Nat) (h' : Heap), rest = (js.map Value.ref).drop k ∧ k ≤ js.length ∧ s' = ⟨h', g, d, tk, os⟩ ∧ b.2 = (xs.take k).toArray ∧ ZipB h' z TI TO T true ∧
    ItRows h' js ls rs (fun m => if m < k then i + 1 else i) ∧ h'.objs.size = hp.objs.size ∧ ∀ c o, c ≠ z → c ∉ js → hp.get? c = some o → h'.get? c = some o) _ ?_ ?_ _ _ ⟨rfl, 0, g0, rfl, Nat.zero_le _, rfl, rfl, hz0, st0, hs0.1, fun c o cz cj e => hs0.extBut _ _ cz e⟩)
  · rintro it rest ⟨b1, b2⟩ s' ⟨eb, k, h', er, kl, rfl, eb2, hzk, stk, hsz, hk⟩
    obtain ⟨ek, er2, _⟩ := dropCons er
    rw [List.getElem?_map] at ek
    obtain ⟨j, hj, rfl⟩ := Option.map_eq_some_iff.mp ek
    have klt : k < js.length := (List.getElem?_eq_some_iff.mp hj).1
    obtain ⟨l, hl⟩ : ∃ l, ls[k]? = some l := ⟨_, List.getElem?_eq_getElem (by rw [← S.l1]; exact klt)⟩
    obtain ⟨r, hr⟩ : ∃ r, rs[k]? = some r := ⟨_, List.getElem?_eq_getElem (by rw [← S.l2]; exact klt)⟩
    obtain ⟨x, hxk⟩ : ∃ x, xs[k]? = some x := ⟨_, List.getElem?_eq_getElem (by rw [lx]; exact klt)⟩
    obtain ⟨it1, il1⟩ := stk k j _ _ hj hl hr
    dsimp only at it1 eb2
    rw [if_neg (Nat.lt_irrefl _)] at it1
    subst eb2
    have jm : j ∈ js := List.mem_of_getElem? hj
    (refine wpAny_bind (wpAny_holding ?_))
    show wpAny _ _ (Builtin.SmallTypes.nextOf (.ref j) >>= _) _ _ _
    refine wpAny_bind (wpAny_nextOf_list_item it1 il1 (x := x) (by simpa using hx k _ _ hr hxk) fun p1 it2 hs1 => wpAny_pure ?_)
    replace hs1 : Heap.SameBut j h' p1 := hs1
    have hz1 : ZipB p1 z TI TO T true := hs1.extBut _ _ (fun q => S.zj (q ▸ jm)) hzk
    refine wpAny_pure ⟨rfl, k + 1, p1, er2, klt, rfl, ?_, hz1, stk.step S.nd S.jl hj hl it2 hs1.extBut, by rw [hs1.1, hsz], fun c o cz cj e => hs1.extBut _ _ (fun q => cj (q ▸ jm)) (hk c o cz cj e)⟩
    rw [take_more hxk]
    simp
  · rintro ⟨b1, b2⟩ s' ⟨eb, k, h', er, kl, rfl, eb2, hzk, stk, hsz, hk⟩
    have b1n : b1 = none := eb
    subst b1n
    have kn : k = js.length := by
      have := dropNil er
      rw [List.length_map] at this
      omega
    subst kn
    rw [← lx, List.take_length] at eb2
    dsimp only at eb2 ⊢
    subst eb2
    refine wpAny_bind (wpAny_newTuple ?_ (by rw [lx]; exact sm))
    have hzlt : z < h'.objs.size := Heap.lt_size hzk
    have st8 : ItRows (h'.push { cls := .type "tuple", data := .seq xs.toArray }) js ls rs fun _ => i + 1 := by
      have h1 := stk.keep (h' := h'.push { cls := .type "tuple", data := .seq xs.toArray }) fun b hb o e => Heap.get?_push_of_some _ e
      intro m j l r a b c
      have := h1 m j l r a b c
      dsimp only at this
      rw [if_pos (List.getElem?_eq_some_iff.mp a).1] at this
      exact this
    (refine wpAny_pure ⟨_, rfl, ?_⟩)
    show Q (.ref h'.objs.size) ⟨h'.push { cls := .type "tuple", data := .seq xs.toArray }, g, d, tk, os⟩
    have hT8 : (h'.push { cls := .type "tuple", data := .seq xs.toArray }).get? h'.objs.size = some { cls := .type "tuple", data := .seq xs.toArray } := Heap.get?_push_size _ rfl
    have sz8 : (h'.push { cls := .type "tuple", data := .seq xs.toArray }).objs.size = h'.objs.size + 1 := Heap.size_push ..
    rw [hsz] at hT8 sz8
    rw [hsz]
    exact hQ _ (Heap.get?_push_of_some _ hzk) st8 hT8 sz8 fun c o cz cj e => Heap.get?_push_of_some _ (hk c o cz cj e)
theorem zipN_end {Q : Fin → Shared → Prop} (hh : A.handled = none) (S : SepN z TI TO js ls rs) (hz : ZipB s.heap z TI TO T b) (hT : s.heap.get? T = some oT) (hTI : s.heap.get? TI = some { cls := .type "tuple", data := .seq (js.map Value.ref).toArray }) (n0 : 0 < js.length)
    (st : ItRows s.heap js ls rs fun _ => i) (hr0 : ∀ r, rs[0]? = some r → r.length = i)
    (hE : ∀ h' e, (∀ c o, c ≠ z → c ∉ js → s.heap.get? c = some o → h'.get? c = some o) → (∃ o, h'.get? e = some o ∧ o.cls = .type "StopIteration") → E (.ref e) { s with heap := h' }) :
    (wpAny (model prog w) A (Builtin.«zip.__next__» ⟨[.ref z], []⟩) Q E s) := by
  (obtain ⟨hp, g, d, tk, os⟩ := s)
  (show wpAny _ _ (field (.ref z) 2 >>= _) _ _ _)
  (refine wpAny_bind (wpAny_field hz rfl (x := .bool false) rfl ?_))
  (show wpAny _ _ (field (.ref z) 3 >>= _) _ _ _)
  (refine wpAny_bind (wpAny_field hz rfl (x := .ref TI) rfl ?_))
  (refine wpAny_bind (wpAny_seqItems hTI rfl ?_))
  obtain ⟨j, js', rfl⟩ : ∃ j js', js = j :: js' := by
    cases js with
    | nil => exact absurd n0 (by decide)
    | cons j js' => exact ⟨j, js', rfl⟩
  obtain ⟨l, hl⟩ : ∃ l, ls[0]? = some l := ⟨_, List.getElem?_eq_getElem (by rw [← S.l1]; exact n0)⟩
  obtain ⟨r, hr⟩ : ∃ r, rs[0]? = some r := ⟨_, List.getElem?_eq_getElem (by rw [← S.l2]; exact n0)⟩
  obtain ⟨it1, il1⟩ := st 0 j l r rfl hl hr
  dsimp only
  rw [if_neg (by simp)]
  (show wpAny _ _ (Builtin.SmallTypes.ownedTupleIsFree (.ref z) >>= _) _ _ _)
  refine wpAny_bind (heldQ hz hT fun g0 hz0 hs0 => ?_)
  (replace hs0 : Heap.SameBut z hp g0 := hs0)
  rw [if_neg (by decide)]
  dsimp only
  rw [List.forIn_toArray, List.map_cons, List.forIn_cons]
  refine wpAny_bind (wpAny_bind (wpAny_bind (wpAny_holding ?_)))
  show wpAny _ _ (Builtin.SmallTypes.nextOf (.ref j) >>= _) _ _ _
  have zj : j ≠ z := fun q => S.zj (q ▸ List.mem_cons_self ..)
  have zl : l ≠ z := fun q => S.zl (q ▸ List.mem_of_getElem? hl)
  refine wpAny_bind (wpAny_nextOf_list_end (s := ⟨g0, g, d, tk, os⟩) hh (it1.extBut hs0.extBut zj) (il1.extBut hs0.extBut zl) (by simp; exact Nat.le_of_eq (hr0 r hr)) fun h' e hs1 he => ?_)
  replace hs1 : Heap.ExtBut j g0 h' := hs1
  exact hE h' e (fun c o cz cj x => hs1 _ _ (fun q => cj (q ▸ List.mem_cons_self ..)) (hs0.extBut _ _ cz x)) he
end
end V3
/-! list(zip(..)) of any number of lists: the loop. -/
namespace V3
open PySem.Spec PySem L2 PyProof.Rows GxR RZ
section
variable {prog : Program} {w : World} {A : Around} {E : Value → Shared → Prop} {s : Shared} {z TI TO T : Addr} {js ls : List Addr} {rs : List (List Value)} {i : Nat} {b : Bool} {oT : Obj} {acc0 : Array Value}
theorem pyNextN_first {Q : Option Value → Shared → Prop} {xs : List Value} (S : SepN z TI TO js ls rs) (hz : IsZip s.heap z TI TO .none) (hTI : s.heap.get? TI = some { cls := .type "tuple", data := .seq (js.map Value.ref).toArray }) (hTO : s.heap.get? TO = some { cls := .type "tuple", data := .seq acc0 }) (sz : acc0.size = js.length) (n0 : 0 < js.length) (sm : js.length ≤ sizeLine)
    (st : ItRows s.heap js ls rs fun _ => i) (lx : xs.length = js.length) (hx : ∀ (k : Nat) r x, rs[k]? = some r → xs[k]? = some x → r[i]? = some x)
    (hQ : ∀ h', IsZip h' z TI TO (rawInt s.heap.objs.size) → h'.get? TO = some { cls := .type "tuple", data := .seq xs.toArray } → ItRows h' js ls rs (fun _ => i + 1) → h'.get? s.heap.objs.size = some { cls := .type "tuple", data := .seq xs.toArray } → h'.objs.size = s.heap.objs.size + 1 →
      (∀ c o, c ≠ z → c ≠ TO → c ∉ js → s.heap.get? c = some o → h'.get? c = some o) → Q (some (.ref s.heap.objs.size)) { s with heap := h' }) : wpAny (model prog w) A (pyNext (.ref z)) Q E s := by
  (have hT : s.TypeIs (.ref z) "zip" := ⟨_, hz, rfl⟩)
  unfold pyNext
  exact wpAny_bind (wpAny_attempt (wpAny_callSpecial?_slot (name := Str.ofString "__next__") hT F.slot_zip_next (wpAny_call_entry F.slot_zip_next hT F.entry_zip_next
    (zipN_first S hz hTI hTO sz n0 sm st lx hx fun h' a1 a2 a3 a4 a5 a6 => wpAny_pure (hQ h' a1 a2 a3 a4 a5 a6)) (F.args_zip_next_1 _))))
theorem pyNextN_more {Q : Option Value → Shared → Prop} {xs : List Value} (S : SepN z TI TO js ls rs) (hz : ZipB s.heap z TI TO T b) (hT : s.heap.get? T = some oT) (hTI : s.heap.get? TI = some { cls := .type "tuple", data := .seq (js.map Value.ref).toArray }) (n0 : 0 < js.length) (sm : js.length ≤ sizeLine)
    (st : ItRows s.heap js ls rs fun _ => i) (lx : xs.length = js.length) (hx : ∀ (k : Nat) r x, rs[k]? = some r → xs[k]? = some x → r[i]? = some x)
    (hQ : ∀ h', ZipB h' z TI TO T true → ItRows h' js ls rs (fun _ => i + 1) → h'.get? s.heap.objs.size = some { cls := .type "tuple", data := .seq xs.toArray } → h'.objs.size = s.heap.objs.size + 1 →
      (∀ c o, c ≠ z → c ∉ js → s.heap.get? c = some o → h'.get? c = some o) → Q (some (.ref s.heap.objs.size)) { s with heap := h' }) : wpAny (model prog w) A (pyNext (.ref z)) Q E s := by
  (have hTy : s.TypeIs (.ref z) "zip" := ⟨_, hz, rfl⟩)
  unfold pyNext
  exact wpAny_bind (wpAny_attempt (wpAny_callSpecial?_slot (name := Str.ofString "__next__") hTy F.slot_zip_next (wpAny_call_entry F.slot_zip_next hTy F.entry_zip_next
    (zipN_more S hz hT hTI n0 sm st lx hx fun h' a1 a2 a3 a4 a5 => wpAny_pure (hQ h' a1 a2 a3 a4 a5)) (F.args_zip_next_1 _))))
theorem pyNextN_end {Q : Option Value → Shared → Prop} (hh : A.handled = none) (S : SepN z TI TO js ls rs) (hz : ZipB s.heap z TI TO T b) (hT : s.heap.get? T = some oT) (hTI : s.heap.get? TI = some { cls := .type "tuple", data := .seq (js.map Value.ref).toArray }) (n0 : 0 < js.length)
    (st : ItRows s.heap js ls rs fun _ => i) (hr0 : ∀ r, rs[0]? = some r → r.length = i)
    (hQ : ∀ h', (∀ c o, c ≠ z → c ∉ js → s.heap.get? c = some o → h'.get? c = some o) → Q none { s with heap := h' }) : wpAny (model prog w) A (pyNext (.ref z)) Q E s := by
  (have hTy : s.TypeIs (.ref z) "zip" := ⟨_, hz, rfl⟩)
  unfold pyNext
  refine wpAny_bind (wpAny_attempt (wpAny_callSpecial?_slot (name := Str.ofString "__next__") (hTy) F.slot_zip_next
    (wpAny_call_entry F.slot_zip_next hTy F.entry_zip_next (zipN_end hh S hz hT hTI n0 st hr0 fun h' e hk he => ?_) (F.args_zip_next_1 _))))
  obtain ⟨o, ho, hc⟩ := he
  (refine wpAny_bind (wpAny_isInstance (T := "StopIteration") (b := true) ⟨o, ho, hc⟩ isSubtype_stop ?_))
  exact wpAny_pure (hQ _ hk)
/-- the columns: each of one thing of each row -/
def ColsOf (rs cols : List (List Value)) (n : Nat) : Prop := ∀ (j : Nat) xs, cols[j]? = some xs → xs.length = n ∧ ∀ (k : Nat) r x, rs[k]? = some r → xs[k]? = some x → r[j]? = some x
/-- the new tuples -/
structure NewTs (h : Heap) (ts : List Addr) (cols : List (List Value)) (lo Sl z : Addr) (js : List Addr) : Prop where
  nd : ts.Nodup
  at_ : ∀ (j : Nat) T xs, ts[j]? = some T → cols[j]? = some xs → h.get? T = some { cls := .type "tuple", data := .seq xs.toArray }
  off : ∀ T ∈ ts, lo ≤ T ∧ T ≠ z ∧ T ∉ js ∧ T ≠ Sl
theorem NewTs.keep {h h' : Heap} {ts : List Addr} {cols : List (List Value)} {lo Sl : Addr} (n : NewTs h ts cols lo Sl z js) (k : ∀ c o, c ≠ z → c ∉ js → c ≠ Sl → h.get? c = some o → h'.get? c = some o) : NewTs h' ts cols lo Sl z js :=
  ⟨n.nd, fun j T xs a b => k _ _ (n.off T (List.mem_of_getElem? a)).2.1 (n.off T (List.mem_of_getElem? a)).2.2.1 (n.off T (List.mem_of_getElem? a)).2.2.2 (n.at_ j T xs a b), n.off⟩
theorem NewTs.more {h : Heap} {ts : List Addr} {cols : List (List Value)} {lo Sl N : Addr} {xs : List Value} (n : NewTs h ts cols lo Sl z js) (hx : cols[ts.length]? = some xs) (at1 : h.get? N = some { cls := .type "tuple", data := .seq xs.toArray }) (nN : N ∉ ts) (off : lo ≤ N ∧ N ≠ z ∧ N ∉ js ∧ N ≠ Sl) : NewTs h (ts ++ [N]) cols lo Sl z js := by
  refine ⟨List.nodup_append.mpr ⟨n.nd, by simp, fun a ha b hb e => ?_⟩, fun j T ys a c => ?_, fun T hT => ?_⟩
  · rw [List.mem_singleton.mp hb] at e
    exact nN (e ▸ ha)
  · by_cases lt : j < ts.length
    · rw [List.getElem?_append_left lt] at a
      exact n.at_ j T ys a c
    · rw [List.getElem?_append_right (by omega)] at a
      have j0 : j - ts.length = 0 := by
        have := (List.getElem?_eq_some_iff.mp a).1
        simp at this
        omega
      rw [j0] at a
      have ej : j = ts.length := by omega
      subst ej
      rw [hx] at c
      cases a
      cases c
      exact at1
  · rcases List.mem_append.mp hT with m | m
    · exact n.off T m
    · rw [List.mem_singleton.mp m]
      exact off
theorem extend_loopZ {m : Nat} {cols : List (List Value)} {lo Sl : Addr} {R : Result → Shared → Prop} (hh : A.handled = none) (S : SepN z TI TO js ls rs) (n0 : 0 < js.length) (sm : js.length ≤ sizeLine) (ms : m ≤ sizeLine) (lc : cols.length = m) (hr0 : ∀ r, rs[0]? = some r → r.length = m) (cl : ColsOf rs cols js.length)
    (Sz : Sl ≠ z) (SI : Sl ≠ TI) (Sj : Sl ∉ js) (Ss : Sl ∉ ls) (res : Value) :
    ∀ (k i : Nat) (t : Shared) (ts : List Addr) (acc : Array Value) (b : Bool) (oT : Obj) (c : Nat), acc = (ts.map Value.ref).toArray → m - i = k → i ≤ m → ZipB t.heap z TI TO T b → t.heap.get? T = some oT → T ≠ z → T ∉ js → T ≠ Sl → t.heap.get? TI = some { cls := .type "tuple", data := .seq (js.map Value.ref).toArray } → ItRows t.heap js ls rs (fun _ => i) →
      t.heap.get? Sl = some { cls := .type "list", dict := none, data := .seq acc c, slots := #[] } → ts.length = i → NewTs t.heap ts cols lo Sl z js → (∀ T ∈ ts, T < t.heap.objs.size) → lo ≤ t.heap.objs.size →
      (∀ h' ts', (∀ c o, c ≠ z → c ∉ js → c ≠ Sl → t.heap.get? c = some o → h'.get? c = some o) → ts'.length = m → NewTs h' ts' cols lo Sl z js → (∃ c', h'.get? Sl = some { cls := .type "list", dict := none, data := .seq (ts'.map Value.ref).toArray c', slots := #[] }) → R (.ok (.ret res)) { t with heap := h' }) →
      codeAny (model prog w) A (.builtin "list.extend.loop" ⟨[.ref Sl, .ref z, res], []⟩) R t := by
  intro k
  induction k with
  | zero =>
    intro i t ts acc b oT c ea ek il hz hT Tz Tj TS hTI st atS lt nt tl lo1 want
    obtain rfl : i = m := by omega
    (refine codeAny_builtin F.entry_extend_loop ?_)
    (rw [Around.under_plainId F.plain_extend_loop _])
    show wpAny _ A.in1 (pyNext (.ref z) >>= _) _ _ t
    refine wpAny_bind (pyNextN_end (A := A.in1) hh S hz hT hTI n0 st hr0 fun h' hk => wpAny_pure (want h' ts (fun c o cz cj _ e => hk c o cz cj e) lt (nt.keep fun c o cz cj _ e => hk c o cz cj e) ⟨c, by rw [← ea]; exact hk _ _ Sz Sj atS⟩))
  | succ k again =>
    intro i t ts acc b oT c ea ek il hz hT Tz Tj TS hTI st atS lt nt tl lo1 want
    have lim : i < m := by omega
    obtain ⟨xs, hxs⟩ : ∃ xs, cols[i]? = some xs := ⟨_, List.getElem?_eq_getElem (by omega)⟩
    obtain ⟨lx, hx⟩ := cl i xs hxs
    (refine codeAny_builtin F.entry_extend_loop ?_)
    (rw [Around.under_plainId F.plain_extend_loop _])
    show wpAny _ A.in1 (pyNext (.ref z) >>= _) _ _ t
    refine wpAny_bind (pyNextN_more (A := A.in1) S hz hT hTI n0 sm st lx hx fun h' hz' st' atN sz' hk => ?_)
    have atU := hk _ _ Sz Sj atS
    have zlt : z < t.heap.objs.size := Heap.lt_size hz
    have Slt : Sl < t.heap.objs.size := Heap.lt_size atS
    have jlt : ∀ j ∈ js, j < t.heap.objs.size := fun j hj => by
      obtain ⟨q, hq⟩ := List.getElem?_of_mem hj
      have ql := (List.getElem?_eq_some_iff.mp hq).1
      obtain ⟨⟨o, ho, _⟩, _⟩ := st q j _ _ hq (List.getElem?_eq_getElem (by rw [← S.l1]; exact ql)) (List.getElem?_eq_getElem (by rw [← S.l2]; exact ql))
      exact Heap.lt_size ho
    have off : ∀ b o, b ≠ Sl → h'.get? b = some o → (h'.update Sl (Obj.mapSeq (·.push (Value.ref t.heap.objs.size)))).get? b = some o := fun b o n it => (Heap.get?_update_other _ _ (Ne.symm n)).trans it
    have zf : ∀ b ∈ js ++ ls, b ≠ Sl := fun b hb q => (List.mem_append.mp hb).elim (fun y => Sj (q ▸ y)) fun y => Ss (q ▸ y)
    have NS : t.heap.objs.size ≠ Sl := Nat.ne_of_gt Slt
    have cI : ∀ c o, c ≠ z → c ∉ js → c ≠ Sl → t.heap.get? c = some o → (h'.update Sl (Obj.mapSeq (·.push (Value.ref t.heap.objs.size)))).get? c = some o := fun c o cz cj cS e => off c o cS (hk c o cz cj e)
    (show wpAny _ A.in1 (updateSeq Sl (·.push (.ref t.heap.objs.size)) >>= _) _ _ _)
    have atV := Heap.get?_update_self (Obj.mapSeq (·.push (Value.ref t.heap.objs.size))) atU rfl
    refine wpAny_bind (wpAny_updateSeq (s := { t with heap := h' }) atU rfl (wpAny_pure ⟨plainId_quiet F.plain_extend_loop _, again (i + 1) _ (ts ++ [t.heap.objs.size]) (acc.push (.ref t.heap.objs.size)) true oT _ ?_ (by omega) lim (off _ _ Sz.symm hz') (cI _ _ Tz Tj TS hT) Tz Tj TS (cI _ _ S.zI S.Ij SI.symm hTI) (st'.keep fun b hb o e => off b o (zf b hb) e) atV (by rw [List.length_append, lt]; rfl)
      ((nt.keep cI).more (by rw [lt]; exact hxs) (off _ _ NS atN) (fun q => Nat.lt_irrefl _ (tl _ q)) ⟨lo1, Nat.ne_of_gt zlt, fun q => Nat.lt_irrefl _ (jlt _ q), NS⟩) (fun T hT => ?_) ?_ fun h2 ts2 k2 l2 n2 a2 => ?_⟩) ?_ ?_)
    · rw [ea]
      simp
    · rw [sz' |> (show (h'.update Sl (Obj.mapSeq (·.push (Value.ref t.heap.objs.size)))).objs.size = t.heap.objs.size + 1 from (Heap.SameBut.update ..).1.trans ·)]
      rcases List.mem_append.mp hT with q | q
      · exact Nat.lt_succ_of_lt (tl T q)
      · rw [List.mem_singleton.mp q]
        exact Nat.lt_succ_self _
    · have : (h'.update Sl (Obj.mapSeq (·.push (Value.ref t.heap.objs.size)))).objs.size = t.heap.objs.size + 1 := (show (h'.update Sl (Obj.mapSeq (·.push (Value.ref t.heap.objs.size)))).objs.size = h'.objs.size from (Heap.SameBut.update ..).1).trans sz'
      exact Nat.le_trans lo1 (by rw [show _ = t.heap.objs.size + 1 from this]; exact Nat.le_succ _)
    · exact want h2 ts2 (fun c o cz cj cS e => k2 c o cz cj cS (cI c o cz cj cS e)) l2 n2 a2
    · rw [ea]
      simp
      omega
    · rw [ea]
      simp
      omega
end
end V3
/-! zip of any number of lists begins. -/
namespace V3
open PySem.Spec PySem L2 PyProof.Rows GxR RZ
/-- so many new places -/
def newJ (base n : Nat) : List Addr := (List.range n).map fun k => base + k
theorem newJ_succ (base n : Nat) : newJ base (n + 1) = newJ base n ++ [base + n] := by
  unfold newJ
  rw [List.range_succ, List.map_append]
  rfl
theorem newJ_len (base n : Nat) : (newJ base n).length = n := by
  unfold newJ
  (rw [List.length_map, List.length_range])
theorem newJ_at {base n k : Nat} {j : Addr} (h : (newJ base n)[k]? = some j) : j = base + k ∧ k < n := by
  unfold newJ at h
  rw [List.getElem?_map] at h
  obtain ⟨m, hm, rfl⟩ := Option.map_eq_some_iff.mp h
  have l := (List.getElem?_eq_some_iff.mp hm).1
  rw [List.length_range] at l
  rw [List.getElem?_range l] at hm
  cases hm
  exact ⟨rfl, l⟩
theorem newJ_mem {base n : Nat} {j : Addr} (h : j ∈ newJ base n) : base ≤ j ∧ j < base + n := by
  obtain ⟨k, hk⟩ := List.getElem?_of_mem h
  obtain ⟨e, l⟩ := newJ_at hk
  rw [e]
  exact ⟨Nat.le_add_right _ _, Nat.add_lt_add_left l _⟩
theorem newJ_nodup (base : Nat) : ∀ n, (newJ base n).Nodup
  | 0 => List.nodup_nil
  | n + 1 => by
    rw [newJ_succ]
    refine List.nodup_append.mpr ⟨newJ_nodup base n, by simp, fun a ha b hb e => ?_⟩
    rw [List.mem_singleton.mp hb] at e
    have := (newJ_mem ha).2
    rw [e] at this
    exact Nat.lt_irrefl _ this
abbrev lstIt (l : Addr) : Obj := { cls := .type "list_iterator", data := .fields #[.ref l, .int 0 0] }
/-- the iterators of lists, made one after the other -/
theorem iterAllN {M : Model} {prog : Program} {w : World} {A : Around} {E : Value → Shared → Prop} {s : Shared} {ls : List Addr} {Q : List Value → Shared → Prop} (hl : ∀ l ∈ ls, ∃ r : Array Value, s.heap.IsList l r)
    (h : ∀ h', (∀ b o, s.heap.get? b = some o → h'.get? b = some o) → h'.objs.size = s.heap.objs.size + ls.length → (∀ (k : Nat) l, ls[k]? = some l → h'.get? (s.heap.objs.size + k) = some (lstIt l)) → Q ((newJ s.heap.objs.size ls.length).map Value.ref) { s with heap := h' }) :
    wpAny (model prog w) A (Builtin.SmallTypes.iterAll (ls.map Value.ref)) Q E s := by
  (obtain ⟨hp, g, d, tk, os⟩ := s)
  (unfold Builtin.SmallTypes.iterAll)
  refine wpAny_bind (wpAny_forIn_list _ (fun rest b s' => ∃ (k : Nat) (h' : Heap), rest = (ls.map Value.ref).drop k ∧ k ≤ ls.length ∧ s' = ⟨h', g, d, tk, os⟩ ∧ b = ((newJ hp.objs.size k).map Value.ref).toArray ∧ (∀ b o, hp.get? b = some o → h'.get? b = some o) ∧ h'.objs.size = hp.objs.size + k ∧
    ∀ (m : Nat) l, m < k → ls[m]? = some l → h'.get? (hp.objs.size + m) = some (lstIt l)) _ ?_ ?_ _ _ ⟨0, hp, rfl, Nat.zero_le _, rfl, rfl, fun _ _ e => e, rfl, fun m l hm _ => absurd hm (Nat.not_lt_zero _)⟩)
  · rintro it rest b s' ⟨k, h', er, kl, rfl, rfl, hk, sz, at_⟩
    obtain ⟨ek, er2, _⟩ := dropCons er
    rw [List.getElem?_map] at ek
    obtain ⟨l, hl2, rfl⟩ := Option.map_eq_some_iff.mp ek
    have klt : k < ls.length := (List.getElem?_eq_some_iff.mp hl2).1
    obtain ⟨r, hr⟩ := hl l (List.mem_of_getElem? hl2)
    refine wpAny_bind (wpAny_holding (wpAny_pyIter_list (s := ⟨h', g, d, tk, os⟩) (hr.at fun o e => hk l o e) (wpAny_pure ⟨k + 1, h'.push (lstIt l), er2, klt, rfl, ?_, fun b o e => Heap.get?_push_of_some _ (hk b o e), by rw [Heap.size_push, sz]; rfl, fun m l2 hm e => ?_⟩)))
    · show (((newJ hp.objs.size k).map Value.ref).toArray).push (.ref h'.objs.size) = _
      rw [newJ_succ, sz]
      simp
    · by_cases em : m = k
      · subst em
        rw [hl2] at e
        cases e
        rw [← sz]
        (exact Heap.get?_push_size _ rfl)
      · exact Heap.get?_push_of_some _ (at_ m l2 (by omega) e)
  · rintro b s' ⟨k, h', er, kl, rfl, rfl, hk, sz, at_⟩
    have kn : k = ls.length := by
      have := dropNil er
      rw [List.length_map] at this
      omega
    subst kn
    exact wpAny_pure (h h' hk sz fun m l e => at_ m l (List.getElem?_eq_some_iff.mp e).1 e)
abbrev nzT (h : Heap) (js : List Addr) : Heap := h.push { cls := .type "tuple", data := .seq (js.map Value.ref).toArray }
abbrev nzO (h : Heap) (js : List Addr) : Heap := (nzT h js).push { cls := .type "tuple", data := .seq ((js.map Value.ref).map fun _ => Value.none).toArray }
abbrev nzZ (h : Heap) (js : List Addr) : Heap := (nzO h js).push { cls := .type "zip", data := .fields #[.none, .bool false, .bool false, .ref h.objs.size, .ref (nzT h js).objs.size] }
theorem meets_zipN_new (ls : List Addr) (sm : ls.length ≤ 1000) :
    Meets (Builtin.«zip.__new__» ⟨.type "zip" :: ls.map Value.ref, []⟩) (fun _ R s => (∀ l ∈ ls, ∃ r : Array Value, s.heap.IsList l r) ∧
      ∀ h', (∀ b o, s.heap.get? b = some o → h'.get? b = some o) → h'.objs.size = s.heap.objs.size + ls.length → (∀ (k : Nat) l, ls[k]? = some l → h'.get? (s.heap.objs.size + k) = some (lstIt l)) →
        R (.ok (.ret (.ref (nzO h' (newJ s.heap.objs.size ls.length)).objs.size))) { s with heap := nzZ h' (newJ s.heap.objs.size ls.length) }) :=
  .of_wp fun prog w A R s
      h => by
    obtain ⟨hl, h⟩ := h
    have hsub := sub_zip
    have q1 := fun (A' : Around) (E : Value → Shared → Prop) (Q : List Value → Shared → Prop) => iterAllN (M := model prog w) (prog := prog) (w := w) (A := A') (E := E) (Q := Q) hl
    wp_walk using q1
    intro h' hk sz at_
    have lj : ((newJ s.heap.objs.size ls.length).map Value.ref).length = ls.length := by rw [List.length_map, newJ_len]
    refine wpAny_bind (wpAny_newTuple ?_ (by rw [lj]; exact Nat.le_of_lt (small1000 sm)))
    refine wpAny_bind (wpAny_newTuple ?_ (by rw [List.length_map, lj]; exact Nat.le_of_lt (small1000 sm)))
    show wpAny _ _ (newObj (.type "zip") (.fields #[.none, .bool false, .bool false, .ref h'.objs.size, .ref (nzT h' (newJ s.heap.objs.size ls.length)).objs.size]) >>= _) _ _ _
    (refine wpAny_bind (wpAny_newObj_type ?_))
    exact wpAny_pure ⟨_, rfl, h h' hk sz at_⟩
theorem zipOk1 : ∀ us : List Value, us.length ≤ 5 → checkTypeCall "zip" ⟨us, []⟩ = pure ()
  | [], _ => by kernel_rfl
  | [a], _ => by kernel_rfl
  | [a, b], _ => by kernel_rfl
  | [a, b, c], _ => by kernel_rfl
  | [a, b, c, d], _ => by kernel_rfl
  | [a, b, c, d, e], _ => by kernel_rfl
  | a :: b :: c :: d :: e :: f :: r, h => absurd h (by simp)
theorem zipOk2 : ∀ us : List Value, us.length ≤ 5 → checkBuiltinCall "zip.__new__" ⟨.type "zip" :: us, []⟩ = pure ()
  | [], _ => by kernel_rfl
  | [a], _ => by kernel_rfl
  | [a, b], _ => by kernel_rfl
  | [a, b, c], _ => by kernel_rfl
  | [a, b, c, d], _ => by kernel_rfl
  | [a, b, c, d, e], _ => by kernel_rfl
  | a :: b :: c :: d :: e :: f :: r, h => absurd h (by simp)
theorem zipOk3 (o : Value) : ∀ us : List Value, us.length ≤ 5 → argsOk "object.__init__" ⟨o :: us, []⟩ := fun us h => by
  unfold argsOk
  (rw [signature?_of (id := "object.__init__") (n := ['_', '_', 't', 'i', 'n', 'i', '_', '_']) (o := ['t', 'c', 'e', 'j', 'b', 'o']) (by kernel_rfl) F.owner_object])
  match us, h with
  | [], _ => kernel_rfl
  | [a], _ => kernel_rfl
  | [a, b], _ => kernel_rfl
  | [a, b, c], _ => kernel_rfl
  | [a, b, c, d], _ => kernel_rfl
  | [a, b, c, d, e], _ => kernel_rfl
  | a :: b :: c :: d :: e :: f :: r, h => exact absurd h (by simp)
section
variable {w : World}
variable {prog : Program} {A : Around}
variable {E : Value → Shared → Prop} {s : Shared}
/-- zip of lists: what is new -/
theorem call_zipN {ls : List Addr} {Q : Value → Shared → Prop} (n5 : ls.length ≤ 5) (hl : ∀ l ∈ ls, ∃ r : Array Value, s.heap.IsList l r)
    (h : ∀ h', IsZip h' (s.heap.objs.size + ls.length + 2) (s.heap.objs.size + ls.length) (s.heap.objs.size + ls.length + 1) .none → h'.get? (s.heap.objs.size + ls.length) = some { cls := .type "tuple", data := .seq ((newJ s.heap.objs.size ls.length).map Value.ref).toArray } →
      (∃ acc : Array Value, acc.size = ls.length ∧ h'.get? (s.heap.objs.size + ls.length + 1) = some { cls := .type "tuple", data := .seq acc }) → (∀ (k : Nat) l, ls[k]? = some l → h'.IsListIter (s.heap.objs.size + k) l 0) → h'.objs.size = s.heap.objs.size + ls.length + 3 →
      (∀ c o, s.heap.get? c = some o → h'.get? c = some o) → Q (.ref (s.heap.objs.size + ls.length + 2)) { s with heap := h' }) :
    wpAny (model prog w) A (call (.type "zip") (ls.map Value.ref)) Q E s := by
  have l5 : (ls.map Value.ref).length ≤ 5 := by rw [List.length_map]; exact n5
  refine callType_new F.called_zip (by decide) (zipOk1 _ l5) (zipOk2 _ l5) (fun o => zipOk3 o _ l5) F.entry_zip_new (meets_zipN_new ls (by omega)) ⟨hl, fun h' hk sz at_ => ?_⟩
  have zT : (nzT h' (newJ s.heap.objs.size ls.length)).objs.size = s.heap.objs.size + ls.length + 1 := by rw [Heap.size_push, sz]
  have zO : (nzO h' (newJ s.heap.objs.size ls.length)).objs.size = s.heap.objs.size + ls.length + 2 := by rw [Heap.size_push, zT]
  have zZ : (nzZ h' (newJ s.heap.objs.size ls.length)).objs.size = s.heap.objs.size + ls.length + 3 := by rw [Heap.size_push, zO]
  have gZ : (nzZ h' (newJ s.heap.objs.size ls.length)).get? (nzO h' (newJ s.heap.objs.size ls.length)).objs.size = some { cls := .type "zip", data := .fields #[.none, .bool false, .bool false, .ref h'.objs.size, .ref (nzT h' (newJ s.heap.objs.size ls.length)).objs.size] } := Heap.get?_push_size _ rfl
  have gO : (nzZ h' (newJ s.heap.objs.size ls.length)).get? (nzT h' (newJ s.heap.objs.size ls.length)).objs.size = some { cls := .type "tuple", data := .seq (((newJ s.heap.objs.size ls.length).map Value.ref).map fun _ => Value.none).toArray } := Heap.get?_push_of_some _ (Heap.get?_push_size _ rfl)
  have gT : (nzZ h' (newJ s.heap.objs.size ls.length)).get? h'.objs.size = some { cls := .type "tuple", data := .seq ((newJ s.heap.objs.size ls.length).map Value.ref).toArray } := Heap.get?_push_of_some _ (Heap.get?_push_of_some _ (Heap.get?_push_size _ rfl))
  have kp : ∀ c o, h'.get? c = some o → (nzZ h' (newJ s.heap.objs.size ls.length)).get? c = some o := fun c o e => Heap.get?_push_of_some _ (Heap.get?_push_of_some _ (Heap.get?_push_of_some _ e))
  rw [zO, zT, sz] at gZ
  rw [zT] at gO
  rw [sz] at gT
  show _ ∧ _
  rw [zO]
  exact ⟨⟨_, gZ, rfl⟩, h _ gZ gT ⟨_, by simp [newJ_len], gO⟩ (fun k l e => ⟨_, kp _ _ (at_ k l e), rfl, rfl⟩) zZ fun c o e => kp c o (hk c o e)⟩
end
end V3
/-! list(zip(..)) of any number of lists. -/
namespace V3
open PySem.Spec PySem L2 PyProof.Rows GxR RZ
theorem zip_no_len : typeLookup (.type "zip") "__len__" = pure none := by
  (rw [typeLookup_type, builtinLookup_eq_fast])
  kernel_rfl
theorem zip_no_hint : typeLookup (.type "zip") "__length_hint__" = pure none := by
  (rw [typeLookup_type, builtinLookup_eq_fast])
  kernel_rfl
section
variable {prog : Program} {w : World} {A : Around} {E : Value → Shared → Prop} {s : Shared} {z TI TO : Addr} {js ls : List Addr} {rs : List (List Value)} {acc0 : Array Value}
theorem extend_firstZ {m : Nat} {cols : List (List Value)} {lo Sl : Addr} {R : Result → Shared → Prop} (hh : A.handled = none) (S : SepN z TI TO js ls rs) (n0 : 0 < js.length) (sm : js.length ≤ sizeLine) (ms : m ≤ sizeLine) (m0 : 0 < m) (lc : cols.length = m) (hr0 : ∀ r, rs[0]? = some r → r.length = m) (cl : ColsOf rs cols js.length)
    (Sz : Sl ≠ z) (SI : Sl ≠ TI) (SO : Sl ≠ TO) (Sj : Sl ∉ js) (Ss : Sl ∉ ls) (res : Value) (t : Shared) (c : Nat) (hz : IsZip t.heap z TI TO .none) (hTI : t.heap.get? TI = some { cls := .type "tuple", data := .seq (js.map Value.ref).toArray }) (hTO : t.heap.get? TO = some { cls := .type "tuple", data := .seq acc0 }) (sz : acc0.size = js.length)
    (st : ItRows t.heap js ls rs fun _ => 0) (atS : t.heap.get? Sl = some { cls := .type "list", dict := none, data := .seq #[] c, slots := #[] }) (lo1 : lo ≤ t.heap.objs.size)
    (want : ∀ h' ts', (∀ c o, c ≠ z → c ≠ TO → c ∉ js → c ≠ Sl → t.heap.get? c = some o → h'.get? c = some o) → ts'.length = m → NewTs h' ts' cols lo Sl z js → (∃ c', h'.get? Sl = some { cls := .type "list", dict := none, data := .seq (ts'.map Value.ref).toArray c', slots := #[] }) → R (.ok (.ret res)) { t with heap := h' }) :
    codeAny (model prog w) A (.builtin "list.extend.loop" ⟨[.ref Sl, .ref z, res], []⟩) R t := by
  obtain ⟨xs, hxs⟩ : ∃ xs, cols[0]? = some xs := ⟨_, List.getElem?_eq_getElem (by omega)⟩
  obtain ⟨lx, hx⟩ := cl 0 xs hxs
  (refine codeAny_builtin F.entry_extend_loop ?_)
  (rw [Around.under_plainId F.plain_extend_loop _])
  show wpAny _ A.in1 (pyNext (.ref z) >>= _) _ _ t
  refine wpAny_bind (pyNextN_first (A := A.in1) S hz hTI hTO sz n0 sm st lx hx fun h' hz' hTO' st' atN sz' hk => ?_)
  have atU := hk _ _ Sz SO Sj atS
  have zlt : z < t.heap.objs.size := Heap.lt_size hz
  have Slt : Sl < t.heap.objs.size := Heap.lt_size atS
  have jlt : ∀ j ∈ js, j < t.heap.objs.size := fun j hj => by
    obtain ⟨q, hq⟩ := List.getElem?_of_mem hj
    have ql := (List.getElem?_eq_some_iff.mp hq).1
    obtain ⟨⟨o, ho, _⟩, _⟩ := st q j _ _ hq (List.getElem?_eq_getElem (by rw [← S.l1]; exact ql)) (List.getElem?_eq_getElem (by rw [← S.l2]; exact ql))
    exact Heap.lt_size ho
  have off : ∀ b o, b ≠ Sl → h'.get? b = some o → (h'.update Sl (Obj.mapSeq (·.push (Value.ref t.heap.objs.size)))).get? b = some o := fun b o n it => (Heap.get?_update_other _ _ (Ne.symm n)).trans it
  have zf : ∀ b ∈ js ++ ls, b ≠ Sl := fun b hb q => (List.mem_append.mp hb).elim (fun y => Sj (q ▸ y)) fun y => Ss (q ▸ y)
  have NS : t.heap.objs.size ≠ Sl := Nat.ne_of_gt Slt
  have nz : t.heap.objs.size ≠ z := Nat.ne_of_gt zlt
  have nj : t.heap.objs.size ∉ js := fun q => Nat.lt_irrefl _ (jlt _ q)
  have cI : ∀ c o, c ≠ z → c ≠ TO → c ∉ js → c ≠ Sl → t.heap.get? c = some o → (h'.update Sl (Obj.mapSeq (·.push (Value.ref t.heap.objs.size)))).get? c = some o := fun c o cz cT cj cS e => off c o cS (hk c o cz cT cj e)
  (show wpAny _ A.in1 (updateSeq Sl (·.push (.ref t.heap.objs.size)) >>= _) _ _ _)
  have atV := Heap.get?_update_self (Obj.mapSeq (·.push (Value.ref t.heap.objs.size))) atU rfl
  have n0' : NewTs (h'.update Sl (Obj.mapSeq (·.push (Value.ref t.heap.objs.size)))) ([] : List Addr) cols lo Sl z js := ⟨List.nodup_nil, fun j T xs a _ => by simp at a, fun T h => by cases h⟩
  have szu : (h'.update Sl (Obj.mapSeq (·.push (Value.ref t.heap.objs.size)))).objs.size = t.heap.objs.size + 1 := (show (h'.update Sl (Obj.mapSeq (·.push (Value.ref t.heap.objs.size)))).objs.size = h'.objs.size from (Heap.SameBut.update ..).1).trans sz'
  refine wpAny_bind (wpAny_updateSeq (s := { t with heap := h' }) atU rfl (wpAny_pure ⟨plainId_quiet F.plain_extend_loop _, extend_loopZ (T := t.heap.objs.size) hh S n0 sm ms lc hr0 cl Sz SI Sj Ss res _ 1 _ [t.heap.objs.size] (#[].push (.ref t.heap.objs.size)) false _ _ (by simp) rfl m0 (off _ _ Sz.symm hz') (off _ _ NS atN) nz nj NS (cI _ _ S.zI S.IO S.Ij SI.symm hTI) (st'.keep fun b hb o e => off b o (zf b hb) e) atV rfl
    (n0'.more hxs (off _ _ NS atN) (by simp) ⟨lo1, nz, nj, NS⟩) (fun T hT => ?_) (by show lo ≤ (h'.update Sl (Obj.mapSeq (·.push (Value.ref t.heap.objs.size)))).objs.size; rw [szu]; exact Nat.le_succ_of_le lo1) fun h2 ts2 k2 l2 n2 a2 => ?_⟩) (by simp) (by simp))
  · rw [List.mem_singleton.mp hT]
    show t.heap.objs.size < (h'.update Sl (Obj.mapSeq (·.push (Value.ref t.heap.objs.size)))).objs.size
    rw [szu]
    exact Nat.lt_succ_self _
  · exact want h2 ts2 (fun c o cz cT cj cS e => k2 c o cz cj cS (cI c o cz cT cj cS e)) l2 n2 a2
/-- list of a zip that has not begun -/
theorem call_listZ {m : Nat} {cols : List (List Value)} {lo : Addr} {Q : Value → Shared → Prop} (hh : A.handled = none) (S : SepN z TI TO js ls rs) (n0 : 0 < js.length) (sm : js.length ≤ sizeLine) (ms : m ≤ sizeLine) (m0 : 0 < m) (lc : cols.length = m) (hr0 : ∀ r, rs[0]? = some r → r.length = m) (cl : ColsOf rs cols js.length)
    (hz : IsZip s.heap z TI TO .none) (hTI : s.heap.get? TI = some { cls := .type "tuple", data := .seq (js.map Value.ref).toArray }) (hTO : s.heap.get? TO = some { cls := .type "tuple", data := .seq acc0 }) (sz : acc0.size = js.length) (st : ItRows s.heap js ls rs fun _ => 0) (lo1 : lo ≤ s.heap.objs.size)
    (want : ∀ h' ts', (∀ c o, c ≠ z → c ≠ TO → c ∉ js → s.heap.get? c = some o → h'.get? c = some o) → ts'.length = m → NewTs h' ts' cols lo s.heap.objs.size z js → (∃ c', h'.get? s.heap.objs.size = some { cls := .type "list", dict := none, data := .seq (ts'.map Value.ref).toArray c', slots := #[] }) → Q (.ref s.heap.objs.size) { s with heap := h' }) :
    wpAny (model prog w) A (call (.type "list") [.ref z]) Q E s := by
  have jlt : ∀ b ∈ js ++ ls, b < s.heap.objs.size := fun j hj => by
    rcases List.mem_append.mp hj with y | y
    · obtain ⟨q, hq⟩ := List.getElem?_of_mem y
      have ql := (List.getElem?_eq_some_iff.mp hq).1
      obtain ⟨⟨o, ho, _⟩, _⟩ := st q j _ _ hq (List.getElem?_eq_getElem (by rw [← S.l1]; exact ql)) (List.getElem?_eq_getElem (by rw [← S.l2]; exact ql))
      exact Heap.lt_size ho
    · obtain ⟨q, hq⟩ := List.getElem?_of_mem y
      have ql := (List.getElem?_eq_some_iff.mp hq).1
      obtain ⟨_, o, ho, _⟩ := st q _ j _ (List.getElem?_eq_getElem (by rw [S.l1]; exact ql)) hq (List.getElem?_eq_getElem (by rw [← S.l2, S.l1]; exact ql))
      exact Heap.lt_size ho
  have Sz : s.heap.objs.size ≠ z := Nat.ne_of_gt (Heap.lt_size hz)
  have SI : s.heap.objs.size ≠ TI := Nat.ne_of_gt (Heap.lt_size hTI)
  have SO : s.heap.objs.size ≠ TO := Nat.ne_of_gt (Heap.lt_size hTO)
  have Sj : s.heap.objs.size ∉ js := fun q => Nat.lt_irrefl _ (jlt _ (List.mem_append_left _ q))
  have Ss : s.heap.objs.size ∉ ls := fun q => Nat.lt_irrefl _ (jlt _ (List.mem_append_right _ q))
  refine callType_codes (Q₁ := fun obj s1 => obj = .ref s.heap.objs.size ∧ s1 = { s with heap := s.heap.push { cls := .type "list", data := .seq #[] } }) F.called_list (F.typeCall_list_1 _) F.entry_list_init (code_list_new _ ⟨rfl, rfl⟩) fun obj s1 h1 => ?_
  obtain ⟨rfl, rfl⟩ := h1
  have at0 : (s.heap.push { cls := .type "list", data := .seq #[] }).get? s.heap.objs.size = some { cls := .type "list", data := .seq #[] } := Heap.get?_push_size _ rfl
  refine ⟨⟨_, at0, rfl⟩, F.args_list_init_2 _ _, ?_⟩
  have k0 : ∀ b o, s.heap.get? b = some o → (s.heap.push { cls := .type "list", data := .seq #[] }).get? b = some o := fun b o e => Heap.get?_push_of_some _ e
  (show wpAny _ A.in1.in1 (do let old ← Builtin.List.listItems (.ref s.heap.objs.size); Builtin.List.listUpdate (.ref s.heap.objs.size) (fun _ => #[]); letGo old.toList.reverse; Builtin.List.listExtendWith (.ref s.heap.objs.size) (.ref z) .none) _ _ _)
  refine wpAny_bind ?_
  unfold Builtin.List.listItems
  refine wpAny_bind (wpAny_seqItems at0 rfl (wpAny_pure ?_))
  (show wpAny _ A.in1.in1 (updateSeq s.heap.objs.size (fun _ => #[]) >>= fun _ => letGo (#[] : Array Value).toList.reverse >>= fun _ => Builtin.List.listExtendWith (.ref s.heap.objs.size) (.ref z) .none) _ _ _)
  refine wpAny_bind (wpAny_updateSeq at0 rfl ?_)
  have stays : ∀ (f : Obj → Obj) (h0 : Heap) b o, b ≠ s.heap.objs.size → h0.get? b = some o → (h0.update s.heap.objs.size f).get? b = some o := fun f h0 b o ne it => (Heap.get?_update_other _ _ (Ne.symm ne)).trans it
  have at1 := Heap.get?_update_self (Obj.mapSeq (fun _ => (#[] : Array Value))) at0 rfl
  (refine wpAny_bind (wpAny_letGo ?_))
  (unfold Builtin.List.listExtendWith)
  have z1 := stays (Obj.mapSeq (fun _ => (#[] : Array Value))) _ _ _ Sz.symm (k0 _ _ hz)
  have ty : ({ s with heap := (s.heap.push { cls := .type "list", data := .seq #[] }).update s.heap.objs.size (Obj.mapSeq (fun _ => (#[] : Array Value))) } : Shared).TypeIs (.ref z) "zip" := ⟨_, z1, rfl⟩
  refine wpAny_bind (wpAny_typeOf ty ?_)
  have n1 : Builtin.List.listSameRef (.ref s.heap.objs.size) (.ref z) = false := by simp [Builtin.List.listSameRef, Sz]
  have n2 : (Value.type "zip" == Value.type "list") = false := by decide
  have n3 : (Value.type "zip" == Value.type "tuple") = false := by decide
  simp only [n1, n2, n3, Bool.or_false, Bool.false_eq_true, if_false]
  refine wpAny_bind (wpAny_pyIter_zip z1 (wpAny_bind (wpAny_holding ?_)))
  (unfold Builtin.List.listLengthHint)
  refine wpAny_bind (wpAny_specialOf ty zip_no_len ?_)
  (show wpAny _ A.in1.in1 (specialOf (Value.ref z) (Str.ofString "__length_hint__") >>= _) _ _ _)
  refine wpAny_bind (wpAny_specialOf ty zip_no_hint (wpAny_pure ?_))
  (show wpAny _ A.in1.in1 (rule "list.extend.makes-room" >>= fun _ => Builtin.List.listTouch (.ref s.heap.objs.size) >>= fun _ => again (.builtin "list.extend.loop" ⟨[.ref s.heap.objs.size, .ref z, .none], []⟩)) _ _ _)
  (refine wpAny_bind (wpAny_rule (wpAny_bind ?_)))
  (show wpAny _ A.in1.in1 (updateSeq s.heap.objs.size (·.push .none) >>= fun _ => updateSeq s.heap.objs.size (·.pop)) _ _ _)
  refine wpAny_bind (wpAny_updateSeq at1 rfl ?_)
  have at2 := Heap.get?_update_self (Obj.mapSeq (·.push Value.none)) at1 rfl
  refine wpAny_updateSeq at2 rfl ?_
  have at3 := Heap.get?_update_self (Obj.mapSeq (·.pop)) at2 rfl
  have on : ∀ b o, b ≠ s.heap.objs.size → s.heap.get? b = some o → _ := fun b o ne e => stays (Obj.mapSeq (·.pop)) _ b o ne (stays (Obj.mapSeq (·.push Value.none)) _ b o ne (stays (Obj.mapSeq (fun _ => (#[] : Array Value))) _ b o ne (k0 b o e)))
  refine wpAny_pure ⟨plainId_quiet F.plain_extend_loop _, extend_firstZ (A := A.in1) (lo := lo) hh S n0 sm ms m0 lc hr0 cl Sz SI SO Sj Ss .none _ _ (on _ _ Sz.symm hz) (on _ _ SI.symm hTI) (on _ _ SO.symm hTO) sz (st.keep fun b hb o e => on b o (Nat.ne_of_lt (jlt b hb)) e) at3 ?_ fun h' ts' k' l' n' a' => ⟨rfl, ?_⟩⟩
  · exact Nat.le_trans lo1 (Nat.le_of_lt (Heap.lt_size at3))
  · exact want h' ts' (fun c o cz cT cj e => k' c o cz cT cj (Nat.ne_of_lt (Heap.lt_size e)) (on c o (Nat.ne_of_lt (Heap.lt_size e)) e)) l' n' a'
end
end V3
/-! list(zip(*rows)), told. -/
namespace V3
open PySem.Spec PySem L2 PyProof.Rows GxR RZ
/-- more, where nothing was -/
def uniH (H N : Hp) : Hp := fun b => match H b with
  | some u => some u
  | none => N b
theorem uniH_old {H N : Hp} {b : Addr} {u : HO} (e : H b = some u) : uniH H N b = some u := by
  unfold uniH
  rw [e]
theorem uniH_new {H N : Hp} {b : Addr} (e : H b = none) : uniH H N b = N b := by
  unfold uniH
  rw [e]
section
variable {X : Cx} {pins : List (Addr × Obj)} {σ : L2.St} {H N : Hp} {s : Shared} {h' : Heap} {t' : Nat}
theorem Inv.many (I : Inv X pins σ H s) (k : ∀ b u, s.heap.get? b = some u → h'.get? b = some u) (hn : ∀ b u, N b = some u → s.heap.get? b = none) (ok : ∀ b u, N b = some u → H b = none → ObjOk X.prog X.w (uniH H N) h' b u) : Inv X pins σ (uniH H N) { s with heap := h', toks := t' } := by
  refine I.un ⟨fun b o q _ _ _ => k b o q, fun b o q _ _ _ => ⟨o.slots, k b o q⟩, fun b o q n _ => ?_, fun b o q _ => ⟨o, k b o q⟩, fun b xs q => uniH_old q, fun b o u q => uniH_old q, fun b ps q => ⟨#[], by rw [uniH_old q]; simp⟩⟩ fun b u e => ?_
  · rw [uniH_new n]
    cases e : N b with
    | none => rfl
    | some u =>
      have := hn b u e
      rw [q] at this
      cases this
  · cases eh : H b with
    | some v =>
      rw [uniH_old eh] at e
      cases e
      exact (I.hok b u eh).stay (fun c v _ q => k c v q) (fun c q => uniH_old q) fun c xs q => uniH_old q
    | none =>
      rw [uniH_new eh] at e
      exact ok b u e eh
end
theorem pickL {α : Type} {P : Nat → α → Prop} : ∀ n, (∀ k, k < n → ∃ y, P k y) → ∃ ys : List α, ys.length = n ∧ ∀ k y, ys[k]? = some y → P k y
  | 0, _ => ⟨[], rfl, fun k y e => by simp at e⟩
  | n + 1, h => by
    obtain ⟨ys, l, p⟩ := pickL n fun k hk => h k (by omega)
    obtain ⟨y, py⟩ := h n (by omega)
    refine ⟨ys ++ [y], by simp [l], fun k z e => ?_⟩
    by_cases lt : k < ys.length
    · rw [List.getElem?_append_left lt] at e
      exact p k z e
    · rw [List.getElem?_append_right (by omega)] at e
      have k0 : k - ys.length = 0 := by
        have := (List.getElem?_eq_some_iff.mp e).1
        simp at this
        omega
      rw [k0] at e
      cases e
      have : k = n := by omega
      rw [this]
      exact py
theorem refs_eq : ∀ {ps : List Addr} {its : List Value}, Vals (ps.map V.ref) its → its = ps.map Value.ref
  | [], _, r => by cases r; rfl
  | p :: r, _, h => by
    cases h with
    | cons a b =>
      cases a
      rw [refs_eq b]
      rfl
theorem refs_vals : ∀ ts : List Addr, Vals (ts.map V.ref) (ts.map Value.ref)
  | [] => .nil
  | _ :: r => .cons rfl (refs_vals r)
/-- the j-th of each row -/
def colV (rows : List (List V)) (j : Nat) : List V := rows.map fun r => r.getD j .non
theorem col_vals {m j : Nat} (hj : j < m) : ∀ {rows : List (List V)} {rs : List (List Value)}, rows.length = rs.length → (∀ (k : Nat) r y, rows[k]? = some r → rs[k]? = some y → Vals r y ∧ r.length = m) → Vals (colV rows j) (rs.map fun r => r.getD j .none)
  | [], [], _, _ => .nil
  | [], _ :: _, ne, _ => by cases ne
  | _ :: _, [], ne, _ => by cases ne
  | r :: rows, y :: rs, h, p => by
    obtain ⟨v, l⟩ := p 0 r y rfl rfl
    refine .cons ?_ (col_vals hj (Nat.succ.inj h) fun k r y a b => p (k + 1) r y a b)
    obtain ⟨x, hx⟩ : ∃ x, r[j]? = some x := ⟨_, List.getElem?_eq_getElem (by omega)⟩
    obtain ⟨u, hu, ru⟩ := v.get hx
    show RelV (r.getD j .non) (y.getD j .none)
    rw [List.getD_eq_getElem?_getD, List.getD_eq_getElem?_getD, hx, hu]
    exact ru
def tListZip (te : TE) : TE := fun σ H Q => te σ H fun v H1 => ∃ (p : Addr) (ps : List Addr) (rows : List (List V)) (m : Nat), v = .ref p ∧ H1 p = some (.lst (ps.map V.ref)) ∧ ps.length = rows.length ∧ 0 < ps.length ∧ ps.length ≤ 5 ∧ (∀ (k : Nat) q r, ps[k]? = some q → rows[k]? = some r → H1 q = some (.lst r) ∧ r.length = m) ∧ 0 < m ∧ m ≤ 1000 ∧
  ∀ (H' : Hp) (D : Addr) (ts : List Addr), Same H1 H' → H1 D = none → (∀ T ∈ ts, H1 T = none) → D ∉ ts → ts.Nodup → H' D = some (.lst (ts.map V.ref)) → ts.length = m → (∀ (j : Nat) T, ts[j]? = some T → H' T = some (.tup (colV rows j))) → Q (.ref D) H'
section
variable {X : Cx} {e : Expr} {te : TE} {p1 p2 p3 p4 p5 : Pos} {k : Nat}
theorem pe_listZip (hr : Room k X.A) (hl : Gl X "list") (ml : X.mg "list" = none) (hz : Gl X "zip") (mz : X.mg "zip" = none) (he : PE X e te)
    (n1 : starEach [.Call (.Name "zip" p2) [.Starred e p3] [] p4] X.env = (false, eval (.Call (.Name "zip" p2) [.Starred e p3] [] p4) X.env) :: starEach [] X.env := by rfl) : PE X (.Call (.Name "list" p1) [.Call (.Name "zip" p2) [.Starred e p3] [] p4] [] p5) (tListZip te) := by
  (refine ⟨fun pins s σ H Q I h => ?_⟩)
  refine Call_ (ld_blt (u := .type "list") I hl ml (by decide +kernel) (PyProof.Rows.callWith_type1 ?_ n1 (by rfl)))
  rw [n1]
  show wpAny _ _ (spliced ((false, eval (.Call (.Name "zip" p2) [.Starred e p3] [] p4) X.env) :: backTo p5 (starEach [] X.env))) _ _ s
  refine Calls.spliced_cons (Call_ (ld_blt (u := .type "zip") I hz mz (by decide +kernel) ?_))
  rw [show starEach [.Starred e p3] X.env = [(true, eval e X.env)] from rfl]
  refine W.ks_call (P := fun _ => True) rfl (fun _ _ => ⟨.machine, .inr (.inl rfl), W.Looks.of_pure rfl⟩) (W.ks_lone ?_)
  refine thn (he.run pins s σ H _ I h) fun u s1 ⟨v, H1, I1, rv, p, ps, rows, m, ev, hp, pl, p0, p5', hrow, m0, m9, q⟩ => ?_
  subst ev
  cases rv
  have psm : ps.length ≤ sizeLine := Nat.le_of_lt (small1000 (Nat.le_trans p5' (by decide)))
  obtain ⟨_, its, nn, rvs, _, atp⟩ := I1.lstM hp
  have ei := refs_eq rvs
  subst ei
  -- the rows
  obtain ⟨rs, lrs, prs⟩ := pickL (P := fun k (y : List Value) => ∀ q r, ps[k]? = some q → rows[k]? = some r → Vals r y ∧ r.length = m ∧ s1.heap.IsList q y.toArray) ps.length fun k hk => by
    have hq : ps[k]? = some ps[k] := List.getElem?_eq_getElem hk
    have hr2 : rows[k]? = some (rows[k]'(by rw [← pl]; exact hk)) := List.getElem?_eq_getElem (by rw [← pl]; exact hk)
    obtain ⟨a1, a2⟩ := hrow k _ _ hq hr2
    obtain ⟨_, ys, n2, ry, _, at2⟩ := I1.lstM a1
    refine ⟨ys, fun q r b1 b2 => ?_⟩
    rw [hq] at b1
    rw [hr2] at b2
    cases b1
    cases b2
    exact ⟨ry, a2, _, at2, rfl, n2, rfl⟩
  have hT : s1.TypeIs (.ref p) "list" := ⟨_, atp, rfl⟩
  have coll : wpAny (model X.prog X.w) X.A (collect (.ref p)) (fun vs s2 => ∃ h', (∀ b o, s1.heap.get? b = some o → h'.get? b = some o) ∧ vs = ps.map Value.ref ∧ s2 = { s1 with heap := h' }) X.xe s1 := by
    refine wpAny_collect_seq p (.inl rfl) atp rfl rfl (fun h' hk => ⟨h', hk, by simp, rfl⟩) (by simp; exact psm)
  unfold W.StarOf notIterableAtAll
  refine wpAny_bind (wpAny_specialOf hT PySem.F.slot_list_iter.lookup (wpAny_pure ⟨rfl, wpAny_mono coll (fun vs s2 z => ?_) fun _ _ z => z⟩))
  obtain ⟨h2, k2, rfl, rfl⟩ := z
  refine ⟨trivial, ?_⟩
  show wpAny _ _ (call (.type "zip") (ps.map Value.ref)) _ _ _
  have I2 : Inv X pins σ H1 { s1 with heap := h2 } := I1.kept (t' := s1.toks) k2
  have isl : ∀ (k : Nat) q y, ps[k]? = some q → rs[k]? = some y → h2.IsList q y.toArray ∧ y.length = m := fun k q y a b => by
    obtain ⟨rr, hr2⟩ : ∃ rr, rows[k]? = some rr := ⟨_, List.getElem?_eq_getElem (by rw [← pl]; exact (List.getElem?_eq_some_iff.mp a).1)⟩
    obtain ⟨c1, c2, c3⟩ := prs k y b q rr a hr2
    exact ⟨c3.at fun o e => k2 _ _ e, by rw [← c1.length]; exact c2⟩
  refine call_zipN (s := { s1 with heap := h2 }) p5' (fun l hl2 => ?_) fun h3 z1 z2 ⟨acc, za, z3⟩ z4 z5 k3 => ?_
  · obtain ⟨k, hk⟩ := List.getElem?_of_mem hl2
    exact ⟨_, (isl k l _ hk (List.getElem?_eq_getElem (by rw [lrs]; exact (List.getElem?_eq_some_iff.mp hk).1))).1⟩
  have psl : ∀ l ∈ ps, l < h2.objs.size := fun l hl2 => by
    obtain ⟨k, hk⟩ := List.getElem?_of_mem hl2
    obtain ⟨⟨o, ho, _⟩, _⟩ := isl k l _ hk (List.getElem?_eq_getElem (by rw [lrs]; exact (List.getElem?_eq_some_iff.mp hk).1))
    exact Heap.lt_size ho
  have S : SepN (h2.objs.size + ps.length + 2) (h2.objs.size + ps.length) (h2.objs.size + ps.length + 1) (newJ h2.objs.size ps.length) ps rs := by
    have big : ∀ x, x ∈ ps → ∀ y : Nat, h2.objs.size ≤ y → y ≠ x := fun x hx y hy e => Nat.lt_irrefl _ (Nat.lt_of_lt_of_le (psl x hx) (e ▸ hy))
    have bigj : ∀ c, ps.length ≤ c → (h2.objs.size + c) ∉ newJ h2.objs.size ps.length := fun c hc q => absurd (Nat.lt_of_add_lt_add_left (newJ_mem q).2) (Nat.not_lt_of_le hc)
    exact ⟨by show h2.objs.size + ps.length ≠ h2.objs.size + ps.length + 2; omega, by show h2.objs.size + ps.length + 1 ≠ h2.objs.size + ps.length + 2; omega, by show h2.objs.size + ps.length ≠ h2.objs.size + ps.length + 1; omega, bigj (ps.length + 2) (by omega), fun q => big _ q (h2.objs.size + ps.length + 2) (by omega) rfl, bigj ps.length (by omega), bigj (ps.length + 1) (by omega), fun q => big _ q (h2.objs.size + ps.length + 1) (by omega) rfl, newJ_nodup _ _,
      fun j hj q => big _ q j (newJ_mem hj).1 rfl, newJ_len _ _, by rw [newJ_len, lrs]⟩
  refine Calls.spliced_nil ?_
  have nl : (newJ h2.objs.size ps.length).length = ps.length := newJ_len _ _
  refine call_listZ (s := { s1 with heap := h3 }) (m := m) (cols := (List.range m).map fun j => rs.map fun r => r.getD j .none) (lo := h2.objs.size) hr.hd S (by rw [nl]; exact p0) (by rw [nl]; exact psm) (Nat.le_of_lt (small1000 m9)) m0 (by simp) (fun r h0 => ?_) (fun j xs hj => ?_) z1 z2 z3 (by rw [nl]; exact za) (fun k j l r a b c => ?_) (by show h2.objs.size ≤ h3.objs.size; rw [z5]; exact Nat.le_trans (Nat.le_add_right _ ps.length) (Nat.le_add_right _ 3)) fun h4 ts kk lt nt ⟨c4, at4⟩ => ?_
  · exact (isl 0 _ r (List.getElem?_eq_getElem p0) h0).2
  · rw [List.getElem?_map] at hj
    obtain ⟨j', hj', rfl⟩ := Option.map_eq_some_iff.mp hj
    have jm : j < m := by
      have := (List.getElem?_eq_some_iff.mp hj').1
      rwa [List.length_range] at this
    rw [List.getElem?_range jm] at hj'
    cases hj'
    refine ⟨by rw [List.length_map, nl, lrs], fun k r x a b => ?_⟩
    rw [List.getElem?_map, a] at b
    cases b
    have kl : k < ps.length := by
      rw [← lrs]
      exact (List.getElem?_eq_some_iff.mp a).1
    have := (isl k _ r (List.getElem?_eq_getElem kl) a).2
    show r[j]? = some (r.getD j .none)
    rw [List.getD_eq_getElem?_getD, List.getElem?_eq_getElem (by omega)]
    rfl
  · obtain ⟨rfl, kl⟩ := newJ_at a
    exact ⟨z4 k l b, (isl k l r b c).1.at fun o e => k3 _ _ e⟩
  · have old : ∀ c o, h2.get? c = some o → h4.get? c = some o := fun c o e => by
      have cl := Heap.lt_size e
      refine kk c o (fun q => ?_) (fun q => ?_) (fun q => absurd (newJ_mem q).1 (Nat.not_le_of_lt cl)) (k3 c o e)
      · exact absurd cl (by rw [q]; exact Nat.not_lt_of_le (Nat.le_trans (Nat.le_add_right _ ps.length) (Nat.le_add_right _ 2)))
      · exact absurd cl (by rw [q]; exact Nat.not_lt_of_le (Nat.le_trans (Nat.le_add_right _ ps.length) (Nat.le_add_right _ 1)))
    have Dge : h2.objs.size ≤ h3.objs.size := by
      rw [z5]
      exact Nat.le_trans (Nat.le_add_right _ ps.length) (Nat.le_add_right _ 3)
    have fresh : ∀ b : Addr, h2.objs.size ≤ b → h2.get? b = none := fun b hb => by
      cases e : h2.get? b with
      | none => rfl
      | some o => exact absurd (Heap.lt_size e) (Nat.not_lt_of_le hb)
    have Tge : ∀ T ∈ ts, h2.objs.size ≤ T := fun T hT => (nt.off T hT).1
    have TD : ∀ T ∈ ts, T ≠ h3.objs.size := fun T hT => (nt.off T hT).2.2.2
    have rowlen : rows.length = rs.length := by rw [← pl, lrs]
    have colsAt : ∀ j, j < m → ((List.range m).map fun j => rs.map fun r => r.getD j .none)[j]? = some (rs.map fun r => r.getD j .none) := fun j hj => by
      rw [List.getElem?_map, List.getElem?_range hj]
      rfl
    let N : Hp := fun b => if b = h3.objs.size then some (.lst (ts.map V.ref)) else if b ∈ ts then some (.tup (colV rows (ts.idxOf b))) else none
    have nD : N h3.objs.size = some (.lst (ts.map V.ref)) := if_pos rfl
    have nT : ∀ (j : Nat) T, ts[j]? = some T → N T = some (.tup (colV rows j)) := fun j T e => by
      have hm := List.mem_of_getElem? e
      show (if T = h3.objs.size then _ else if T ∈ ts then _ else _) = _
      rw [if_neg (TD T hm), if_pos hm]
      have hi : ts[ts.idxOf T]? = some T := by
        rw [List.getElem?_eq_getElem (List.idxOf_lt_length_of_mem hm), List.getElem_idxOf]
      rw [idxOne nt.nd hi e]
    have I4 : Inv X pins σ (uniH H1 N) { s1 with heap := h4, toks := s1.toks } := Inv.many (s := { s1 with heap := h2 }) I2 old (fun b u e => ?_) fun b u e _ => ?_
    · refine ⟨.ref h3.objs.size, uniH H1 N, I4, rfl, q _ _ ts (fun b o e => uniH_old e) (I2.hok.fresh Dge) (fun T hT => I2.hok.fresh (Tge T hT)) (fun hm => TD _ hm rfl) nt.nd ?_ lt fun j T e => ?_⟩
      · rw [uniH_new (I2.hok.fresh Dge)]
        exact nD
      · rw [uniH_new (I2.hok.fresh (Tge T (List.mem_of_getElem? e)))]
        exact nT j T e
    · by_cases eb : b = h3.objs.size
      · exact fresh b (eb ▸ Dge)
      · by_cases em : b ∈ ts
        · exact fresh b (Tge b em)
        · have : N b = none := by
            show (if b = h3.objs.size then _ else if b ∈ ts then _ else _) = _
            rw [if_neg eb, if_neg em]
          rw [this] at e
          cases e
    · by_cases eb : b = h3.objs.size
      · subst eb
        rw [nD] at e
        cases e
        exact ⟨by rw [List.length_map, lt]; exact Nat.le_of_lt (small1000 m9), _, c4, refs_vals ts, at4⟩
      · by_cases em : b ∈ ts
        · obtain ⟨j, hj⟩ := List.getElem?_of_mem em
          rw [nT j b hj] at e
          cases e
          have jm : j < m := by
            rw [← lt]
            exact (List.getElem?_eq_some_iff.mp hj).1
          refine ⟨by rw [colV, List.length_map, ← pl]; exact psm, rs.map fun r => r.getD j .none, col_vals jm rowlen fun k r y a b => ?_, ⟨_, nt.at_ j _ _ hj (colsAt j jm), rfl, _, rfl⟩⟩
          have kl : k < ps.length := by
            rw [← lrs]
            exact (List.getElem?_eq_some_iff.mp b).1
          obtain ⟨c1, c2, _⟩ := prs k y b _ r (List.getElem?_eq_getElem kl) a
          exact ⟨c1, c2⟩
        · have : N b = none := by
            show (if b = h3.objs.size then _ else if b ∈ ts then _ else _) = _
            rw [if_neg eb, if_neg em]
          rw [this] at e
          cases e
end
end V3
set_option maxHeartbeats 8000000
namespace V3
open PySem.Spec PySem L2 PyProof.Rows RZ GxR
/-- the product of two tables -/
def mulM (A B : List (List Int)) (m : Nat) : List (List Int) := A.map fun r => (List.range m).map fun j => dotP r (B.map fun s => s.getD j 0)
theorem But.lst {P a : Addr} {H H' : Hp} {xs : List V} (h : But P H H') (hP : TabG H P) (e : H a = some (.lst xs)) : H' a = some (.lst xs) := h a _ (fun z => by
  obtain ⟨ps, hp, _⟩ := hP
  rw [z, hp] at e
  cases e) e
theorem But.tup {P a : Addr} {H H' : Hp} {xs : List V} (h : But P H H') (hP : TabG H P) (e : H a = some (.tup xs)) : H' a = some (.tup xs) := h a _ (fun z => by
  obtain ⟨ps, hp, _⟩ := hP
  rw [z, hp] at e
  cases e) e
theorem colV_int (B : List (List Int)) {m j : Nat} (hm : ∀ r ∈ B, r.length = m) (hj : j < m) : colV (B.map fun r => r.map V.int) j = (B.map fun s => s.getD j 0).map V.int := by
  unfold colV
  (rw [List.map_map, List.map_map])
  refine List.map_congr_left fun r hr => ?_
  have l := hm r hr
  show (r.map V.int).getD j .non = V.int (r.getD j 0)
  rw [List.getD_eq_getElem?_getD, List.getD_eq_getElem?_getD, List.getElem?_map, List.getElem?_eq_getElem (by omega)]
  rfl
section
variable {mg : Str → Option Value} {base : Heap} {K : PySem.W.Frag} {P : Program} {w : World}
abbrev s_multiplied : Stmt := topS 16
abbrev N_multiplied : List Str := ["one", "other", "columns", "row", "column"]
theorem sc_multiplied : FnScope N_multiplied ["one", "other"] (defScope s_multiplied) := ⟨rfl, rfl, rfl, by decide +kernel, rfl, by decide +kernel, by decide +kernel⟩
def spMul (K : PySem.W.Frag) (Pd : Addr) : Sp := fun vs H Q _ => ∃ (p q : Addr) (ps qs : List Addr) (A B : List (List Int)) (m b : Nat), vs = [.ref p, .ref q] ∧ Mx H p ps A ∧ Mx H q qs B ∧ TabG H Pd ∧ A.length ≤ 5 ∧ 0 < B.length ∧ B.length ≤ 5 ∧ 0 < m ∧ m ≤ 5 ∧ (∀ r ∈ B, r.length = m) ∧
  (∀ r ∈ A, ∀ x ∈ r, x.natAbs < 2 ^ b) ∧ (∀ r ∈ B, ∀ x ∈ r, x.natAbs < 2 ^ b) ∧ 0 < b ∧ b ≤ 400000 ∧
  ∀ H' D ds, But Pd H H' → TabG H' Pd → H D = none → Mx H' D ds (mulM A B m) → (∀ a ∈ ds, H a = none) → Q (.ref D) H'
theorem ok_multiplied (T : Gs K mg) {Pd : Addr} (D_dot : Df P w K mg base "dot" 2 ["one", "other"] (spDotK K Pd)) (F : At K mg "multiplied" s_multiplied) : Df P w K mg base "multiplied" 3 ["one", "other"] (spMul K Pd) := by
  have sc := sc_multiplied
  refine Df.mk' F sc (fun vs H Q E h => ?_) (fun _ _ _ _ _ _ us hl => match us, hl with | [_, _], _ => rfl) (fun f cdv A outer s H vs Q E hr h => ?_)
  · obtain ⟨p, q, ps, qs, A, B, m, b, rfl, _⟩ := h
    rfl
  · obtain ⟨p, q', ps, qs, A', B, m, b, rfl, ha, hb, tab, a5, b0, b5, m0, m5, hm, ba, bb, b1, b9, q⟩ := h
    refine ⟨_, (pss_cons (ps_set (i := 2) sc.nd rfl (.inr rfl) (pe_listZip hr (by rfl) T.list_ (by rfl) T.zip (pv 1))) (pss_one (ps_ret (pe_lc (own := [("row", 3)]) (g := gName 3) rfl sc.nd (pi_list (pv 0)) (blkOk_by (own := [("row", 3)]) (N := N_multiplied) (sc := defScope s_multiplied) (by decide +kernel)) (fun _ _ _ _ _ => (pg_name (i := 3) sc.nd rfl (.inr rfl))) (fun _ _ _ _ _ => pts_nil) (fun _ _ _ _ _ => (pe_lc (own := [("column", 4)]) (g := gName 4) rfl sc.nd (pi_listK (K := K) rfl (pv 2)) (blkOk_by (by exact rfl)) (fun _ _ _ _ _ => (pg_name (i := 4) sc.nd rfl (.inl rfl))) (fun _ _ _ _ _ => pts_nil) (fun _ _ _ _ _ => (pe_fn D_dot (by decide) hr (pa_cons (pv 3) (pa_cons (pv 4) pa_nil)))))))))), ?_⟩
    refine ⟨_, rfl, q', qs, B.map (fun r => r.map V.int), m, rfl, hb.at_, (by rw [List.length_map]; exact hb.len), by rw [hb.len]; exact b0, by rw [hb.len]; exact b5, fun k a r h1 h2 => ?_, m0, by omega, fun H1 D ts sm1 hD hts Dn nd atD lt atT => ?_⟩
    · rw [List.getElem?_map] at h2
      obtain ⟨s0, hs0, rfl⟩ := Option.map_eq_some_iff.mp h2
      exact ⟨hb.row k a s0 h1 hs0, by rw [List.length_map]; exact hm s0 (List.mem_of_getElem? hs0)⟩
    have tab1 := TabG.same tab sm1
    have ha1 := ha.same sm1
    refine ⟨_, rfl, p, rfl, ⟨_, SqL.of ha1.at_⟩, fun D2 hD2 => lc_list (K := K) (a := p) (xs := ps.map V.ref) (fun i H' => But Pd H1 H' ∧ TabG H' Pd ∧ RowsN H1 H' D2 (mulM (A'.take i) B m)) ?_ (fun i H' _ h => SqL.of (h.1.lst tab1 ha1.at_)) ?_ ?_⟩
    · exact ⟨Same.but (same_upd hD2), TabG.same tab1 (same_upd hD2), [], upd_same, rfl, (fun i a r h => by simp at h), List.nodup_nil, by simp, fun a h => by cases h⟩
    · rintro i x H' hi ⟨bu, tb, as, hDl, hal, has, nda, nDa, fra⟩
      rw [List.getElem?_map] at hi
      obtain ⟨a, hai, rfl⟩ := Option.map_eq_some_iff.mp hi
      obtain ⟨r, hri⟩ : ∃ r, A'[i]? = some r := ⟨_, List.getElem?_eq_getElem (by rw [← ha1.len]; exact (List.getElem?_eq_some_iff.mp hai).1)⟩
      have rowA : H' a = some (.lst (r.map V.int)) := bu.lst tab1 (ha1.row i a r hai hri)
      refine ⟨rfl, yesIf ?_⟩
      refine ⟨_, rfl, D, rfl, ⟨_, SqL.of (bu.lst tab1 atD)⟩, fun D3 hD3 => lc_list (K := K) (a := D) (xs := ts.map V.ref) (fun j H2 => But Pd H' H2 ∧ TabG H2 Pd ∧ H2 D3 = some (.lst (((List.range j).map fun j => dotP r (B.map fun s => s.getD j 0)).map V.int))) ⟨Same.but (same_upd hD3), TabG.same tb (same_upd hD3), upd_same⟩ (fun j H2 _ h => SqL.of (h.1.lst tb (bu.lst tab1 atD))) ?_ ?_⟩
      · rintro j x2 H2 hj ⟨bu2, tb2, hl3⟩
        rw [List.getElem?_map] at hj
        obtain ⟨t, htj, rfl⟩ := Option.map_eq_some_iff.mp hj
        have jm : j < m := by
          rw [← lt]
          exact (List.getElem?_eq_some_iff.mp htj).1
        have tupT : H2 t = some (.tup ((B.map fun s => s.getD j 0).map V.int)) := by
          have := bu2.tup tb (bu.tup tab1 (atT j t htj))
          rw [colV_int B hm jm] at this
          exact this
        refine ⟨rfl, yesIf ?_⟩
        refine ⟨_, rfl, _, rfl, a, t, r, _, b, rfl, .inl (bu2.lst tb rowA), .inr (SqT.of tupT), tb2, ba r (List.mem_of_getElem? hri), (fun y hy => ?_), b1, b9, fun H3 t3 => ?_⟩
        · obtain ⟨s0, hs0, rfl⟩ := List.mem_map.mp hy
          have l0 := hm s0 hs0
          rw [List.getD_eq_getElem?_getD, List.getElem?_eq_getElem (by omega)]
          exact bb s0 hs0 _ (List.getElem_mem _)
        · have l3 := (tab_but t3).lst tb2 hl3
          refine ⟨_, l3, small1000 ?_, ?_, TabG.lst t3.1 l3, ?_⟩
          · rw [List.length_map, List.length_map, List.length_range]
            omega
          · exact (bu2.trans (tab_but t3)).updN hD3
          · rw [upd_same, List.range_succ, List.map_append, List.map_append]
            rfl
      · rintro H2 ⟨bu2, tb2, hl3⟩
        rw [List.length_map, lt] at hl3
        have hDl2 := bu2.lst tb hDl
        have hne : D3 ≠ D2 := fun e => by
          rw [e, hDl] at hD3
          cases hD3
        have mm : mulM (A'.take (i + 1)) B m = mulM (A'.take i) B m ++ [(List.range m).map fun j => dotP r (B.map fun s => s.getD j 0)] := by
          unfold mulM
          rw [take_more hri, List.map_append]
          rfl
        have leni : (mulM (A'.take i) B m).length ≤ 5 := by
          unfold mulM
          rw [List.length_map, List.length_take]
          omega
        refine ⟨_, hDl2, ?_, (bu.trans bu2).updN hD2, TabG.lst tb2 hDl2, as ++ [D3], ?_, ?_, (fun k a rr h1 h2 => ?_), ?_, ?_, fun a ha => ?_⟩
        · rw [List.length_map, hal]
          exact small1000 (by omega)
        · rw [upd_same, List.map_append]
          rfl
        · rw [mm, List.length_append, List.length_append, hal]
          rfl
        · rw [mm] at h2
          by_cases hk : k < as.length
          · rw [List.getElem?_append_left hk] at h1
            rw [List.getElem?_append_left (by rw [← hal]; exact hk)] at h2
            have na : a ≠ D2 := fun e => nDa (e ▸ List.mem_of_getElem? h1)
            rw [upd_ne na]
            exact bu2.lst tb (has k a rr h1 h2)
          · rw [List.getElem?_append_right (by omega)] at h1
            rw [List.getElem?_append_right (by rw [← hal]; omega)] at h2
            have k0 : k - as.length = 0 := by
              have := (List.getElem?_eq_some_iff.mp h1).1
              simp at this
              omega
            rw [k0] at h1
            rw [← hal, k0] at h2
            have e1 : D3 = a := Option.some.inj h1
            have e2 : ((List.range m).map fun j => dotP r (B.map fun s => s.getD j 0)) = rr := Option.some.inj h2
            rw [← e1, ← e2, upd_ne hne]
            exact hl3
        · refine List.nodup_append.mpr ⟨nda, by simp, fun a ha b hb e => ?_⟩
          rw [List.mem_singleton.mp hb] at e
          rw [e] at ha
          obtain ⟨k, hk⟩ := List.getElem?_of_mem ha
          have kl := (List.getElem?_eq_some_iff.mp hk).1
          have := has k _ _ hk (List.getElem?_eq_getElem (by rw [← hal]; exact kl))
          rw [hD3] at this
          cases this
        · intro hm2
          rcases List.mem_append.mp hm2 with w | w
          · exact nDa w
          · exact hne (List.mem_singleton.mp w).symm
        · rcases List.mem_append.mp ha with w | w
          · exact fra a w
          · rw [List.mem_singleton.mp w]
            cases e : H1 D3 with
            | none => rfl
            | some o =>
              by_cases ep : D3 = Pd
              · obtain ⟨pz, hpz, _⟩ := tb
                rw [ep, hpz] at hD3
                cases hD3
              · have := bu D3 o ep e
                rw [hD3] at this
                cases this
    · rintro H' ⟨bu, tb, hR⟩
      rw [List.length_map, ha1.len, List.take_length] at hR
      obtain ⟨as, h1, h2, h3, h4, h5, h6⟩ := hR
      exact q H' D2 as ((Same.but sm1).trans bu) tb (by
        cases e : H D2 with
        | none => rfl
        | some o =>
          have := sm1 D2 o e
          rw [hD2] at this
          cases this) ⟨h1, h5, h4, h2, h3⟩ fun a ha => by
        cases e : H a with
        | none => rfl
        | some o =>
          have := sm1 a o e
          rw [h6 a ha] at this
          cases this
end
end V3
set_option maxHeartbeats 4100000
/-! Changes of signs, as the program counts them. -/
namespace V3
/-- the signs of what is not 0 -/
def sgnL (xs : List Int) : List Bool := (xs.filter fun x => x != 0).map fun x => decide (x > 0)
/-- neighbours that are not alike -/
def chg : List Bool → Nat
  | [] => 0
  | [_] => 0
  | a :: b :: r => (if a = b then 0 else 1) + chg (b :: r)
theorem wC_chg : ∀ (xs : List Int) (a : Bool), wC a xs = chg (a :: sgnL xs)
  | [], a => rfl
  | y :: r, a => by
    show (if y = 0 then wC a r else (if a = ps y then 0 else 1) + wC (ps y) r) = _
    by_cases y0 : y = 0
    · rw [if_pos y0, wC_chg r a]
      unfold sgnL
      rw [List.filter_cons_of_neg (by simp [y0])]
    · rw [if_neg y0, wC_chg r (ps y)]
      have : sgnL (y :: r) = ps y :: sgnL r := by
        unfold sgnL
        rw [List.filter_cons_of_pos (by simp [y0])]
        rfl
      rw [this]
      rfl
theorem vC_chg : ∀ xs : List Int, vC xs = chg (sgnL xs)
  | [] => rfl
  | y :: r => by
    show (if y = 0 then vC r else wC (ps y) r) = _
    by_cases y0 : y = 0
    · rw [if_pos y0, vC_chg r]
      unfold sgnL
      rw [List.filter_cons_of_neg (by simp [y0])]
    · rw [if_neg y0, wC_chg r (ps y)]
      have : sgnL (y :: r) = ps y :: sgnL r := by
        unfold sgnL
        rw [List.filter_cons_of_pos (by simp [y0])]
        rfl
      rw [this]
/-- the places where they are not alike -/
theorem chg_places : ∀ L : List Bool, ((List.range (min L.length (L.drop 1).length)).filter fun i => L.getD i false != (L.drop 1).getD i false).length = chg L
  | [] => rfl
  | [_] => rfl
  | a :: b :: r => by
    have k := chg_places (b :: r)
    have e : min (a :: b :: r).length ((a :: b :: r).drop 1).length = min (b :: r).length ((b :: r).drop 1).length + 1 := by
      simp
    rw [e, List.range_succ_eq_map, List.filter_cons, List.filter_map, chg, ← k]
    have f : ((fun i => (a :: b :: r).getD i false != ((a :: b :: r).drop 1).getD i false) ∘ Nat.succ) = fun i => (b :: r).getD i false != ((b :: r).drop 1).getD i false := by
      funext i
      cases r <;> rfl
    rw [f]
    by_cases c : a = b
    · rw [if_pos c, if_neg (by subst c; simp), List.length_map]
      omega
    · rw [if_neg c, if_pos (by simp [c]), List.length_cons, List.length_map]
      omega
theorem ones_sum (l : List Nat) : (l.map fun _ => (1 : Int)).sum = l.length := by
  induction l with
  | nil => rfl
  | cons a r ih =>
    rw [List.map_cons, List.sum_cons, ih, List.length_cons]
    omega
end V3
set_option maxHeartbeats 8000000
namespace V3
open PySem.Spec PySem L2 PyProof.Rows RZ GxR
/-- all but what stands at the tables of code -/
def B3 (T : List Addr) (H H' : Hp) : Prop := ∀ b o, b ∉ T → H b = some o → H' b = some o
section
variable {T : List Addr} {P : Addr} {H H' H2 : Hp}
theorem B3.refl (T : List Addr) (H : Hp) : B3 T H H := fun _ _ _ h => h
theorem B3.trans (h : B3 T H H') (g : B3 T H' H2) : B3 T H H2 := fun b o n e => g b o n (h b o n e)
theorem Same.b3 (e : Same H H') : B3 T H H' := fun b o _ h => e b o h
theorem But.b3 (h : But P H H') (m : P ∈ T) : B3 T H H' := fun b o n e => h b o (fun z => n (z ▸ m)) e
/-- the tables stand, each for itself -/
def Tabs (T : List Addr) (H : Hp) : Prop := ∀ p ∈ T, TabG H p
theorem Tabs.same (t : Tabs T H) (e : Same H H') : Tabs T H' := fun p hp => TabG.same (t p hp) e
/-- one of them grows -/
theorem Tabs.grow (t : Tabs T H) (b : But P H H') (g : TabG H' P) : Tabs T H' := fun p hp => by
  by_cases e : p = P
  · rw [e]
    exact g
  · obtain ⟨ps, hq, x⟩ := t p hp
    exact ⟨ps, b _ _ e hq, x⟩
theorem B3.kt (h : B3 T H H') (t : Tabs T H) : KeepT H H' := by
  refine ⟨fun c xs e => h c _ (fun z => ?_) e, fun c o u e => h c _ (fun z => ?_) e⟩
  · obtain ⟨ps, hq, _⟩ := t c z
    rw [e] at hq
    cases hq
  · obtain ⟨ps, hq, _⟩ := t c z
    rw [e] at hq
    cases hq
end

theorem Tabbed.b3 {T : List Addr} {P : Addr} {H H' : Hp} (h : Tabbed P H H') (m : P ∈ T) : B3 T H H' := (tab_but h).b3 m
theorem Tabs.tabbed {T : List Addr} {P : Addr} {H H' : Hp} (t : Tabs T H) (h : Tabbed P H H') : Tabs T H' := t.grow (tab_but h) h.1
section
variable {X : Cx} {H : Hp} {h : Heap} {σ : L2.St} {scope : Scope} {ce : Env} {B : Around} {mp : Str → Option Value} {Ok : Shared → Prop} {e e1 e2 : Expr}
/-- two truths that are not alike, as a test -/
theorem gb_neB {p : Pos} {a b : Bool} (G : GF X H h σ scope ce B mp Ok) (ha : GE X ce B Ok e1 (· = .bl a)) (hb : GE X ce B Ok e2 (· = .bl b)) (hm : behindInMarks .NotEq e2 = false) : GB X ce B Ok (.Compare e1 [.NotEq] [e2] p) (a != b) := fun Ex t ok => by
  refine wpAny_isTrue_Compare1 (thn (ha Ex t ok) fun u1 t1 ⟨⟨x, r1, p1⟩, k1⟩ => thn (hb Ex t1 (G.next _ _ ok k1)) fun u2 t2 ⟨⟨y, r2, p2⟩, k2⟩ => ?_) (by first | exact hm | assumption)
  subst p1
  subst p2
  cases r1
  cases r2
  exact PyProof.Rows.ne_bool (wpAny_truthy_bool ⟨rfl, k1.trans k2⟩)
end
def tTruK (K : PySem.W.Frag) (ta : TE) : L2.St → Hp → (Bool → Hp → Prop) → Prop := fun σ H Q => ta σ H fun x H' => ∃ k, TruV K x H' k ∧ Q k H'
theorem pt_int {X : Cx} {K : PySem.W.Frag} {a : Expr} {ta : TE} (h : X.K = K) (ha : PE X a ta) (he : ∀ whole, isTrue a X.env whole = (do let v ← whole; standAt a.pos; holding [v] (truthy v)) := by intro _; rfl) : PT X a (tTruK K ta) := by
  subst h
  exact pt_truth ha he
theorem sgn_more {xs : List Int} {i : Nat} {x : Int} (h : xs[i]? = some x) : sgnL (xs.take (i + 1)) = sgnL (xs.take i) ++ (if x != 0 then [decide (x > 0)] else []) := by
  unfold sgnL
  rw [take_more h, List.filter_append, List.map_append]
  congr 1
  by_cases e : x = 0
  · subst e
    rfl
  · simp [e]
theorem cut_one (L : List V) : cutV L (some 1) none = L.drop 1 := by
  unfold cutV
  cases L with
  | nil => simp
  | cons a r =>
    have e1 : HT.sIx (a :: r).length 0 (some 1) = 1 := by
      unfold HT.sIx
      simp
    have e2 : HT.sIx (a :: r).length (a :: r).length none = (a :: r).length := rfl
    rw [e1, e2]
    simp
theorem sgn_len (xs : List Int) : (sgnL xs).length ≤ xs.length := by
  unfold sgnL
  rw [List.length_map]
  exact List.length_filter_le _ _
section
variable {mg : Str → Option Value} {base : Heap} {K : PySem.W.Frag} {P : Program} {w : World}
abbrev s_counts_of : Stmt := topS 30
abbrev N_counts_of : List Str := ["numbers", "signs", "above", "at_nought", "number", "one", "other"]
theorem sc_counts_of : FnScope N_counts_of ["numbers"] (defScope s_counts_of) := ⟨rfl, rfl, rfl, by decide +kernel, rfl, by decide +kernel, by decide +kernel⟩
def spCountsOf (K : PySem.W.Frag) (TT : List Addr) : Sp := fun vs H Q _ => ∃ (p : Addr) (xs : List Int), vs = [.ref p] ∧ H p = some (.lst (xs.map V.int)) ∧ xs.length ≤ 100 ∧ Tabs TT H ∧ (∃ x ∈ xs, x ≠ 0) ∧
  ∀ H' l (i : Nat), B3 TT H H' → Tabs TT H' → i < xs.length → xs.getD i 0 ≠ 0 → (∀ j, j < i → xs.getD j 0 = 0) → H' l = some (.tup [.int (vC xs), .int i, .int ((xs.length : Int) - 1 - vC xs - i)]) → Q (.ref l) H'
theorem ok_counts_of (T : Gs K mg) {c Pc Pf : Addr} {TT : List Addr} (mc : Pc ∈ TT) (mf : Pf ∈ TT) (TB : TabB base mg c Pc) (D_first_place : Df P w K mg base "first_place" 2 ["row"] (spPlace K Pf)) (F : AtC K mg "counts_of" s_counts_of c) : Df P w K mg base "counts_of" 3 ["numbers"] (spCountsOf K TT) := by
  have sc := sc_counts_of
  refine Df.mkC F sc (fun vs H Q E h => ?_) (fun _ _ _ _ _ _ us hl => match us, hl with | [_], _ => rfl) (fun f A outer s H vs Q E hr h => ?_)
  · obtain ⟨p, xs, rfl, _⟩ := h
    rfl
  · obtain ⟨p, xs, rfl, hp, l100, tabs, some0, q⟩ := h
    refine ⟨_, (pss_cons (ps_setLc (i := 1) (own := [("number", 4)]) (g := gName 4) rfl sc.nd rfl rfl (sw_true rfl rfl rfl (by decide +kernel)) (pi_list (pv 0)) (blkOk_by (own := [("number", 4)]) (N := N_counts_of) (sc := defScope s_counts_of) (by decide +kernel)) (fun _ _ _ _ _ => (pg_name (i := 4) sc.nd rfl (.inl rfl))) (fun _ _ _ _ _ => (pts_one (pt_int (K := K) rfl (pv 4)))) (fun _ _ _ _ _ => (pe_cmpR op_gt (pv 4) pe_int (nomark _)))) (pss_cons (ps_set (i := 2) sc.nd rfl (.inl rfl) (pe_sumG (P := Pc) hr (by rfl) T.sum TB rfl ⟨rfl, rfl, by decide +kernel, rfl, by
      intro y hy e
      simp only [List.mem_cons, List.not_mem_nil, or_false] at hy
      rcases hy with rfl | rfl | rfl <;> first | exact ⟨_, rfl⟩ | cases e⟩ (ir_zipK (by rfl) T.zip (pa_cons (pv 1) (pa_cons (pe_slice sl_list (pv 1) (po_some pe_int) po_none) pa_nil)) rfl rfl rfl (by simp; decide)) (fun _ => rfl))) (pss_cons (ps_set (i := 3) sc.nd rfl (.inl rfl) (pe_fn D_first_place (by decide) hr (pa_cons (pv 0) pa_nil))) (pss_one (ps_ret (pe_tup (pa_cons (pv 2) (pa_cons (pv 3) (pa_cons (pe_op op_sub (pe_op op_sub (pe_op op_sub (pe_callB call_len_seq (by rfl) T.len PySem.boot_len (pa_cons (pv 0) pa_nil)) pe_int) (pv 2)) (pv 3)) pa_nil))))))))), ?_⟩
    have lx : (xs.map V.int).length = xs.length := List.length_map ..
    refine ⟨_, rfl, p, rfl, ⟨_, SqL.of hp⟩, fun D hD => lc_list (K := K) (a := p) (xs := xs.map V.int) (fun i H' => Same H H' ∧ H' D = some (.lst ((sgnL (xs.take i)).map V.bl))) ⟨same_upd hD, upd_same⟩ (fun i H' _ h => SqL.of (h.1 _ _ hp)) ?_ ?_⟩
    · rintro i x H' hi ⟨sm, hd⟩
      obtain ⟨z, hz, rfl⟩ := intAt hi
      refine ⟨rfl, ?_⟩
      refine ⟨_, rfl, (z != 0), rfl, if2 (fun e => ?_) (fun e => ?_)⟩
      · refine ⟨_, rfl, _, _, rfl, rfl, ?_⟩
        refine ⟨_, hd, small1000 ?_, same_updN sm hD, ?_⟩
        · rw [List.length_map]
          have h1 := sgn_len (xs.take i)
          have h2 := List.length_take_le i xs
          rw [List.length_take] at h1
          omega
        · rw [upd_same, sgn_more hz, if_pos e, List.map_append]
          rfl
      · refine ⟨sm, ?_⟩
        rw [sgn_more hz, if_neg (by rw [e]; simp), List.append_nil]
        exact hd
    · rintro H1 ⟨sm1, hd1⟩
      rw [lx, List.take_length] at hd1
      have tabs1 : Tabs TT H1 := tabs.same sm1
      refine ⟨_, rfl, _, rfl, 1, rfl, D, _, rfl, SqL.of hd1, fun l2 hl2 => ?_⟩
      have s2 : Same H1 (upd H1 l2 (.lst (cutV ((sgnL xs).map V.bl) (some 1) none))) := same_upd hl2
      have at2 : (upd H1 l2 (.lst (cutV ((sgnL xs).map V.bl) (some 1) none))) l2 = some (.lst (((sgnL xs).drop 1).map V.bl)) := by
        rw [upd_same, cut_one, List.map_drop]
      generalize upd H1 l2 (.lst (cutV ((sgnL xs).map V.bl) (some 1) none)) = G1 at s2 at2 ⊢
      have tabs2 := tabs1.same s2
      refine ⟨D, l2, _, _, rfl, .inl (s2 _ _ hd1), .inl at2, tabs2 Pc mc, (fun i => (sgnL xs).getD i false != ((sgnL xs).drop 1).getD i false), (fun _ => 1), ⟨fun h ok ce B mp Ok i row G => ?_, fun h ok ce B mp Ok i row pi G => ge_int G rfl⟩, fun H2 tb => ?_⟩
      · obtain ⟨x, y, u, u', hx, hy, ma, mb, r, r'⟩ := row
        rw [List.getElem?_map] at hx hy
        obtain ⟨a, ha, rfl⟩ := Option.map_eq_some_iff.mp hx
        obtain ⟨b, hb, rfl⟩ := Option.map_eq_some_iff.mp hy
        show GT _ ce B Ok _ ((sgnL xs).getD i false != ((sgnL xs).drop 1).getD i false)
        rw [List.getD_eq_getElem?_getD, List.getD_eq_getElem?_getD, ha, hb]
        exact gt_one (gb_neB G (ge_loc G rfl ma r rfl) (ge_loc G rfl mb r' rfl) (by rfl))
      · rw [ones_sum, List.length_map, List.length_map, chg_places, ← vC_chg]
        have t0 := tabs2 Pc mc
        have hp2 : H2 p = some (.lst (xs.map V.int)) := (tab_but tb).lst t0 (s2 _ _ (sm1 _ _ hp))
        have tabs3 := tabs2.tabbed tb
        refine ⟨_, rfl, p, xs, rfl, .inl hp2, tabs3 Pf mf, some0, fun H3 i tb3 hi h0 hz => ?_⟩
        have hp3 : H3 p = some (.lst (xs.map V.int)) := (tab_but tb3).lst (tabs3 Pf mf) hp2
        have tabs4 := tabs3.tabbed tb3
        have b3 : B3 TT H H3 := (((Same.b3 sm1).trans (Same.b3 s2)).trans (Tabbed.b3 tb mc)).trans (Tabbed.b3 tb3 mf)
        refine ⟨_, rfl, _, rfl, _, rfl, p, _, rfl, .inl (SqL.of hp3), _, _, rfl, rfl, _, rfl, _, _, rfl, rfl, _, rfl, _, _, rfl, rfl, ?_⟩
        rw [lx]
        refine ⟨by show 3 ≤ sizeLine; decide, fun l hl => q _ l i (b3.trans (Same.b3 (same_upd hl))) (tabs4.same (same_upd hl)) hi h0 hz upd_same⟩
end
end V3
namespace V3
open PySem.Spec PySem L2 PyProof.Rows RZ GxR
/-- s more along, in the first k rows -/
def diaA (M : List (List Int)) (s : Int) : Nat → List (List Int)
  | 0 => M
  | k + 1 => (diaA M s k).set k (((diaA M s k).getD k []).set k (((diaA M s k).getD k []).getD k 0 + s))
theorem diaA_len (M : List (List Int)) (s : Int) : ∀ k, (diaA M s k).length = M.length
  | 0 => rfl
  | k + 1 => by
    rw [diaA, List.length_set, diaA_len M s k]
theorem diaA_row {M : List (List Int)} {s : Int} : ∀ {k j : Nat}, k ≤ j → (diaA M s k)[j]? = M[j]?
  | 0, j, _ => rfl
  | k + 1, j, h => by
    rw [diaA, List.getElem?_set_ne (by omega), diaA_row (by omega)]
/-- one number of a row is put anew -/
theorem Mx.put {H : Hp} {D q : Addr} {ps : List Addr} {M : List (List Int)} {r : List Int} {i : Nat} (h : Mx H D ps M) (hq : ps[i]? = some q) (hr : M[i]? = some r) (r2 : List Int) : Mx (upd H q (.lst (r2.map V.int))) D ps (M.set i r2) := by
  have qm := List.mem_of_getElem? hq
  have il := (List.getElem?_eq_some_iff.mp hr).1
  refine ⟨?_, h.out, h.nd, by rw [h.len, List.length_set], fun j a t ha ht => ?_⟩
  · rw [upd_ne (fun e : D = q => h.out (by rw [e]; exact qm))]
    exact h.at_
  · by_cases e : i = j
    · subst e
      rw [hq] at ha
      rw [List.getElem?_set_self il] at ht
      cases ha
      cases ht
      exact upd_same
    · rw [List.getElem?_set_ne e] at ht
      have ne : a ≠ q := fun z => by
        subst z
        exact e (idxOne h.nd hq ha)
      rw [upd_ne ne]
      exact h.row j a t ha ht
section
variable {mg : Str → Option Value} {base : Heap} {K : PySem.W.Frag} {P : Program} {w : World}
abbrev s_whole_less : Stmt := topS 13
abbrev N_whole_less : List Str := ["table", "number", "under", "rows", "step", "place"]
theorem sc_whole_less : FnScope N_whole_less ["table", "number"] (defScope s_whole_less) := ⟨rfl, rfl, rfl, by decide +kernel, rfl, by decide +kernel, by decide +kernel⟩
def spLess (K : PySem.W.Frag) : Sp := fun vs H Q _ => ∃ v x rows q, vs = [v, x] ∧ Dp K H v (rowsD rows) ∧ Dp K H x (frD q) ∧ rows.length ≤ 100 ∧ (∀ r ∈ rows, r.length ≤ 100 ∧ ∀ q ∈ r, Sf q) ∧ Sf q ∧ lcmAll rows < 2 ^ 8000 ∧ Nat.lcm (lcmAll rows) q.2.natAbs < 2 ^ 9000 ∧ (∀ r ∈ rows, r.length = rows.length) ∧
  ∀ H' l D ps, Same H H' → H D = none → Mx H' D ps (diaA (rows.map (wholeRow (Nat.lcm (lcmAll rows) q.2.natAbs : Nat))) (-(q.1 * (((Nat.lcm (lcmAll rows) q.2.natAbs : Nat) : Int) / q.2))) rows.length) → (∀ a ∈ ps, H a = none) → H' l = some (.tup [.ref D, .int (Nat.lcm (lcmAll rows) q.2.natAbs : Nat)]) → Q (.ref l) H'
theorem ok_whole_less (T : Gs K mg) (D_shared_under : Df P w K mg base "shared_under" 1 ["rows"] (spShared K)) (D_whole_rows : Df P w K mg base "whole_rows" 1 ["rows", "under"] (spWholeMx K)) (F : At K mg "whole_less" s_whole_less) : Df P w K mg base "whole_less" 2 ["table", "number"] (spLess K) := by
  have sc := sc_whole_less
  refine Df.mk' F sc (fun vs H Q E h => ?_) (fun _ _ _ _ _ _ us hl => match us, hl with | [_, _], _ => rfl) (fun f cdv A outer s H vs Q E hr h => ?_)
  · obtain ⟨v, x, rows, q, rfl, _⟩ := h
    rfl
  · obtain ⟨v, x, rows, fq, rfl, hv, hx, l100, ok, sq, l8, l9, hsq, q⟩ := h
    obtain ⟨px, rfl, hpx⟩ := dpFr hx
    refine ⟨_, (pss_cons (ps_set (i := 2) sc.nd rfl (.inl rfl) (pe_callBfun cr_lcm (by rfl) T.lcm (pa_cons (pe_fn D_shared_under (by decide) hr (pa_cons (pv 0) pa_nil)) (pa_cons (pe_ix ix_tup (pv 1) pe_int (fun _ _ => rfl)) pa_nil)))) (pss_cons (ps_set (i := 3) sc.nd rfl (.inl rfl) (pe_fn D_whole_rows (by decide) hr (pa_cons (pv 0) (pa_cons (pv 2) pa_nil)))) (pss_cons (ps_set (i := 4) sc.nd rfl (.inl rfl) (pe_op op_mulW (pe_ix ix_tup (pv 1) pe_int (fun _ _ => rfl)) (pe_op op_fdivW (pv 2) (pe_ix ix_tup (pv 1) pe_int (fun _ _ => rfl))))) (pss_cons (ps_for PassesOwn.never rfl (pi_range1 rfl T.range (pa_cons (pe_callB call_len_seq (by rfl) T.len PySem.boot_len (pa_cons (pv 3) pa_nil)) pa_nil)) (pg_name (i := 5) sc.nd rfl (.inl rfl)) (pss_one (ps_augS (pe_ix ix_list (pv 3) (pv 5) (fun _ _ => rfl)) (pv 5) pget_list (pv 4) ip_sub set_list))) (pss_one (ps_ret (pe_tup (pa_cons (pv 3) (pa_cons (pv 2) pa_nil))))))))), ?_⟩
    have pos : ∀ r ∈ rows, ∀ c ∈ r, 0 < c.2 := fun r hr c hc => ((ok r hr).2 c hc).pos
    have l89 : lcmAll rows < 2 ^ 9000 := Nat.lt_of_lt_of_le l8 (pow_le_pow' (by decide))
    have q9 : fq.2.natAbs < 2 ^ 9000 := Nat.lt_of_lt_of_le sq.s2 (pow_le_pow' (by decide))
    have up : 0 < Nat.lcm (lcmAll rows) fq.2.natAbs := Nat.lcm_pos (lcmAll_pos rows pos) (by have := sq.pos; omega)
    refine ⟨_, rfl, _, rows, rfl, hv, pos, l89, ?_⟩
    refine ⟨_, rfl, _, _, _, _, rfl, rfl, hpx, at21, ?_⟩
    refine ⟨_, _, rfl, by rw [Int.natAbs_natCast]; exact l89, q9, ?_⟩
    rw [Int.natAbs_natCast]
    generalize hu : Nat.lcm (lcmAll rows) fq.2.natAbs = u at *
    refine ⟨_, rfl, _, rfl, _, rows, (u : Int), rfl, hv, l100, ok, by omega, by rw [Int.natAbs_natCast]; exact l9, fun H1 D ps sm1 hD mx fr => ?_⟩
    have hpx1 := sameT sm1 hpx
    have up2 : (0 : Int) < u := by omega
    refine ⟨_, rfl, _, _, _, _, rfl, rfl, hpx1, at20, _, rfl, _, rfl, _, _, _, _, rfl, rfl, hpx1, at21, _, _, rfl, rfl, wide_div sq.pos q9 (by decide) (by decide), _, _, rfl, rfl, wide_mul sq.s1 (Nat.lt_of_le_of_lt (divLe up2 sq.pos) (by rw [Int.natAbs_natCast]; exact l9)) (by decide) (by decide) (by decide), ?_⟩
    have lm : (rows.map (wholeRow (u : Int))).length = rows.length := List.length_map ..
    have lps : ps.length = rows.length := by rw [mx.len, lm]
    refine ⟨_, rfl, _, _, rfl, .inl (SqL.of mx.at_), _, rfl, by rw [List.length_map]; omega, by rw [List.length_map]; omega, for_range (lo := 0) (n := _) (fun i σ H' => (∃ y, σ = [some v, some (.ref px), some (.int u), some (.ref D), some (.int (fq.1 * ((u : Int) / fq.2))), y]) ∧ Same H H' ∧ Mx H' D ps (diaA (rows.map (wholeRow (u : Int))) (-(fq.1 * ((u : Int) / fq.2))) i)) ⟨⟨_, rfl⟩, sm1, mx⟩ ?_ ?_⟩
    · rintro i σ H' hi ⟨⟨y, rfl⟩, sm, mi⟩
      have hi2 : i < rows.length := by
        rw [List.length_map] at hi
        omega
      have lD : (diaA (rows.map (wholeRow (u : Int))) (-(fq.1 * ((u : Int) / fq.2))) i).length = rows.length := by rw [diaA_len, lm]
      obtain ⟨a, ha⟩ : ∃ a, ps[i]? = some a := ⟨_, List.getElem?_eq_getElem (by omega)⟩
      obtain ⟨r, hr1⟩ : ∃ r, (diaA (rows.map (wholeRow (u : Int))) (-(fq.1 * ((u : Int) / fq.2))) i)[i]? = some r := ⟨_, List.getElem?_eq_getElem (by omega)⟩
      have rl : r.length = rows.length := by
        have e := hr1
        rw [diaA_row (Nat.le_refl i), List.getElem?_map] at e
        obtain ⟨r0, h0, rfl⟩ := Option.map_eq_some_iff.mp e
        rw [wholeRow, List.length_map]
        exact hsq r0 (List.mem_of_getElem? h0)
      obtain ⟨z, hz⟩ : ∃ z, r[i]? = some z := ⟨_, List.getElem?_eq_getElem (by omega)⟩
      have rowA := mi.row i a r ha hr1
      have at1 : atI (ps.map V.ref) ((0 : Int) + (i : Int)) = some (V.ref a) := by
        rw [Int.zero_add]
        exact at_of (j := i) rfl (by rw [List.getElem?_map, ha]; rfl)
      have at2 : atI (r.map V.int) ((0 : Int) + (i : Int)) = some (V.int z) := by
        rw [Int.zero_add]
        exact at_of (j := i) rfl (by rw [List.getElem?_map, hz]; rfl)
      refine ⟨_, rfl, _, rfl, _, _, _, _, rfl, rfl, SqL.of mi.at_, at1, _, rfl, ?_⟩
      refine ⟨_, _, _, _, rfl, rfl, SqL.of rowA, at2, _, rfl, _, _, rfl, rfl, a, _, _, i, rfl, rfl, rowA, ?_, ⟨_, rfl⟩, same_updN sm (fr a (List.mem_of_getElem? ha)), ?_⟩
      · rw [Int.zero_add]
        unfold ixN
        rw [if_pos (by omega), if_pos (by rw [List.length_map]; omega), Int.toNat_natCast]
      · have pt := mi.put ha hr1 (r.set i (z + -(fq.1 * ((u : Int) / fq.2))))
        have e1 : (r.set i (z + -(fq.1 * ((u : Int) / fq.2)))).map V.int = (r.map V.int).set i (V.int (z - fq.1 * ((u : Int) / fq.2))) := by
          rw [List.map_set, Int.sub_eq_add_neg]
        have e2 : diaA (rows.map (wholeRow (u : Int))) (-(fq.1 * ((u : Int) / fq.2))) (i + 1) = (diaA (rows.map (wholeRow (u : Int))) (-(fq.1 * ((u : Int) / fq.2))) i).set i (r.set i (z + -(fq.1 * ((u : Int) / fq.2)))) := by
          rw [diaA, List.getD_eq_getElem?_getD, hr1]
          show _ = _
          rw [show (some r).getD [] = r from rfl, getDAt hz]
        rw [e1] at pt
        rw [e2]
        exact pt
    · rintro σ H' ⟨⟨y, rfl⟩, sm, mi⟩
      have en : ((ps.map V.ref).length : Int).toNat = rows.length := by
        rw [List.length_map]
        omega
      rw [en] at mi
      refine ⟨_, rfl, _, rfl, by show 2 ≤ sizeLine; decide, fun l hl => q _ l D ps (fun b o e => same_upd hl b o (sm b o e)) ?_ ?_ fr upd_same⟩
      · exact hD
      · exact mi.same (same_upd hl)
end
end V3
set_option maxHeartbeats 8100000
/-! A generator expression over a range. -/
namespace V3
open PySem.Spec PySem L2 PyProof.Rows GxR RZ
section
variable {X : Cx}
/-- within its n turns -/
theorem Draws2.less {prog : Program} {w : World} {tgt : Expr} {ce : Env} {I : Addr} {fp wr : List Addr} {n : Nat} {Bd Bd2 : Nat → (Str → Option Value) → Prop} {St : Nat → Heap → Prop} (D : Draws2 prog w tgt ce I fp wr n Bd St) (h : ∀ i mp, i < n → Bd i mp → Bd2 i mp) : Draws2 prog w tgt ce I fp wr n Bd2 St :=
  ⟨D.sub, D.frame, fun B q i t mp K E il st ns told => D.one B q i t mp K E il st ns fun v t1 go => told v t1 (wpAny_mono go (fun _ t2 g2 => wpAny_mono g2 (fun _ t3 ⟨h', tk, mp', e, b, r⟩ => ⟨h', tk, mp', e, h _ _ il b, r⟩) fun _ _ z => z) fun _ _ z => z), D.done, D.self⟩
def rowR (a : Str) (lo : Int) (n : Nat) : Nat → (Str → Option Value) → Prop := fun i mp => i < n ∧ ∃ t, mp a = some (.int (lo + (i : Int)) t)
def tiR (P : Addr) (a : Str) (tp : L2.St → Hp → (Int → Int → Hp → Prop) → Prop) : TI := fun σ H K => tp σ H fun lo hi H1 => ∃ n : Nat, hi = lo + (n : Int) ∧ Builtin.Range.small lo hi 1 = true ∧ Builtin.Range.rangeSize lo hi 1 = (n : Int) ∧ TabG H1 P ∧ K n (rowR a lo n) H1
/-- for a in range(..) -/
theorem ir_rng {P : Addr} {iter : Expr} {a : Str} {pa : Pos} {scope : Scope} {tp : L2.St → Hp → (Int → Int → Hp → Prop) → Prop} (hi : PRg X iter tp) (kd : scope.kind = .function) (ka : scope.names.lookup a = some .local) : IR X P iter (.Name a pa) scope (tiR P a tp) := by
  refine ⟨fun pins s σ H Kq R I h go => ?_⟩
  refine thn (hi pins s σ H _ I h) fun xv s1 ⟨r, lo, hi2, t, u, v, H1, ev, isr, I1, n, en, small, sz, tab, kq⟩ => ?_
  subst ev
  refine wpAny_pyIter_range isr small ?_
  rw [sz]
  have keep : ∀ b o, s1.heap.get? b = some o → (s1.heap.push { cls := .type "range_iterator", data := .fields #[rawInt lo, rawInt (n : Int), rawInt 1] }).get? b = some o := fun b o it => Heap.get?_push_of_some _ it
  have frl := frsLow I1
  have tl := tabLow I1 tab
  have st0 : IsRangeIter (s1.heap.push { cls := .type "range_iterator", data := .fields #[rawInt lo, rawInt (n : Int), rawInt 1] }) s1.heap.objs.size (lo + ((0 : Nat) : Int) * 1) ((n : Int) - ((0 : Nat) : Int)) 1 := by
    have := Heap.get?_push_size s1.heap (o := { cls := .type "range_iterator", data := .fields #[rawInt lo, rawInt (n : Int), rawInt 1] }) rfl
    have e1 : lo + ((0 : Nat) : Int) * 1 = lo := by simp
    (have e2 : (n : Int) - ((0 : Nat) : Int) = n := by simp)
    rw [e1, e2]
    exact this
  refine go H1 s1 _ s1.heap.objs.size [s1.heap.objs.size] [s1.heap.objs.size] n (rowR a lo n) (fun i h => IsRangeIter h s1.heap.objs.size (lo + (i : Nat) * 1) ((n : Int) - (i : Nat)) 1) I1 tab ⟨keep, by rw [Heap.size_push]; exact Nat.le_succ _, fun ce hsc hlo => ?_, fun b hb => hb, st0, fun b hb => ?_, fun b hb => ?_, fun b hb => ?_, fun b hb => ?_⟩ (fun i h st b hb => by
      rw [List.mem_singleton.mp hb]
      exact ⟨_, st⟩) kq
  · refine (Draws2.name (fun B hB => Walks.range hB s1.heap.objs.size lo 1 n) (by show ce.scope.names.lookup a = _; rw [hsc]; exact ka) (by rw [hsc]; simp [kd]) hlo).less fun i mp il ⟨u, ⟨t, hu⟩, m⟩ => ?_
    subst hu
    rw [Int.mul_one] at m
    exact ⟨il, t, m⟩
  · rw [Heap.size_push, List.mem_singleton.mp hb]
    exact Nat.lt_succ_self _
  · (rw [List.mem_singleton.mp hb])
    exact Nat.le_refl _
  · (rw [List.mem_singleton.mp hb])
    exact Nat.ne_of_gt tl
  · intro z
    rw [List.mem_singleton.mp hb] at z
    exact Nat.lt_irrefl _ (frl _ z)
end
end V3
set_option maxHeartbeats 4100000
/-! Tables as lists of rows, place by place. -/
namespace V3
def tabF (M : List (List Int)) (i j : Nat) : Int := (M.getD i []).getD j 0
structure SqM (n : Nat) (M : List (List Int)) : Prop where
  len : M.length = n
  row : ∀ r ∈ M, r.length = n
theorem SqM.at_ {n : Nat} {M : List (List Int)} (h : SqM n M) {i : Nat} (hi : i < n) : ∃ r, M[i]? = some r ∧ r.length = n ∧ M.getD i [] = r := by
  have e : M[i]? = some (M[i]'(by rw [h.len]; exact hi)) := List.getElem?_eq_getElem _
  exact ⟨_, e, h.row _ (List.getElem_mem _), by rw [List.getD_eq_getElem?_getD, e]; rfl⟩
theorem mulM_sq {n : Nat} {A B : List (List Int)} (h : SqM n A) : SqM n (mulM A B n) := by
  refine ⟨by rw [mulM, List.length_map, h.len], fun r hr => ?_⟩
  obtain ⟨a, _, rfl⟩ := List.mem_map.mp hr
  (rw [List.length_map, List.length_range])
theorem mul_tab {n i j : Nat} {A B : List (List Int)} (ha : SqM n A) (hb : SqM n B) (hi : i < n) (hj : j < n) : tabF (mulM A B n) i j = sg n fun m => tabF A i m * tabF B m j := by
  obtain ⟨r, hr, lr, gr⟩ := ha.at_ hi
  have e1 : (mulM A B n).getD i [] = (List.range n).map fun j => dotP r (B.map fun s => s.getD j 0) := by
    rw [List.getD_eq_getElem?_getD, mulM, List.getElem?_map, hr]
    rfl
  have e2 : tabF (mulM A B n) i j = dotP r (B.map fun s => s.getD j 0) := by
    rw [tabF, e1, List.getD_eq_getElem?_getD, List.getElem?_map, List.getElem?_range hj]
    rfl
  rw [e2, dotP, List.length_map, lr, hb.len, Nat.min_self]
  refine sg_congr fun m hm => ?_
  obtain ⟨s, hs, ls, gs⟩ := hb.at_ hm
  show r.getD m 0 * (B.map fun s => s.getD j 0).getD m 0 = (A.getD i []).getD m 0 * (B.getD m []).getD j 0
  rw [gr, gs, List.getD_eq_getElem?_getD (l := B.map _), List.getElem?_map, hs]
  rfl
theorem diaA_sq {n : Nat} {M : List (List Int)} {s : Int} (h : SqM n M) : ∀ k, k ≤ n → SqM n (diaA M s k)
  | 0, _ => h
  | k + 1, hk => by
    have ih := diaA_sq (s := s) h k (by omega)
    obtain ⟨r, hr, lr, gr⟩ := ih.at_ (show k < n by omega)
    refine ⟨by rw [diaA, List.length_set, ih.len], fun t ht => ?_⟩
    rw [diaA] at ht
    rcases List.mem_or_eq_of_mem_set ht with w | w
    · exact ih.row t w
    · rw [w, List.length_set, gr, lr]
theorem dia_tab {n i j : Nat} {M : List (List Int)} {s : Int} (h : SqM n M) (hi : i < n) (hj : j < n) : ∀ k, k ≤ n → tabF (diaA M s k) i j = tabF M i j + (if i = j ∧ i < k then s else 0)
  | 0, _ => by
    rw [if_neg (by omega), Int.add_zero]
    rfl
  | k + 1, hk => by
    have sq := diaA_sq (s := s) h k (by omega)
    have ih := dia_tab (s := s) h hi hj k (by omega)
    obtain ⟨r, hr, lr, gr⟩ := sq.at_ (show k < n by omega)
    by_cases e : k = i
    · subst e
      have e1 : (diaA M s (k + 1)).getD k [] = r.set k (r.getD k 0 + s) := by
        rw [diaA, gr, List.getD_eq_getElem?_getD, List.getElem?_set_self (by rw [sq.len]; omega)]
        rfl
      rw [tabF, gr, if_neg (by omega), Int.add_zero] at ih
      rw [tabF, e1]
      by_cases ej : k = j
      · subst ej
        rw [if_pos ⟨rfl, by omega⟩, List.getD_eq_getElem?_getD, List.getElem?_set_self (by omega), ← ih]
        rfl
      · rw [if_neg (fun z => ej z.1), Int.add_zero, List.getD_eq_getElem?_getD, List.getElem?_set_ne ej, ← List.getD_eq_getElem?_getD, ih]
    · have e1 : (diaA M s (k + 1)).getD i [] = (diaA M s k).getD i [] := by
        rw [diaA, List.getD_eq_getElem?_getD, List.getElem?_set_ne e, ← List.getD_eq_getElem?_getD]
      rw [tabF, e1]
      have e2 : (i = j ∧ i < k + 1) ↔ (i = j ∧ i < k) := by omega
      by_cases c : i = j ∧ i < k
      · rw [if_pos (e2.mpr c)]
        rw [if_pos c] at ih
        exact ih
      · rw [if_neg (fun z => c (e2.mp z))]
        rw [if_neg c] at ih
        exact ih
/-- the program's power and numbers after k steps -/
def polL (n : Nat) (W : List (List Int)) : Nat → List (List Int) × List Int
  | 0 => ((List.range n).map (unitL n), [1])
  | k + 1 => (diaA (mulM W (polL n W k).1 n) ((-(sg n fun a => tabF (mulM W (polL n W k).1 n) a a)) / ((k : Int) + 1)) n, (polL n W k).2 ++ [(-(sg n fun a => tabF (mulM W (polL n W k).1 n) a a)) / ((k : Int) + 1)])
theorem polL_fl {n : Nat} {W : List (List Int)} (hW : SqM n W) : ∀ k : Nat, SqM n (polL n W k).1 ∧ (∀ i j, i < n → j < n → tabF (polL n W k).1 i j = (flS n (tabF W) k).1 i j) ∧ (polL n W k).2 = (flS n (tabF W) k).2
  | 0 => by
    refine ⟨⟨by rw [polL, List.length_map, List.length_range], fun r hr => ?_⟩, fun i j hi hj => ?_, rfl⟩
    · obtain ⟨a, _, rfl⟩ := List.mem_map.mp hr
      rw [unitL, List.length_map, List.length_range]
    · show (((List.range n).map (unitL n)).getD i []).getD j 0 = if i = j then 1 else 0
      rw [List.getD_eq_getElem?_getD (l := (List.range n).map _), List.getElem?_map, List.getElem?_range hi]
      show (unitL n i).getD j 0 = _
      rw [unitL, List.getD_eq_getElem?_getD, List.getElem?_map, List.getElem?_range hj]
      show (if j = i then (1 : Int) else 0) = _
      by_cases e : i = j
      · (rw [if_pos e, if_pos e.symm])
      · rw [if_neg e, if_neg (fun z => e z.symm)]
  | k + 1 => by
    obtain ⟨h1, h2, h3⟩ := polL_fl hW k
    have hm : SqM n (mulM W (polL n W k).1 n) := mulM_sq hW
    have mt : ∀ i j, i < n → j < n → tabF (mulM W (polL n W k).1 n) i j = sg n fun m => tabF W i m * (flS n (tabF W) k).1 m j := fun i j hi hj => by
      rw [mul_tab hW h1 hi hj]
      exact sg_congr fun m hm2 => by rw [h2 m j hm2 hj]
    have tr : (sg n fun a => tabF (mulM W (polL n W k).1 n) a a) = sg n fun a => sg n fun m => tabF W a m * (flS n (tabF W) k).1 m a := sg_congr fun a ha => mt a a ha ha
    refine ⟨diaA_sq hm n (Nat.le_refl n), fun i j hi hj => ?_, ?_⟩
    · rw [polL, dia_tab hm hi hj n (Nat.le_refl n), mt i j hi hj, tr]
      show _ = _ + _
      congr 1
      by_cases e : i = j
      · rw [if_pos ⟨e, hi⟩, if_pos e]
      · rw [if_neg (fun z => e z.1), if_neg e]
    · rw [polL, tr, h3]
      rfl
end V3
namespace V3
open PySem.Spec PySem L2 PyProof.Rows RZ GxR
section
variable {mg : Str → Option Value} {base : Heap} {K : PySem.W.Frag} {P : Program} {w : World}
abbrev s__law_draw : Stmt := topS 45
abbrev N__law_draw : List Str := ["well", "size", "seed", "digit"]
theorem sc__law_draw : FnScope N__law_draw ["well", "size"] (defScope s__law_draw) := ⟨rfl, rfl, rfl, by decide +kernel, rfl, by decide +kernel, by decide +kernel⟩
def spDraw : Sp := fun vs H Q _ => ∃ (a : Addr) (n : Int) (k : Nat), vs = [.ref a, .int n] ∧ Well H a k ∧ k ≤ 1000000 ∧ 0 < n ∧ n < 1073741824 ∧ ∀ H' d, But a H H' → Well H' a (k + 1) → 0 ≤ d → d < n → Q (.int d) H'
theorem ok_draw (T : Gs K mg) (F : At K mg "_law_draw" s__law_draw) : Df P w K mg base "_law_draw" 1 ["well", "size"] spDraw := by
  have sc := sc__law_draw
  refine Df.mk' F sc (fun vs H Q E h => ?_) (fun _ _ _ _ _ _ us hl => match us, hl with | [_, _], _ => rfl) (fun f cdv A outer s H vs Q E hr h => ?_)
  · obtain ⟨a, q, u, rfl, _⟩ := h
    rfl
  · obtain ⟨a, n, k, rfl, ⟨x, y, z, hw, x0, y0, yl, z0, zl⟩, kl, n0, nl, q⟩ := h
    refine ⟨_, (pss_cons (ps_if (pt_cmpR op_gt (pe_ix ix_list (pv 0) pe_int (fun _ _ => rfl)) pe_int (nomark _)) (pss_cons (ps_set (i := 3) sc.nd rfl (.inl rfl) (pe_op op_mod (pe_callTy call_int1 (by rfl) T.int_ (by decide +kernel) (pa_cons (pe_ix ix_list (pv 0) pe_int (fun _ _ => rfl)) pa_nil)) (pv 1))) (pss_cons (ps_asg (pe_op op_fdiv (pe_ix ix_list (pv 0) pe_int (fun _ _ => rfl)) (pv 1)) (pg_sub (pv 0) pe_int set_list)) (pss_one (ps_ret (pv 3))))) pss_nil) (pss_cons (ps_asg (pe_op op_add (pe_ix ix_list (pv 0) pe_int (fun _ _ => rfl)) pe_int) (pg_sub (pv 0) pe_int set_list)) (pss_cons (ps_set (i := 2) sc.nd rfl (.inl rfl) (pe_op op_mod (pe_callTy call_int1 (by rfl) T.int_ (by decide +kernel) (pa_cons (pe_op op_add (pe_op op_add (pe_op op_mul (pe_ix ix_list (pv 0) pe_int (fun _ _ => rfl)) pe_int) (pe_op op_mul pe_int (pe_ix ix_list (pv 0) pe_int (fun _ _ => rfl)))) pe_int) pa_nil)) pe_int)) (pss_cons (ps_asg (pv 2) (pg_sub (pv 0) pe_int set_list)) (pss_one (ps_ret (pe_op op_mod (pe_callTy call_int1 (by rfl) T.int_ (by decide +kernel) (pa_cons (pe_op op_fdiv (pe_op op_mul (pv 2) (pe_op op_add (pe_op op_mod (pe_callTy call_int1 (by rfl) T.int_ (by decide +kernel) (pa_cons (pv 2) pa_nil)) pe_int) pe_int)) pe_int) pa_nil)) (pv 1)))))))), ?_⟩
    refine ⟨_, rfl, a, _, _, _, rfl, rfl, SqL.of hw, at30, _, _, rfl, rfl, _, rfl, if2 (fun e => ?_) (fun e => ?_)⟩
    · refine ⟨_, rfl, a, _, _, _, rfl, rfl, SqL.of hw, at30, .inl ⟨_, rfl, ?_⟩⟩
      refine ⟨_, rfl, _, _, rfl, rfl, n0, ?_⟩
      refine ⟨_, rfl, a, _, _, _, rfl, rfl, SqL.of hw, at30, _, rfl, _, _, rfl, rfl, ⟨n0, nl⟩, _, rfl, a, _, _, 0, rfl, rfl, hw, rfl, ?_⟩
      refine ⟨_, rfl, ?_⟩
      exact q _ _ (But.upd (But.refl a H)) ⟨_, _, _, upd_same, Int.ediv_nonneg x0 (Int.le_of_lt n0), y0, yl, z0, by omega⟩ (Int.emod_nonneg _ (by omega)) (Int.emod_lt_of_pos _ n0)
    · refine ⟨_, rfl, a, _, _, _, rfl, rfl, SqL.of hw, at32, _, _, rfl, rfl, _, rfl, a, _, _, 2, rfl, rfl, hw, rfl, ?_⟩
      have h1 : (upd H a (.lst (List.set [.int x, .int y, .int z] 2 (.int (z + 1))))) a = some (.lst [.int x, .int y, .int (z + 1)]) := upd_same
      have b1 : But a H (upd H a (.lst (List.set [.int x, .int y, .int z] 2 (.int (z + 1))))) := (But.refl a H).upd
      generalize upd H a (.lst (List.set [.int x, .int y, .int z] 2 (.int (z + 1)))) = H1 at b1 h1
      refine ⟨_, rfl, a, _, _, _, rfl, rfl, SqL.of h1, at31, _, _, rfl, rfl, Or.inr (by decide), ?_⟩
      refine ⟨_, rfl, a, _, _, _, rfl, rfl, SqL.of h1, at32, _, _, rfl, rfl, Or.inr (by omega), ?_⟩
      refine ⟨_, _, rfl, rfl, _, _, rfl, rfl, .inl ⟨_, rfl, ?_⟩⟩
      refine ⟨_, _, rfl, rfl, by show (0 : Int) < 2147483647; decide, ?_⟩
      have s0 : 0 ≤ (y * 16807 + 62089 * (z + 1) + 5) % 2147483647 := Int.emod_nonneg _ (by decide)
      have sl : (y * 16807 + 62089 * (z + 1) + 5) % 2147483647 < 2147483647 := Int.emod_lt_of_pos _ (by decide)
      refine ⟨_, rfl, _, rfl, a, _, _, 1, rfl, rfl, h1, rfl, ?_⟩
      have h2 : (upd H1 a (.lst (List.set [.int x, .int y, .int (z + 1)] 1 (.int ((y * 16807 + 62089 * (z + 1) + 5) % 2147483647))))) a = some (.lst [.int x, .int ((y * 16807 + 62089 * (z + 1) + 5) % 2147483647), .int (z + 1)]) := upd_same
      have b2 : But a H (upd H1 a (.lst (List.set [.int x, .int y, .int (z + 1)] 1 (.int ((y * 16807 + 62089 * (z + 1) + 5) % 2147483647))))) := b1.upd
      refine ⟨_, rfl, _, rfl, .inl ⟨_, rfl, _, _, rfl, rfl, by show (0 : Int) < 60013; decide, _, _, rfl, rfl, ?_⟩⟩
      have t0 : 0 ≤ ((y * 16807 + 62089 * (z + 1) + 5) % 2147483647) % 60013 := Int.emod_nonneg _ (by decide)
      have tl : ((y * 16807 + 62089 * (z + 1) + 5) % 2147483647) % 60013 < 60013 := Int.emod_lt_of_pos _ (by decide)
      refine ⟨_, _, rfl, rfl, Or.inr (by omega), ?_⟩
      refine ⟨_, _, rfl, rfl, ⟨by decide, by decide⟩, .inl ⟨_, rfl, ?_⟩⟩
      refine ⟨_, rfl, _, _, rfl, rfl, n0, ?_⟩
      exact q _ _ b2 ⟨_, _, _, h2, x0, s0, sl, by omega, by omega⟩ (Int.emod_nonneg _ (by omega)) (Int.emod_lt_of_pos _ n0)
abbrev s__law_well : Stmt := topS 44
abbrev N__law_well : List Str := ["script", "turn", "own", "mixed", "cell"]
theorem sc__law_well : FnScope N__law_well ["script", "turn"] (defScope s__law_well) := ⟨rfl, rfl, rfl, by decide +kernel, rfl, by decide +kernel, by decide +kernel⟩
def spWell (K : PySem.W.Frag) : Sp := fun vs H Q _ => ∃ (a : Addr) (ns : List Int) (t : Nat), vs = [.ref a, .int t] ∧ SqL K H a (ns.map V.int) ∧ ∀ H' p, Same H H' → H p = none → Well H' p 0 → Q (.ref p) H'
theorem ok_well (T : Gs K mg) (F : At K mg "_law_well" s__law_well) : Df P w K mg base "_law_well" 1 ["script", "turn"] (spWell K) := by
  have sc := sc__law_well
  refine Df.mk' F sc (fun vs H Q E h => ?_) (fun _ _ _ _ _ _ us hl => match us, hl with | [_, _], _ => rfl) (fun f cdv A outer s H vs Q E hr h => ?_)
  · obtain ⟨a, ns, t, rfl, _⟩ := h
    rfl
  · obtain ⟨a, ns, t, rfl, ha, q⟩ := h
    refine ⟨_, (pss_cons (ps_set (i := 2) sc.nd rfl (.inl rfl) (pe_ifExp (pt_cmpR op_lt (pv 1) (pe_callB call_len_seq (by rfl) T.len PySem.boot_len (pa_cons (pv 0) pa_nil)) (nomark _)) (pe_callTy call_int1 (by rfl) T.int_ (by decide +kernel) (pa_cons (pe_ix ix_list (pv 0) (pv 1) (fun _ _ => rfl)) pa_nil)) pe_int)) (pss_cons (ps_set (i := 3) sc.nd rfl (.inl rfl) (pe_op op_add pe_int (pe_op op_mul pe_int (pv 1)))) (pss_cons (ps_for PassesOwn.never rfl (pi_list (pe_slice sl_list (pv 0) po_none (po_some pe_int))) (pg_name (i := 4) sc.nd rfl (.inl rfl)) (pss_one (ps_set (i := 3) sc.nd rfl (.inl rfl) (pe_op op_mod (pe_callTy call_int1 (by rfl) T.int_ (by decide +kernel) (pa_cons (pe_op op_add (pe_op op_add (pe_op op_mul (pv 3) pe_int) (pe_op op_mod (pe_callTy call_int1 (by rfl) T.int_ (by decide +kernel) (pa_cons (pv 4) pa_nil)) pe_int)) pe_int) pa_nil)) pe_int)))) (pss_cons (ps_set (i := 3) sc.nd rfl (.inl rfl) (pe_op op_mod (pe_callTy call_int1 (by rfl) T.int_ (by decide +kernel) (pa_cons (pe_op op_add (pe_op op_add (pe_op op_mul (pv 3) pe_int) (pe_op op_mul (pe_op op_mod (pe_callTy call_int1 (by rfl) T.int_ (by decide +kernel) (pa_cons (pv 2) pa_nil)) pe_int) pe_int)) pe_int) pa_nil)) pe_int)) (pss_one (ps_ret (pe_lst (pa_cons (pe_ifExp (pt_cmpR op_ge (pe_callB call_abs (by rfl) T.abs (by decide +kernel) (pa_cons (pv 2) pa_nil)) (pe_op op_pow pe_int pe_int) (nomark _)) (pe_callB call_abs (by rfl) T.abs (by decide +kernel) (pa_cons (pv 2) pa_nil)) pe_int) (pa_cons (pv 3) (pa_cons pe_int pa_nil)))))))))), ?_⟩
    have m0 : ∀ z : Int, 0 ≤ z % 2147483647 := fun z => Int.emod_nonneg _ (by decide)
    have ml : ∀ z : Int, z % 2147483647 < 2147483647 := fun z => Int.emod_lt_of_pos _ (by decide)
    refine ⟨_, rfl, _, rfl, _, _, rfl, .inl ha, _, _, rfl, rfl, _, rfl, if2 (fun e => ?a) (fun e => ?b)⟩
    case' a =>
      have lt : t < (ns.map V.int).length := by
        have := of_decide_eq_true e
        omega
      have ln : t < ns.length := by rw [List.length_map] at lt; exact lt
      refine ⟨_, rfl, _, rfl, _, _, _, _, rfl, rfl, ha, at_of rfl (show (ns.map V.int)[t]? = some (.int ns[t]) by rw [List.getElem?_map, List.getElem?_eq_getElem ln]; rfl), .inl ⟨_, rfl, ?_⟩⟩
    all_goals
      refine ⟨_, rfl, _, _, rfl, rfl, Or.inl (by decide), _, _, rfl, rfl, ?_⟩
      refine ⟨_, rfl, _, rfl, a, _, rfl, ha, fun pc hpc => ?_⟩
      have s1 : Same H (upd H pc (.lst (cutV (ns.map V.int) none (some 9)))) := same_upd hpc
      refine ⟨pc, rfl, ⟨_, SqL.of upd_same⟩, for_list (K := K) (a := pc) (xs := cutV (ns.map V.int) none (some 9)) (fun i σ H' => ∃ (o m : Int) (y : Option V), σ = [some (.ref a), some (.int t), some (.int o), some (.int m), y] ∧ H' = upd H pc (.lst (cutV (ns.map V.int) none (some 9)))) ⟨_, _, _, rfl, rfl⟩
        (fun i σ H' _ ⟨_, _, _, _, e⟩ => by rw [e]; exact SqL.of upd_same) ?_ ?_⟩
      · rintro i x σ H' hi ⟨o, m, y, rfl, rfl⟩
        obtain ⟨n, _, rfl⟩ := List.mem_map.mp (cutV_mem (List.mem_of_getElem? hi))
        refine ⟨_, rfl, _, _, rfl, rfl, Or.inr (by decide), ?_⟩
        refine ⟨_, rfl, .inl ⟨_, rfl, _, _, rfl, rfl, by show (0 : Int) < 2147483563; decide, _, _, rfl, rfl, ?_⟩⟩
        refine ⟨_, _, rfl, rfl, .inl ⟨_, rfl, _, _, rfl, rfl, by show (0 : Int) < 2147483647; decide, ?_⟩⟩
        exact ⟨_, _, _, rfl, rfl⟩
      · rintro σ H' ⟨o, m, y, rfl, rfl⟩
        generalize upd H pc (.lst (cutV (ns.map V.int) none (some 9))) = H1 at s1
        have fin : ∀ (p : Addr), H1 p = none → ∀ x z : Int, 0 ≤ x → 0 ≤ z → z < 2147483647 → Q (.ref p) (upd H1 p (.lst [.int x, .int z, .int 0])) := fun p hp x z h1 h2 h3 =>
          q _ p (s1.trans (same_upd hp)) (by cases e : H p with | none => rfl | some o => rw [s1 _ _ e] at hp; cases hp) ⟨x, z, 0, upd_same, h1, h2, h3, by decide, by decide⟩
        refine ⟨_, rfl, _, _, rfl, rfl, Or.inr (by decide), ?_⟩
        refine ⟨_, rfl, .inl ⟨_, rfl, _, _, rfl, rfl, by show (0 : Int) < 2147483629; decide, _, _, rfl, rfl, Or.inr (by decide), ?_⟩⟩
        refine ⟨_, _, rfl, rfl, _, _, rfl, rfl, .inl ⟨_, rfl, _, _, rfl, rfl, by show (0 : Int) < 2147483647; decide, ?_⟩⟩
        refine ⟨_, rfl, _, rfl, _, _, rfl, rfl, ⟨by decide, by decide, by decide⟩, _, _, rfl, rfl, _, rfl, if2 (fun e2 => ?_) (fun e2 => ?_)⟩
        · refine ⟨_, rfl, _, rfl, _, rfl, by show 3 ≤ sizeLine; decide, fun p hp => ?_⟩
          exact fin p hp _ _ (by split <;> omega) (m0 _) (ml _)
        · refine ⟨_, rfl, by show 3 ≤ sizeLine; decide, fun p hp => ?_⟩
          exact fin p hp _ _ (by decide) (m0 _) (ml _)
abbrev s__law_pick : Stmt := topS 46
abbrev N__law_pick : List Str := ["well", "some"]
theorem sc__law_pick : FnScope N__law_pick ["well", "some"] (defScope s__law_pick) := ⟨rfl, rfl, rfl, by decide +kernel, rfl, by decide +kernel, by decide +kernel⟩
def spPick (K : PySem.W.Frag) : Sp := fun vs H Q _ => ∃ (a p : Addr) (xs : List V) (k : Nat), vs = [.ref a, .ref p] ∧ Well H a k ∧ k ≤ 1000000 ∧ H p = some (.lst xs) ∧ a ≠ p ∧ 0 < xs.length ∧ xs.length ≤ 1000 ∧ ∀ H' (i : Nat) x, But a H H' → Well H' a (k + 1) → xs[i]? = some x → Q x H'
theorem ok_pick (T : Gs K mg) (D__law_draw : Df P w K mg base "_law_draw" 1 ["well", "size"] spDraw) (F : At K mg "_law_pick" s__law_pick) : Df P w K mg base "_law_pick" 2 ["well", "some"] (spPick K) := by
  have sc := sc__law_pick
  refine Df.mk' F sc (fun vs H Q E h => ?_) (fun _ _ _ _ _ _ us hl => match us, hl with | [_, _], _ => rfl) (fun f cdv A outer s H vs Q E hr h => ?_)
  · obtain ⟨a, q, u, k, rfl, _⟩ := h
    rfl
  · obtain ⟨a, p, xs, k, rfl, hw, kl, hp, hne, n0, nl, q⟩ := h
    refine ⟨_, (pss_one (ps_ret (pe_ix ix_list (pv 1) (pe_fn D__law_draw (by decide) hr (pa_cons (pv 0) (pa_cons (pe_callB call_len_seq (by rfl) T.len PySem.boot_len (pa_cons (pv 1) pa_nil)) pa_nil))) (fun _ _ => rfl)))), ?_⟩
    refine ⟨_, rfl, _, rfl, _, rfl, p, _, rfl, .inl (SqL.of hp), a, _, k, rfl, hw, kl, by omega, by omega, fun H' d b1 w1 d0 dl => ?_⟩
    obtain ⟨i, rfl⟩ : ∃ i : Nat, d = i := ⟨d.toNat, by omega⟩
    have hi : i < xs.length := by omega
    refine ⟨p, xs, _, xs[i], rfl, rfl, SqL.of (b1 _ _ (Ne.symm hne) hp), at_of rfl (List.getElem?_eq_getElem hi), ?_⟩
    exact q H' i _ b1 w1 (List.getElem?_eq_getElem hi)
abbrev s__law_common : Stmt := topS 47
abbrev N__law_common : List Str := ["one", "two"]
theorem sc__law_common : FnScope N__law_common ["one", "two"] (defScope s__law_common) := ⟨rfl, rfl, rfl, by decide +kernel, rfl, by decide +kernel, by decide +kernel⟩
def spCommon : Sp := fun vs H Q _ => ∃ n u : Int, vs = [.int n, .int u] ∧ Q (.int (Int.gcd n u : Int)) H
theorem ok_common (T : Gs K mg) (F : At K mg "_law_common" s__law_common) : Df P w K mg base "_law_common" 1 ["one", "two"] spCommon := by
  have sc := sc__law_common
  refine Df.mk' F sc (fun vs H Q E h => ?_) (fun _ _ _ _ _ _ us hl => match us, hl with | [_, _], _ => rfl) (fun f cdv A outer s H vs Q E hr h => ?_)
  · obtain ⟨n, u, rfl, _⟩ := h
    rfl
  · obtain ⟨n, u, rfl, q⟩ := h
    refine ⟨_, (pss_cons (ps_par (i := 0) (j := 1) rfl sc.nd rfl rfl (by decide) rfl rfl (pa_cons (pe_callB call_abs (by rfl) T.abs (by decide +kernel) (pa_cons (pv 0) pa_nil)) (pa_cons (pe_callB call_abs (by rfl) T.abs (by decide +kernel) (pa_cons (pv 1) pa_nil)) pa_nil)) (by rfl)) (pss_cons (ps_while PassesOwn.never (pt_cmpR op_gt (pv 1) pe_int (nomark _)) (pss_one (ps_par (i := 0) (j := 1) rfl sc.nd rfl rfl (by decide) rfl rfl (pa_cons (pv 1) (pa_cons (pe_op op_mod (pe_callTy call_int1 (by rfl) T.int_ (by decide +kernel) (pa_cons (pv 0) pa_nil)) (pv 1)) pa_nil)) (by rfl)))) (pss_one (ps_ret (pv 0))))), ?_⟩
    have en : (if n < 0 then -n else n) = ((n.natAbs : Nat) : Int) := by split <;> omega
    have eu : (if u < 0 then -u else u) = ((u.natAbs : Nat) : Int) := by split <;> omega
    refine ⟨_, rfl, n, rfl, _, rfl, u, rfl, _, _, rfl, ?_⟩
    rw [en, eu]
    refine ⟨fun m σ H' => H' = H ∧ ∃ a b : Nat, σ = [some (.int a), some (.int b)] ∧ Nat.gcd a b = Int.gcd n u ∧ m = b, ⟨_, rfl, n.natAbs, u.natAbs, rfl, rfl, rfl⟩, ?_⟩
    rintro m σ H1 ⟨rfl, a, b, rfl, hg, rfl⟩
    refine ⟨_, rfl, _, _, rfl, rfl, _, rfl, if2 (fun e => ?_) (fun e => ?_)⟩
    · have b0 : 0 < m := by
        have := of_decide_eq_true e
        omega
      refine ⟨fun σ' H' => ∃ m', m' < m ∧ (H' = H1 ∧ ∃ a b : Nat, σ' = [some (.int a), some (.int b)] ∧ Nat.gcd a b = Int.gcd n u ∧ m' = b), fun σ' H' z => z, ?_⟩
      refine ⟨_, rfl, _, rfl, .inl ⟨_, rfl, _, rfl, _, _, rfl, rfl, by show (0 : Int) < m; omega, _, _, rfl, ?_⟩⟩
      refine ⟨_, Nat.mod_lt a b0, rfl, m, a % m, ?_, ?_, rfl⟩
      · rfl
      · rw [← hg, Nat.gcd_comm a m, Nat.gcd_rec m a, Nat.gcd_comm]
    · have b0 : m = 0 := by
        have := of_decide_eq_false e
        omega
      subst b0
      rw [Nat.gcd_zero_right] at hg
      subst hg
      exact ⟨_, rfl, q⟩
abbrev s__law_lowest : Stmt := topS 48
abbrev N__law_lowest : List Str := ["upper", "lower", "by"]
theorem sc__law_lowest : FnScope N__law_lowest ["upper", "lower"] (defScope s__law_lowest) := ⟨rfl, rfl, rfl, by decide +kernel, rfl, by decide +kernel, by decide +kernel⟩
theorem ok_lowest (T : Gs K mg) (D__law_common : Df P w K mg base "_law_common" 1 ["one", "two"] spCommon) (F : At K mg "_law_lowest" s__law_lowest) : Df P w K mg base "_law_lowest" 2 ["upper", "lower"] spFrac := by
  have sc := sc__law_lowest
  refine Df.mk' F sc (fun vs H Q E h => ?_) (fun _ _ _ _ _ _ us hl => match us, hl with | [_, _], _ => rfl) (fun f cdv A outer s H vs Q E hr h => ?_)
  · obtain ⟨n, u, rfl, _⟩ := h
    rfl
  · obtain ⟨n, u, rfl, hu, su, q⟩ := h
    refine ⟨_, (pss_cons (ps_set (i := 2) sc.nd rfl (.inl rfl) (pe_fn D__law_common (by decide) hr (pa_cons (pv 0) (pa_cons (pv 1) pa_nil)))) (pss_cons (ps_set (i := 2) sc.nd rfl (.inl rfl) (pe_ifExp (pt_cmpR op_gt (pv 1) pe_int (nomark _)) (pv 2) (pe_op op_sub pe_int (pv 2)))) (pss_one (ps_ret (pe_tup (pa_cons (pe_op op_fdivW (pv 0) (pv 2)) (pa_cons (pe_op op_fdivW (pv 1) (pv 2)) pa_nil))))))), ?_⟩
    have g0 := gcdP (n := n) hu
    have g1 := gcdL (n := n) hu
    have w : CDivW n (Int.gcd n u : Int) := wide_div g0 (b := 9000) (wide_le (by omega) g1 su) (by decide) (by decide)
    refine ⟨_, rfl, _, rfl, n, u, rfl, ?_⟩
    refine ⟨_, rfl, _, _, rfl, rfl, _, rfl, if2 (fun e => ?_) (fun e => ?_)⟩
    · refine ⟨_, rfl, ?_⟩
      refine ⟨_, rfl, _, rfl, _, _, rfl, rfl, w, _, rfl, _, rfl, _, _, rfl, rfl, w, by show 2 ≤ sizeLine; decide, fun p hp => ?_⟩
      exact q _ p (same_upd hp) (made hu upd_same)
    · exact absurd (of_decide_eq_false e) (by omega)
end
end V3
set_option maxHeartbeats 8000000
namespace V3
open PySem.Spec PySem L2 PyProof.Rows RZ GxR
theorem lt9000 {u : Int} (h1 : 0 ≤ u) (h2 : u < 2 ^ 40) : u.natAbs < 2 ^ 9000 := Nat.lt_of_lt_of_le (show u.natAbs < 2 ^ 40 by omega) (pw (by decide))
theorem mem6 {x : V} {l : List Int} {i : Nat} (h : (l.map V.int)[i]? = some x) : ∃ n, x = .int n ∧ n ∈ l := by
  obtain ⟨n, hn, e⟩ := List.mem_map.mp (List.mem_of_getElem? h)
  exact ⟨n, e.symm, hn⟩
/-! ### rows of whole numbers -/
/-- n rows of n numbers below 2 ^ b, alike turned over -/
structure Sy (n b : Nat) (M : List (List Int)) : Prop where
  len : M.length = n
  row : ∀ r ∈ M, r.length = n ∧ ∀ x ∈ r, x.natAbs < 2 ^ b
  sym : ∀ i j, i < n → j < n → (M.getD i []).getD j 0 = (M.getD j []).getD i 0
theorem atMap {ns : List Int} {i : Nat} (h : i < ns.length) : atI (ns.map V.int) (i : Int) = some (.int (ns[i])) := atI_nat (by rw [List.getElem?_map, List.getElem?_eq_getElem h]; rfl)
def dotL (xs ys : List Int) : Int := ((List.range xs.length).map fun k => xs.getD k 0 * ys.getD k 0).sum
theorem sum_lt {B : Nat} : ∀ (xs : List Int), (∀ x ∈ xs, x.natAbs < B) → xs.sum.natAbs ≤ xs.length * B
  | [], _ => by simp
  | x :: r, h => by
    have h1 := h x List.mem_cons_self
    have h2 := sum_lt r fun y hy => h y (List.mem_cons_of_mem _ hy)
    have e : (r.length + 1) * B = r.length * B + B := Nat.succ_mul _ _
    (rw [List.sum_cons, List.length_cons, e])
    omega
theorem getD_lt {xs : List Int} {b i : Nat} (h : ∀ x ∈ xs, x.natAbs < 2 ^ b) : (xs.getD i 0).natAbs < 2 ^ b := by
  (rw [List.getD_eq_getElem?_getD])
  cases e : xs[i]? with
  | none => exact Nat.two_pow_pos b
  | some x => exact h x (List.mem_of_getElem? e)
theorem dot_lt {xs ys : List Int} {b c : Nat} (l8 : xs.length ≤ 8) (hx : ∀ x ∈ xs, x.natAbs < 2 ^ b) (hy : ∀ x ∈ ys, x.natAbs < 2 ^ c) : (dotL xs ys).natAbs < 2 ^ (b + c + 4) := by
  unfold dotL
  have h1 := sum_lt (B := 2 ^ (b + c)) ((List.range xs.length).map fun k => xs.getD k 0 * ys.getD k 0) fun z hz => by
    obtain ⟨k, _, rfl⟩ := List.mem_map.mp hz
    exact mulI (getD_lt hx) (getD_lt hy)
  rw [List.length_map, List.length_range] at h1
  have h3 : xs.length * 2 ^ (b + c) ≤ 8 * 2 ^ (b + c) := Nat.mul_le_mul_right _ l8
  have h4 : 2 ^ (b + c + 4) = 2 ^ (b + c) * 16 := by rw [Nat.pow_add]
  have h5 : 0 < 2 ^ (b + c) := Nat.two_pow_pos _
  omega
theorem getD_of {xs : List Int} {i : Nat} (h : i < xs.length) : xs.getD i 0 = xs[i] := by
  rw [List.getD_eq_getElem?_getD, List.getElem?_eq_getElem h]
  rfl
section
variable {mg : Str → Option Value} {base : Heap} {K : PySem.W.Frag} {P : Program} {w : World}
abbrev s__law_dot : Stmt := topS 51
abbrev N__law_dot : List Str := ["one", "two", "k"]
theorem sc__law_dot : FnScope N__law_dot ["one", "two"] (defScope s__law_dot) := ⟨rfl, rfl, rfl, by decide +kernel, rfl, by decide +kernel, by decide +kernel⟩
def spDot : Sp := fun vs H Q _ => ∃ (p q : Addr) (xs ys : List Int) (b c : Nat), vs = [.ref p, .ref q] ∧ H p = some (.lst (xs.map V.int)) ∧ H q = some (.lst (ys.map V.int)) ∧ xs.length = ys.length ∧ xs.length ≤ 8 ∧ b ≤ 1000 ∧ c ≤ 1000 ∧
  (∀ x ∈ xs, x.natAbs < 2 ^ b) ∧ (∀ x ∈ ys, x.natAbs < 2 ^ c) ∧ ∀ H', Same H H' → Q (.int (dotL xs ys)) H'
theorem ok_dot (T : Gs K mg) (F : At K mg "_law_dot" s__law_dot) : Df P w K mg base "_law_dot" 1 ["one", "two"] spDot := by
  have sc := sc__law_dot
  refine Df.mk' F sc (fun vs H Q E h => ?_) (fun _ _ _ _ _ _ us hl => match us, hl with | [_, _], _ => rfl) (fun f cdv A outer s H vs Q E hr h => ?_)
  · obtain ⟨p, q, xs, ys, b, c, rfl, _⟩ := h
    rfl
  · obtain ⟨p, q', xs, ys, b, c, rfl, hp, hq, hl, l8, hb, hc, bx, by', q⟩ := h
    refine ⟨_, (pss_one (ps_ret (pe_callB (cr_sum rfl) (by rfl) T.sum (by decide +kernel) (pa_cons (pe_lc (own := [("k", 2)]) (g := gName 2) rfl sc.nd (pi_range1 rfl T.range (pa_cons (pe_callB call_len_seq (by rfl) T.len PySem.boot_len (pa_cons (pv 0) pa_nil)) pa_nil)) (blkOk_by (own := [("k", 2)]) (N := N__law_dot) (sc := defScope s__law_dot) (by decide +kernel)) (fun _ _ _ _ _ => (pg_name (i := 2) sc.nd rfl (.inl rfl))) (fun _ _ _ _ _ => pts_nil) (fun _ _ _ _ _ => (pe_op op_mulW (pe_ix (ixLK (K := K) rfl) (pv 0) (pv 2) (fun _ _ => rfl)) (pe_ix (ixLK (K := K) rfl) (pv 1) (pv 2) (fun _ _ => rfl))))) pa_nil)))), ?_⟩
    refine ⟨_, rfl, p, _, rfl, .inl (SqL.of hp), ?_⟩
    refine ⟨_, rfl, by omega, by rw [List.length_map]; omega, fun D hD => lc_range (lo := 0) (n := _) (fun i H' => Same H H' ∧ H' D = some (.lst (((List.range i).map fun k => xs.getD k 0 * ys.getD k 0).map V.int))) ⟨same_upd hD, upd_same⟩ ?_ ?_⟩
    · rintro i H' hi ⟨sm, hz⟩
      have hi' : i < xs.length := by
        rw [List.length_map] at hi
        omega
      have hi2 : i < ys.length := by omega
      refine ⟨rfl, yesIf ?_⟩
      have e0 : ((0 : Int) + (i : Int)) = (i : Int) := Int.zero_add _
      have b1 := bx _ (List.getElem_mem hi')
      have b2 := by' _ (List.getElem_mem hi2)
      refine ⟨_, rfl, _, rfl, p, _, _, .int xs[i], rfl, rfl, SqL.of (sm _ _ hp), ?_, ?_⟩
      · rw [e0]
        exact atMap hi'
      refine ⟨_, rfl, _, rfl, q', _, _, .int ys[i], rfl, rfl, SqL.of (sm _ _ hq), ?_, ?_⟩
      · rw [e0]
        exact atMap hi2
      refine ⟨_, _, rfl, rfl, wide_mul (a := b + 1) (b := c + 1) (Nat.lt_of_lt_of_le b1 (pw (by omega))) (Nat.lt_of_lt_of_le b2 (pw (by omega))) (by omega) (by omega) (by omega), ?_⟩
      refine ⟨_, hz, small1000 (by rw [List.length_map, List.length_map, List.length_range]; omega), same_updN sm hD, ?_⟩
      rw [upd_same, List.range_succ, List.map_append, List.map_append]
      show some (HO.lst (_ ++ [V.int (xs[i] * ys[i])])) = some (HO.lst (_ ++ [V.int (xs.getD i 0 * ys.getD i 0)]))
      rw [getD_of hi', getD_of hi2]
    · rintro H' ⟨sm, hz⟩
      refine ⟨D, _, rfl, SqL.of hz, ?_⟩
      have e : (((xs.map V.int).length : Int)).toNat = xs.length := by
        rw [List.length_map]
        omega
      rw [e]
      exact q H' sm
/-- the row with a number at one place, 0 elsewhere -/
def aloneR (xs : List Int) (i : Nat) : List Int := (List.range xs.length).map fun j => if i = j then xs.getD i 0 else 0
def alongM (xs : List Int) : List (List Int) := (List.range xs.length).map (aloneR xs)
abbrev s__law_along : Stmt := topS 54
abbrev N__law_along : List Str := ["numbers", "size", "i", "j"]
theorem sc__law_along : FnScope N__law_along ["numbers"] (defScope s__law_along) := ⟨rfl, rfl, rfl, by decide +kernel, rfl, by decide +kernel, by decide +kernel⟩
def spAlong : Sp := fun vs H Q _ => ∃ (p : Addr) (xs : List Int), vs = [.ref p] ∧ H p = some (.lst (xs.map V.int)) ∧ xs.length ≤ 8 ∧ ∀ H' p' ps, Same H H' → H p' = none → Mx H' p' ps (alongM xs) → (∀ x ∈ ps, H x = none) → Q (.ref p') H'
/-- a list of rows grows -/
structure Grow (H0 H : Hp) (D : Addr) (ps : List Addr) (M : List (List Int)) : Prop where
  mx : Mx H D ps M
  new : ∀ x ∈ ps, H0 x = none
theorem Grow.start {H : Hp} {D : Addr} (hD : H D = none) : Grow H (upd H D (.lst [])) D [] [] :=
  ⟨⟨upd_same, List.not_mem_nil, List.nodup_nil, rfl, fun i q r h => by simp at h⟩, fun x hx => by cases hx⟩
theorem Grow.snoc {H0 H1 H2 : Hp} {D D2 : Addr} {ps : List Addr} {M : List (List Int)} {r : List Int} (g : Grow H0 H1 D ps M) (s12 : ∀ b o, H1 b = some o → H2 b = some o) (s01 : ∀ b o, b ≠ D → H0 b = some o → H1 b = some o) (n2 : H1 D2 = none) (h2 : H2 D2 = some (.lst (r.map V.int))) (hD0 : H0 D = none) :
    Grow H0 (upd H2 D (.lst (ps.map V.ref ++ [.ref D2]))) D (ps ++ [D2]) (M ++ [r]) := by
  have hne : D2 ≠ D := fun z => by
    rw [z, g.mx.at_] at n2
    cases n2
  have fresh : D2 ∉ ps := fun hm => by
    obtain ⟨i, hi⟩ := List.getElem?_of_mem hm
    have hl : i < M.length := by
      (have := (List.getElem?_eq_some_iff.mp hi).1)
      rw [g.mx.len] at this
      exact this
    have := g.mx.row i D2 _ hi (List.getElem?_eq_getElem hl)
    rw [n2] at this
    cases this
  refine ⟨⟨?_, ?_, ?_, ?_, fun i q r' hq hr => ?_⟩, fun x hx => ?_⟩
  · rw [upd_same, List.map_append]
    rfl
  · intro hm
    rcases List.mem_append.mp hm with h | h
    · exact g.mx.out h
    · exact hne (List.mem_singleton.mp h).symm
  · rw [List.nodup_append]
    refine ⟨g.mx.nd, by simp, fun x hx y hy => ?_⟩
    rw [List.mem_singleton.mp hy]
    exact fun z => fresh (z ▸ hx)
  · rw [List.length_append, List.length_append, g.mx.len]
    rfl
  · have hl := g.mx.len
    by_cases c : i < ps.length
    · rw [List.getElem?_append_left c] at hq
      rw [List.getElem?_append_left (by omega)] at hr
      rw [upd_ne (fun z => g.mx.out (by rw [← z]; exact List.mem_of_getElem? hq))]
      exact s12 _ _ (g.mx.row i q r' hq hr)
    · have hi : i = ps.length := by
        have := (List.getElem?_eq_some_iff.mp hq).1
        rw [List.length_append] at this
        have h1 : ([D2] : List Addr).length = 1 := rfl
        omega
      subst hi
      rw [List.getElem?_append_right (Nat.le_refl _), Nat.sub_self] at hq
      rw [List.getElem?_append_right (by omega), hl, Nat.sub_self] at hr
      have e1 : D2 = q := Option.some.inj hq
      have e2 : r = r' := Option.some.inj hr
      subst e1 e2
      rw [upd_ne hne]
      exact h2
  · rcases List.mem_append.mp hx with h | h
    · exact g.new x h
    · rw [List.mem_singleton.mp h]
      cases e : H0 D2 with
      | none => rfl
      | some o =>
        have := s01 _ _ hne e
        rw [n2] at this
        cases this
theorem ok_along (T : Gs K mg) (F : At K mg "_law_along" s__law_along) : Df P w K mg base "_law_along" 1 ["numbers"] spAlong := by
  have sc := sc__law_along
  refine Df.mk' F sc (fun vs H Q E h => ?_) (fun _ _ _ _ _ _ us hl => match us, hl with | [_], _ => rfl) (fun f cdv A outer s H vs Q E hr h => ?_)
  · obtain ⟨p, xs, rfl, _⟩ := h
    rfl
  · obtain ⟨p, xs, rfl, hp, l8, q⟩ := h
    refine ⟨_, (pss_cons (ps_set (i := 1) sc.nd rfl (.inr rfl) (pe_callB call_len_seq (by rfl) T.len PySem.boot_len (pa_cons (pv 0) pa_nil))) (pss_one (ps_ret (pe_lc (own := [("i", 2)]) (g := gName 2) rfl sc.nd (pi_range1 rfl T.range (pa_cons (pv 1) pa_nil)) (blkOk_by (own := [("i", 2)]) (N := N__law_along) (sc := defScope s__law_along) (by decide +kernel)) (fun _ _ _ _ _ => (pg_name (i := 2) sc.nd rfl (.inr rfl))) (fun _ _ _ _ _ => pts_nil) (fun _ _ _ _ _ => (pe_lc (own := [("j", 3)]) (g := gName 3) rfl sc.nd (pi_range1 rfl T.range (pa_cons (pv 1) pa_nil)) (blkOk_by (own := [("j", 3)]) (N := N__law_along) (sc := ({ kind := .function, names := [(".0", .local), ("i", .cell), ("range", .globalImplicit), ("numbers", .cell), ("size", .cell)], isGenerator := false, isCoroutine := false } : Scope)) (by decide +kernel)) (fun _ _ _ _ _ => (pg_name (i := 3) sc.nd rfl (.inl rfl))) (fun _ _ _ _ _ => pts_nil) (fun _ _ _ _ _ => (pe_ifExp (pt_cmpR op_eq (pv 2) (pv 3) (nomark _)) (pe_ix (ixLK (K := K) rfl) (pv 0) (pv 2) (fun _ _ => rfl)) pe_int)))))))), ?_⟩
    refine ⟨_, rfl, p, _, rfl, .inl (SqL.of hp), ?_⟩
    refine ⟨_, rfl, _, rfl, by omega, by rw [List.length_map]; omega, fun D hD => lc_range (lo := 0) (n := _) (fun i H' => Same H H' ∧ ∃ ps, Grow H H' D ps ((List.range i).map (aloneR xs)))
      ⟨same_upd hD, [], Grow.start hD⟩ ?_ ?_⟩
    · rintro i H1 hi ⟨sm, ps, g⟩
      have hi' : i < xs.length := by
        rw [List.length_map] at hi
        omega
      refine ⟨rfl, yesIf ?_⟩
      refine ⟨_, rfl, _, rfl, by omega, by rw [List.length_map]; omega, fun D2 hD2 => lc_range (lo := 0) (n := _) (fun j H' => Same H1 H' ∧ H' D2 = some (.lst (((List.range j).map fun j => if i = j then xs.getD i 0 else 0).map V.int)))
        ⟨same_upd hD2, upd_same⟩ ?_ ?_⟩
      · rintro j H2 hj ⟨sm2, hz⟩
        have hj' : j < xs.length := by
          rw [List.length_map] at hj
          omega
        refine ⟨rfl, yesIf ?_⟩
        have fin : ∀ z : Int, z = (if i = j then xs.getD i 0 else 0) → ∃ acc, H2 D2 = some (.lst acc) ∧ acc.length < sizeLine ∧ Same H1 (upd H2 D2 (.lst (acc ++ [.int z]))) ∧ (upd H2 D2 (.lst (acc ++ [.int z]))) D2 = some (.lst (((List.range (j + 1)).map fun j => if i = j then xs.getD i 0 else 0).map V.int)) := fun z ez => by
          refine ⟨_, hz, small1000 (by rw [List.length_map, List.length_map, List.length_range]; omega), same_updN sm2 hD2, ?_⟩
          rw [upd_same, List.range_succ, List.map_append, List.map_append, ez]
          rfl
        refine ⟨_, rfl, _, rfl, rfl, _, rfl, if2 (fun e => ?_) (fun e => ?_)⟩
        · have e' : i = j := by
            have := of_decide_eq_true e
            have := V.int.inj this
            omega
          refine ⟨_, rfl, _, rfl, p, _, _, .int xs[i], rfl, rfl, SqL.of (sm2 _ _ (sm _ _ hp)), ?_, ?_⟩
          · rw [Int.zero_add]
            exact atMap hi'
          · exact fin _ (by rw [if_pos e', getD_of hi'])
        · have e' : i ≠ j := fun z => by
            have := of_decide_eq_false e
            exact this (by rw [z])
          exact fin 0 (by rw [if_neg e'])
      · rintro H2 ⟨sm2, hz⟩
        have en : (((xs.map V.int).length : Int)).toNat = xs.length := by
          rw [List.length_map]
          omega
        rw [en] at hz
        have hl : ps.length ≤ 8 := by
          rw [g.mx.len, List.length_map, List.length_range]
          omega
        refine ⟨_, sm2 _ _ g.mx.at_, small1000 (by rw [List.length_map]; omega), same_updN (sm.trans sm2) hD, ps ++ [D2], ?_⟩
        rw [List.range_succ, List.map_append]
        exact g.snoc (fun b o e => sm2 b o e) (fun b o _ e => sm b o e) hD2 hz hD
    · rintro H' ⟨sm, ps, g⟩
      have en : (((xs.map V.int).length : Int)).toNat = xs.length := by
        rw [List.length_map]
        omega
      rw [en] at g
      exact q H' D ps sm hD g.mx g.new
end
end V3
namespace V3
open PySem.Spec PySem L2 PyProof.Rows RZ GxR
/-- n rows of n numbers below 2 ^ b -/
structure Bn (n b : Nat) (M : List (List Int)) : Prop where
  len : M.length = n
  row : ∀ r ∈ M, r.length = n ∧ ∀ x ∈ r, x.natAbs < 2 ^ b
theorem mem_le_sum : ∀ (l : List Int), (∀ x ∈ l, 0 ≤ x) → ∀ x ∈ l, x ≤ l.sum
  | [], _, x, h => by cases h
  | y :: r, k, x, h => by
    have h0 : 0 ≤ r.sum := by
      cases r with
      | nil => exact Int.le_refl 0
      | cons z t => exact Int.le_trans (k z (List.mem_cons_of_mem _ List.mem_cons_self)) (mem_le_sum (z :: t) (fun u hu => k u (List.mem_cons_of_mem _ hu)) z List.mem_cons_self)
    have hy := k y List.mem_cons_self
    rw [List.sum_cons]
    (rcases List.mem_cons.mp h with e | e)
    · rw [e]
      omega
    · have := mem_le_sum r (fun u hu => k u (List.mem_cons_of_mem _ hu)) x e
      omega
theorem sq_nonneg' (x : Int) : 0 ≤ x * x := by
  (rcases Int.le_total 0 x with h | h)
  · exact Int.mul_nonneg h h
  · exact Int.mul_nonneg_of_nonpos_of_nonpos h h
theorem dot_self_pos {xs : List Int} (h0 : 0 < xs.length) (h1 : xs.getD 0 0 = 1) : 0 < dotL xs xs := by
  unfold dotL
  have := mem_le_sum ((List.range xs.length).map fun k => xs.getD k 0 * xs.getD k 0) (fun x hx => by
    obtain ⟨k, _, rfl⟩ := List.mem_map.mp hx
    exact sq_nonneg' _) (xs.getD 0 0 * xs.getD 0 0) (List.mem_map.mpr ⟨0, List.mem_range.mpr h0, rfl⟩)
  rw [h1] at this
  omega
/-- a mirror, times a number: what it is -/
def mirR (e : List Int) (i : Nat) : List Int := (List.range e.length).map fun j => (if i = j then dotL e e else 0) - 2 * e.getD i 0 * e.getD j 0
def mirM (e : List Int) : List (List Int) := (List.range e.length).map (mirR e)
theorem mir_bn {e : List Int} (l : e.length ≤ 5) (h : ∀ x ∈ e, x.natAbs < 2 ^ 2) : Bn e.length 20 (mirM e) := by
  refine ⟨by simp [mirM], fun r hr => ?_⟩
  obtain ⟨i, _, rfl⟩ := List.mem_map.mp hr
  refine ⟨by simp [mirR], fun x hx => ?_⟩
  obtain ⟨j, _, rfl⟩ := List.mem_map.mp hx
  have e1 := getD_lt (i := i) h
  have e2 := getD_lt (i := j) h
  have br : (dotL e e).natAbs < 2 ^ 8 := dot_lt (by omega) h h
  have m1 : ((2 : Int) * e.getD i 0).natAbs < 2 ^ 4 := mulI (a := 2) (b := 2) (by decide) e1
  have m2 : ((2 : Int) * e.getD i 0 * e.getD j 0).natAbs < 2 ^ 6 := mulI (b := 2) m1 e2
  have b8 : (if i = j then dotL e e else 0).natAbs < 2 ^ 8 := by
    split
    · exact br
    · decide
  exact Nat.lt_of_lt_of_le (sub_lt_pw (a := 8) b8 (Nat.lt_of_lt_of_le m2 (pw (by decide)))) (pw (by decide))
theorem dot_self_nn (xs : List Int) : 0 ≤ dotL xs xs := by
  unfold dotL
  have : ∀ l : List Int, (∀ x ∈ l, 0 ≤ x) → 0 ≤ l.sum := fun l => by
    induction l with
    | nil => exact fun _ => Int.le_refl 0
    | cons y r ih =>
      intro k
      have h1 := k y List.mem_cons_self
      have h2 := ih fun x hx => k x (List.mem_cons_of_mem _ hx)
      rw [List.sum_cons]
      omega
  exact this _ fun x hx => by
    obtain ⟨k, _, rfl⟩ := List.mem_map.mp hx
    exact sq_nonneg' _
section
variable {mg : Str → Option Value} {base : Heap} {K : PySem.W.Frag} {P : Program} {w : World}
abbrev s__law_mirror : Stmt := topS 53
abbrev N__law_mirror : List Str := ["well", "size", "eye", "by", "turn", "i", "j"]
theorem sc__law_mirror : FnScope N__law_mirror ["well", "size"] (defScope s__law_mirror) := ⟨rfl, rfl, rfl, by decide +kernel, rfl, by decide +kernel, by decide +kernel⟩
def spMirror : Sp := fun vs H Q _ => ∃ (a : Addr) (n k : Nat), vs = [.ref a, .int n] ∧ Well H a k ∧ k ≤ 900000 ∧ 1 ≤ n ∧ n ≤ 5 ∧ ∀ H' p pm z ps M, But a H H' → Well H' a (k + 5) → H' p = some (.tup [.ref pm, .int z]) → a ≠ pm → Mx H' pm ps M → Bn n 20 M → (∀ x ∈ ps, a ≠ x) → z.natAbs < 2 ^ 40 → 0 < z → (∃ e : List Int, e.length = n ∧ M = mirM e ∧ z = dotL e e * dotL e e ∧ 0 < dotL e e) → Q (.ref p) H'
theorem ok_mirror (T : Gs K mg) (D__law_pick : Df P w K mg base "_law_pick" 2 ["well", "some"] (spPick K)) (D__law_dot : Df P w K mg base "_law_dot" 1 ["one", "two"] spDot) (F : At K mg "_law_mirror" s__law_mirror) : Df P w K mg base "_law_mirror" 3 ["well", "size"] spMirror := by
  have sc := sc__law_mirror
  refine Df.mk' F sc (fun vs H Q E h => ?_) (fun _ _ _ _ _ _ us hl => match us, hl with | [_, _], _ => rfl) (fun f cdv A outer s H vs Q E hr h => ?_)
  · obtain ⟨a, n, k, rfl, _⟩ := h
    rfl
  · obtain ⟨a, n, k, rfl, hw, kl, n1, n5, q⟩ := h
    refine ⟨_, (pss_cons (ps_set (i := 2) sc.nd rfl (.inr rfl) (pe_lc (own := [("turn", 4)]) (g := gName 4) rfl sc.nd (pi_range1 rfl T.range (pa_cons (pv 1) pa_nil)) (blkOk_by (own := [("turn", 4)]) (N := N__law_mirror) (sc := defScope s__law_mirror) (by decide +kernel)) (fun _ _ _ _ _ => (pg_name (i := 4) sc.nd rfl (.inl rfl))) (fun _ _ _ _ _ => pts_nil) (fun _ _ _ _ _ => (pe_fn D__law_pick (by decide) hr (pa_cons (pv 0) (pa_cons (pe_lst (pa_cons pe_int (pa_cons pe_int (pa_cons (pe_un un_neg pe_int) (pa_cons pe_int (pa_cons pe_int (pa_cons pe_int pa_nil))))))) pa_nil)))))) (pss_cons (ps_if (pt_cmpR op_eq (pe_fn D__law_dot (by decide) hr (pa_cons (pv 2) (pa_cons (pv 2) pa_nil))) pe_int (nomark _)) (pss_one (ps_asg pe_int (pg_sub (pv 2) pe_int set_list))) pss_nil) (pss_cons (ps_set (i := 3) sc.nd rfl (.inr rfl) (pe_fn D__law_dot (by decide) hr (pa_cons (pv 2) (pa_cons (pv 2) pa_nil)))) (pss_one (ps_ret (pe_tup (pa_cons (pe_lc (own := [("i", 5)]) (g := gName 5) rfl sc.nd (pi_range1 rfl T.range (pa_cons (pv 1) pa_nil)) (blkOk_by (own := [("i", 5)]) (N := N__law_mirror) (sc := defScope s__law_mirror) (by decide +kernel)) (fun _ _ _ _ _ => (pg_name (i := 5) sc.nd rfl (.inr rfl))) (fun _ _ _ _ _ => pts_nil) (fun _ _ _ _ _ => (pe_lc (own := [("j", 6)]) (g := gName 6) rfl sc.nd (pi_range1 rfl T.range (pa_cons (pv 1) pa_nil)) (blkOk_by (own := [("j", 6)]) (N := N__law_mirror) (sc := ({ kind := .function, names := [(".0", .local), ("i", .cell), ("range", .globalImplicit), ("by", .cell), ("eye", .cell), ("size", .cell)], isGenerator := false, isCoroutine := false } : Scope)) (by decide +kernel)) (fun _ _ _ _ _ => (pg_name (i := 6) sc.nd rfl (.inl rfl))) (fun _ _ _ _ _ => pts_nil) (fun _ _ _ _ _ => (pe_op op_sub (pe_ifExp (pt_cmpR op_eq (pv 5) (pv 6) (nomark _)) (pv 3) pe_int) (pe_op op_mulW (pe_op op_mulW pe_int (pe_ix (ixLK (K := K) rfl) (pv 2) (pv 5) (fun _ _ => rfl))) (pe_ix (ixLK (K := K) rfl) (pv 2) (pv 6) (fun _ _ => rfl)))))))) (pa_cons (pe_op op_mulW (pv 3) (pv 3)) pa_nil)))))))), ?_⟩
    have hne : ∀ {D : Addr}, H D = none → a ≠ D := fun e => hw.ne e
    refine ⟨_, rfl, _, rfl, by omega, by omega, fun D hD => lc_range (lo := 0) (n := _) (fun i H' => But a H H' ∧ Well H' a (k + i) ∧ ∃ zs : List Int, H' D = some (.lst (zs.map V.int)) ∧ zs.length = i ∧ ∀ z ∈ zs, z.natAbs < 2 ^ 2)
      ⟨Same.but (same_upd hD), hw.same (same_upd hD), [], upd_same, rfl, fun z hz => by cases hz⟩ ?_ ?_⟩
    · rintro i H1 hi ⟨b1, w1, zs, hz, lz, kz⟩
      have hi' : i < n := by omega
      refine ⟨rfl, yesIf ?_⟩
      refine ⟨_, rfl, _, rfl, by show 6 ≤ sizeLine; decide, fun pl hpl => ?_⟩
      have s2 : Same H1 (upd H1 pl (.lst (([1, 1, -1, 2, 3, 0] : List Int).map V.int))) := same_upd hpl
      refine ⟨a, pl, ([1, 1, -1, 2, 3, 0] : List Int).map V.int, k + i, rfl, w1.same s2, by omega, upd_same, w1.ne hpl, by decide, by decide, fun H2 j x b2 w2 hx => ?_⟩
      obtain ⟨z, rfl, hm⟩ := mem6 hx
      have bz : z.natAbs < 2 ^ 2 := by
        (simp only [List.mem_cons, List.not_mem_nil, or_false] at hm)
        omega
      have hz2 : H2 D = some (.lst (zs.map V.int)) := b2 _ _ (Ne.symm (hne hD)) (s2 _ _ hz)
      refine ⟨_, hz2, small1000 (by rw [List.length_map]; omega), ((b1.trans (Same.but s2)).trans b2).updN hD, w2.upd (hne hD), zs ++ [z], ?_, by rw [List.length_append, lz]; rfl, fun y hy => ?_⟩
      · rw [upd_same, List.map_append]
        rfl
      · rcases List.mem_append.mp hy with h | h
        · exact kz y h
        · rw [List.mem_singleton.mp h]
          exact bz
    · rintro H1 ⟨b1, w1, zs, hz, lz, kz⟩
      have lz' : zs.length = n := by omega
      refine ⟨_, rfl, _, rfl, D, D, zs, zs, 2, 2, rfl, hz, hz, rfl, by omega, by decide, by decide, kz, kz, fun H2 s2 => ?_⟩
      refine ⟨rfl, _, rfl, if2 (fun e => ?a) (fun e => ?b)⟩
      case' a =>
        have hz2 := s2 _ _ hz
        refine ⟨_, rfl, D, _, _, 0, rfl, rfl, hz2, ixNat rfl (by rw [List.length_map]; omega), ?_⟩
        have hz3 : (upd H2 D (.lst ((zs.map V.int).set 0 (.int 1)))) D = some (.lst ((zs.set 0 1).map V.int)) := by rw [upd_same, List.map_set]
        have b3 : But a H (upd H2 D (.lst ((zs.map V.int).set 0 (.int 1)))) := (b1.trans (Same.but s2)).updN hD
        have w3 : Well (upd H2 D (.lst ((zs.map V.int).set 0 (.int 1)))) a (k + 5) := ((w1.same s2).mono (by omega)).upd (hne hD)
        have l3 : (zs.set 0 1).length = n := by rw [List.length_set]; exact lz'
        have k3 : ∀ z ∈ zs.set 0 1, z.natAbs < 2 ^ 2 := fun z hz' => by
          rcases List.mem_or_eq_of_mem_set hz' with h | h
          · exact kz z h
          · rw [h]
            decide
        generalize upd H2 D (.lst ((zs.map V.int).set 0 (.int 1))) = H3 at hz3 b3 w3
        have d3 : 0 < dotL (zs.set 0 1) (zs.set 0 1) := dot_self_pos (by omega) (by
            rw [List.getD_eq_getElem?_getD, List.getElem?_set_self (by omega)]
            rfl)
        generalize zs.set 0 1 = z3 at hz3 l3 k3 d3
      case' b =>
        have hz3 := s2 _ _ hz
        have b3 : But a H H2 := b1.trans (Same.but s2)
        have w3 : Well H2 a (k + 5) := (w1.same s2).mono (by omega)
        have l3 := lz'
        have k3 := kz
        generalize H2 = H3 at hz3 b3 w3
        have d3 : 0 < dotL zs zs := by
          have z : dotL zs zs ≠ 0 := fun z => by
            have := of_decide_eq_false e
            exact this (by rw [z])
          have z2 : 0 ≤ dotL zs zs := dot_self_nn zs
          omega
        generalize zs = z3 at hz3 l3 k3 d3
      all_goals
        clear hz s2 lz lz' kz w1 b1
        refine ⟨_, rfl, _, rfl, D, D, z3, z3, 2, 2, rfl, hz3, hz3, rfl, by omega, by decide, by decide, k3, k3, fun H4 s4 => ?_⟩
        have br : (dotL z3 z3).natAbs < 2 ^ 8 := dot_lt (by omega) k3 k3
        have bm := mir_bn (e := z3) (by omega) k3
        rw [l3] at bm
        generalize hr : dotL z3 z3 = r at br d3
        have hz4 := s4 _ _ hz3
        have hg : ∀ k : Nat, k < z3.length → z3[k]? = some (z3.getD k 0) := fun k hk => by
          rw [List.getD_eq_getElem?_getD, List.getElem?_eq_getElem hk]
          rfl
        have at3 : ∀ k : Nat, k < z3.length → atI (z3.map V.int) ((0 : Int) + (k : Int)) = some (.int (z3.getD k 0)) := fun k hk => at_of (Int.zero_add _) (by rw [List.getElem?_map, hg k hk]; rfl)
        refine ⟨_, rfl, _, rfl, by omega, by omega, fun D1 hD1 => lc_range (lo := 0) (n := _) (fun i H' => Same H4 H' ∧ ∃ ps, Grow H4 H' D1 ps ((List.range i).map (mirR z3)))
          ⟨same_upd hD1, [], Grow.start hD1⟩ ?_ ?_⟩
        · rintro i H5 hi ⟨sm, ps, g⟩
          have hi' : i < z3.length := by omega
          refine ⟨rfl, yesIf ?_⟩
          refine ⟨_, rfl, _, rfl, by omega, by omega, fun D2 hD2 => lc_range (lo := 0) (n := _) (fun j H' => Same H5 H' ∧ H' D2 = some (.lst (((List.range j).map fun j => (if i = j then r else 0) - 2 * z3.getD i 0 * z3.getD j 0).map V.int)))
            ⟨same_upd hD2, upd_same⟩ ?_ ?_⟩
          · rintro j H6 hj ⟨sm2, hzz⟩
            have hj' : j < z3.length := by omega
            have hz6 := sm2 _ _ (sm _ _ hz4)
            refine ⟨rfl, yesIf ?_⟩
            have e1 := getD_lt (i := i) k3
            have e2 := getD_lt (i := j) k3
            have m1 : ((2 : Int) * z3.getD i 0).natAbs < 2 ^ 4 := mulI (a := 2) (b := 2) (by decide) e1
            have fin : ∀ x : Int, x = (if i = j then r else 0) → ∃ acc, H6 D2 = some (.lst acc) ∧ acc.length < sizeLine ∧ Same H5 (upd H6 D2 (.lst (acc ++ [.int (x - 2 * z3.getD i 0 * z3.getD j 0)]))) ∧ (upd H6 D2 (.lst (acc ++ [.int (x - 2 * z3.getD i 0 * z3.getD j 0)]))) D2 = some (.lst (((List.range (j + 1)).map fun j => (if i = j then r else 0) - 2 * z3.getD i 0 * z3.getD j 0).map V.int)) := fun x bx => by
              refine ⟨_, hzz, small1000 (by rw [List.length_map, List.length_map, List.length_range]; omega), same_updN sm2 hD2, ?_⟩
              rw [upd_same, List.range_succ, List.map_append, List.map_append, bx]
              rfl
            refine ⟨_, rfl, _, rfl, rfl, _, rfl, if2 (fun e => ?_) (fun e => ?_)⟩
            · have eij : r = (if i = j then r else 0) := by
                rw [if_pos]
                have := of_decide_eq_true e
                injection this with this
                omega
              refine ⟨_, rfl, _, rfl, _, rfl, D, _, _, .int (z3.getD i 0), rfl, rfl, SqL.of hz6, at3 i hi', ?_⟩
              refine ⟨_, _, rfl, rfl, wide_mul (a := 2) (b := 2) (by decide) e1 (by decide) (by decide) (by decide), ?_⟩
              refine ⟨_, rfl, _, rfl, D, _, _, .int (z3.getD j 0), rfl, rfl, SqL.of hz6, at3 j hj', ?_⟩
              refine ⟨_, _, rfl, rfl, wide_mul (a := 4) (b := 2) m1 e2 (by decide) (by decide) (by decide), ?_⟩
              refine ⟨_, _, rfl, rfl, ?_⟩
              exact fin _ eij
            · have eij : (0 : Int) = (if i = j then r else 0) := by
                rw [if_neg]
                intro z
                have := of_decide_eq_false e
                exact this (by rw [z])
              refine ⟨_, rfl, _, rfl, D, _, _, .int (z3.getD i 0), rfl, rfl, SqL.of hz6, at3 i hi', ?_⟩
              refine ⟨_, _, rfl, rfl, wide_mul (a := 2) (b := 2) (by decide) e1 (by decide) (by decide) (by decide), ?_⟩
              refine ⟨_, rfl, _, rfl, D, _, _, .int (z3.getD j 0), rfl, rfl, SqL.of hz6, at3 j hj', ?_⟩
              refine ⟨_, _, rfl, rfl, wide_mul (a := 4) (b := 2) m1 e2 (by decide) (by decide) (by decide), ?_⟩
              refine ⟨_, _, rfl, rfl, ?_⟩
              exact fin _ eij
          · rintro H6 ⟨sm2, hzz⟩
            refine ⟨_, sm2 _ _ g.mx.at_, small1000 (by rw [List.length_map, g.mx.len, List.length_map, List.length_range]; omega), same_updN (sm.trans sm2) hD1, ps ++ [D2], ?_⟩
            rw [List.range_succ, List.map_append]
            have en : (n : Int).toNat = z3.length := by omega
            rw [en] at hzz
            refine g.snoc (fun b o e => sm2 b o e) (fun b o _ e => sm b o e) hD2 ?_ hD1
            rw [hzz]
            show _ = some (HO.lst ((mirR z3 i).map V.int))
            unfold mirR
            rw [hr]
        · rintro H5 ⟨sm, ps, g⟩
          have en : (n : Int).toNat = z3.length := by omega
          rw [en] at g
          refine ⟨_, rfl, _, rfl, _, _, rfl, rfl, wide_mul (a := 8) (b := 8) br br (by decide) (by decide) (by decide), by show 2 ≤ sizeLine; decide, fun p hp => ?_⟩
          have s5 := same_upd (o := .tup [.ref D1, .int (r * r)]) hp
          have s45 := s4.trans (sm.trans s5)
          have w4 := w3.same s4
          refine q _ p D1 (r * r) ps (mirM z3) (b3.trans (Same.but s45)) (w3.same s45) upd_same (w4.ne hD1) (g.mx.same s5) bm (fun x hx => w4.ne (g.new x hx)) (Nat.lt_of_lt_of_le (mulI br br) (pw (by decide))) (Int.mul_pos d3 d3) ⟨z3, l3, rfl, by rw [hr], by rw [hr]; exact d3⟩
end
end V3
namespace V3
open PySem.Spec PySem L2 PyProof.Rows RZ GxR
def ledR (G : List (List Int)) (w : List Int) : List Int := G.map fun g => dotL g w
def framedM (W G : List (List Int)) : List (List Int) := W.map fun w => W.map fun w2 => dotL w (ledR G w2)
theorem getD_map' {α β : Type} (f : α → β) (a0 : α) (b0 : β) {xs : List α} {i : Nat} (h : i < xs.length) : (xs.map f).getD i b0 = f (xs.getD i a0) := by
  rw [List.getD_eq_getElem?_getD, List.getD_eq_getElem?_getD, List.getElem?_map, List.getElem?_eq_getElem h]
  rfl
theorem getD_range {β : Type} (f : Nat → β) (b0 : β) {n i : Nat} (h : i < n) : ((List.range n).map f).getD i b0 = f i := by
  (rw [List.getD_eq_getElem?_getD, List.getElem?_map, List.getElem?_range h])
  rfl
theorem sum_zero : ∀ m : Nat, ((List.range m).map fun _ => (0 : Int)).sum = 0
  | 0 => rfl
  | m + 1 => by
    rw [List.range_succ, List.map_append, List.sum_append, sum_zero m]
    rfl
theorem sum_alone (n i : Nat) (x : Int) (g : Nat → Int) (hi : i < n) : ((List.range n).map fun k => (if i = k then x else 0) * g k).sum = x * g i := by
  induction n with
  | zero => omega
  | succ n ih =>
    rw [List.range_succ, List.map_append, List.sum_append]
    have e1 : (List.map (fun k => (if i = k then x else 0) * g k) [n]).sum = (if i = n then x else 0) * g n := by simp
    rw [e1]
    by_cases c : i = n
    · subst c
      have z : ((List.range i).map fun k => (if i = k then x else 0) * g k).sum = 0 := by
        have : ((List.range i).map fun k => (if i = k then x else 0) * g k) = (List.range i).map fun _ => (0 : Int) := by
          refine List.map_congr_left fun k hk => ?_
          have := List.mem_range.mp hk
          rw [if_neg (by omega), Int.zero_mul]
        rw [this]
        exact sum_zero i
      rw [z, if_pos rfl]
      omega
    · rw [ih (by omega), if_neg c]
      omega
theorem alone_len (xs : List Int) (i : Nat) : (aloneR xs i).length = xs.length := by simp [aloneR]
theorem along_len (xs : List Int) : (alongM xs).length = xs.length := by simp [alongM]
theorem dot_alone {xs w : List Int} {i : Nat} (h : i < xs.length) (hw : w.length = xs.length) : dotL (aloneR xs i) w = xs.getD i 0 * w.getD i 0 := by
  unfold dotL
  rw [alone_len]
  have : ((List.range xs.length).map fun k => (aloneR xs i).getD k 0 * w.getD k 0) = (List.range xs.length).map fun k => (if i = k then xs.getD i 0 else 0) * w.getD k 0 := by
    refine List.map_congr_left fun k hk => ?_
    have := List.mem_range.mp hk
    congr 1
    unfold aloneR
    exact getD_range _ _ this
  rw [this]
  exact sum_alone _ _ _ _ h
theorem framed_sym {n b c : Nat} {W : List (List Int)} {xs : List Int} (hW : Bn n b W) (hx : xs.length = n) (hb : ∀ x ∈ xs, x.natAbs < 2 ^ c) (n8 : n ≤ 8) : Sy n (b + (c + b + 4) + 4) (framedM W (alongM xs)) := by
  have rowW : ∀ i, i < n → W.getD i [] ∈ W := fun i hi => by
    have hl : i < W.length := by rw [hW.len]; exact hi
    rw [List.getD_eq_getElem?_getD, List.getElem?_eq_getElem hl]
    exact List.getElem_mem hl
  have bA : ∀ i, ∀ x ∈ aloneR xs i, x.natAbs < 2 ^ c := fun i x hx' => by
    obtain ⟨j, _, rfl⟩ := List.mem_map.mp hx'
    by_cases e : i = j
    · rw [if_pos e]
      exact getD_lt hb
    · rw [if_neg e]
      exact Nat.two_pow_pos c
  have bL : ∀ w ∈ W, ∀ x ∈ ledR (alongM xs) w, x.natAbs < 2 ^ (c + b + 4) := fun w hw x hx' => by
    obtain ⟨g, hg, rfl⟩ := List.mem_map.mp hx'
    obtain ⟨i, _, rfl⟩ := List.mem_map.mp hg
    exact dot_lt (by rw [alone_len]; omega) (bA i) (hW.row w hw).2
  refine ⟨by rw [framedM, List.length_map]; exact hW.len, fun r hr => ?_, fun i j hi hj => ?_⟩
  · obtain ⟨w, hw, rfl⟩ := List.mem_map.mp hr
    refine ⟨by rw [List.length_map]; exact hW.len, fun x hx' => ?_⟩
    obtain ⟨w2, hw2, rfl⟩ := List.mem_map.mp hx'
    exact dot_lt (by rw [(hW.row w hw).1]; omega) (hW.row w hw).2 (bL w2 hw2)
  · have hWi : i < W.length := by rw [hW.len]; exact hi
    have hWj : j < W.length := by rw [hW.len]; exact hj
    have e : ∀ p q, p < n → q < n → ((framedM W (alongM xs)).getD p []).getD q 0 = ((List.range n).map fun k => (W.getD p []).getD k 0 * (xs.getD k 0 * (W.getD q []).getD k 0)).sum := fun p q hp hq => by
      have lp : p < W.length := by rw [hW.len]; exact hp
      have lq : q < W.length := by rw [hW.len]; exact hq
      unfold framedM
      rw [getD_map' (fun w => W.map fun w2 => dotL w (ledR (alongM xs) w2)) [] [] lp, getD_map' (fun w2 => dotL (W.getD p []) (ledR (alongM xs) w2)) [] 0 lq]
      unfold dotL
      rw [(hW.row _ (rowW p hp)).1]
      congr 1
      refine List.map_congr_left fun k hk => ?_
      have hk' := List.mem_range.mp hk
      congr 1
      unfold ledR alongM
      rw [List.map_map, hx, getD_range _ _ hk']
      exact dot_alone (by omega) (by rw [(hW.row _ (rowW q hq)).1, hx])
    rw [e i j hi hj, e j i hj hi]
    congr 1
    (refine List.map_congr_left fun k _ => ?_)
    grind
section
variable {mg : Str → Option Value} {base : Heap} {K : PySem.W.Frag} {P : Program} {w : World}
abbrev s__law_framed : Stmt := topS 52
abbrev N__law_framed : List Str := ["ways", "rows", "leds", "way", "row", "led"]
theorem sc__law_framed : FnScope N__law_framed ["ways", "rows"] (defScope s__law_framed) := ⟨rfl, rfl, rfl, by decide +kernel, rfl, by decide +kernel, by decide +kernel⟩
def spFramed : Sp := fun vs H Q _ => ∃ (p q : Addr) (ps qs : List Addr) (W G : List (List Int)) (n b c : Nat), vs = [.ref p, .ref q] ∧ Mx H p ps W ∧ Mx H q qs G ∧ Bn n b W ∧ Bn n c G ∧ n ≤ 5 ∧ b ≤ 100 ∧ c ≤ 100 ∧ ∀ H' r rs, Same H H' → H r = none → Mx H' r rs (framedM W G) → (∀ x ∈ rs, H x = none) → Q (.ref r) H'
theorem mxRow {H : Hp} {p : Addr} {ps : List Addr} {M : List (List Int)} {i : Nat} {x : V} (h : Mx H p ps M) (hi : (ps.map V.ref)[i]? = some x) : ∃ q r, x = .ref q ∧ ps[i]? = some q ∧ M[i]? = some r ∧ H q = some (.lst (r.map V.int)) := by
  rw [List.getElem?_map] at hi
  obtain ⟨q, hq, rfl⟩ := Option.map_eq_some_iff.mp hi
  have hl : i < M.length := by
    have := (List.getElem?_eq_some_iff.mp hq).1
    rw [h.len] at this
    exact this
  exact ⟨q, M[i], rfl, hq, List.getElem?_eq_getElem hl, h.row i q _ hq (List.getElem?_eq_getElem hl)⟩
theorem ok_framed (T : Gs K mg) (D__law_dot : Df P w K mg base "_law_dot" 1 ["one", "two"] spDot) (F : At K mg "_law_framed" s__law_framed) : Df P w K mg base "_law_framed" 2 ["ways", "rows"] spFramed := by
  have sc := sc__law_framed
  refine Df.mk' F sc (fun vs H Q E h => ?_) (fun _ _ _ _ _ _ us hl => match us, hl with | [_, _], _ => rfl) (fun f cdv A outer s H vs Q E hr h => ?_)
  · obtain ⟨p, q, ps, qs, W, G, n, b, c, rfl, _⟩ := h
    rfl
  · obtain ⟨p, q', ps, qs, W, G, n, b, c, rfl, hp, hq, bW, bG, n5, hb, hc, q⟩ := h
    refine ⟨_, (pss_cons (ps_set (i := 2) sc.nd rfl (.inr rfl) (pe_lc (own := [("way", 3)]) (g := gName 3) rfl sc.nd (pi_list (pv 0)) (blkOk_by (own := [("way", 3)]) (N := N__law_framed) (sc := defScope s__law_framed) (by decide +kernel)) (fun _ _ _ _ _ => (pg_name (i := 3) sc.nd rfl (.inr rfl))) (fun _ _ _ _ _ => pts_nil) (fun _ _ _ _ _ => (pe_lc (own := [("row", 4)]) (g := gName 4) rfl sc.nd (pi_listK (K := K) rfl (pv 1)) (blkOk_by (own := [("row", 4)]) (N := N__law_framed) (sc := ({ kind := .function, names := [(".0", .local), ("way", .cell), ("rows", .cell)], isGenerator := false, isCoroutine := false } : Scope)) (by decide +kernel)) (fun _ _ _ _ _ => (pg_name (i := 4) sc.nd rfl (.inl rfl))) (fun _ _ _ _ _ => pts_nil) (fun _ _ _ _ _ => (pe_fn D__law_dot (by decide) hr (pa_cons (pv 4) (pa_cons (pv 3) pa_nil)))))))) (pss_one (ps_ret (pe_lc (own := [("way", 3)]) (g := gName 3) rfl sc.nd (pi_list (pv 0)) (blkOk_by (own := [("way", 3)]) (N := N__law_framed) (sc := defScope s__law_framed) (by decide +kernel)) (fun _ _ _ _ _ => (pg_name (i := 3) sc.nd rfl (.inr rfl))) (fun _ _ _ _ _ => pts_nil) (fun _ _ _ _ _ => (pe_lc (own := [("led", 5)]) (g := gName 5) rfl sc.nd (pi_listK (K := K) rfl (pv 2)) (blkOk_by (own := [("led", 5)]) (N := N__law_framed) (sc := ({ kind := .function, names := [(".0", .local), ("way", .cell), ("leds", .cell)], isGenerator := false, isCoroutine := false } : Scope)) (by decide +kernel)) (fun _ _ _ _ _ => (pg_name (i := 5) sc.nd rfl (.inl rfl))) (fun _ _ _ _ _ => pts_nil) (fun _ _ _ _ _ => (pe_fn D__law_dot (by decide) hr (pa_cons (pv 3) (pa_cons (pv 5) pa_nil)))))))))), ?_⟩
    have lps : (ps.map V.ref).length = n := by rw [List.length_map, hp.len, bW.len]
    have lqs : (qs.map V.ref).length = n := by rw [List.length_map, hq.len, bG.len]
    have bL : ∀ w ∈ W, ∀ x ∈ ledR G w, x.natAbs < 2 ^ (c + b + 4) := fun w hw x hx' => by
      obtain ⟨g, hg, rfl⟩ := List.mem_map.mp hx'
      exact dot_lt (by rw [(bG.row g hg).1]; omega) (bG.row g hg).2 (bW.row w hw).2
    refine ⟨_, rfl, p, rfl, ⟨_, SqL.of hp.at_⟩, fun D hD => lc_list (K := K) (a := p) (xs := ps.map V.ref) (fun i H' => Same H H' ∧ ∃ zs, Grow H H' D zs ((W.take i).map (ledR G)))
      ⟨same_upd hD, [], Grow.start hD⟩ (fun i H' _ h => SqL.of (h.1 _ _ hp.at_)) ?_ ?_⟩
    · rintro i x H1 hi ⟨sm, zs, g⟩
      obtain ⟨qw, nw, rfl, hqi, hwi, hqw⟩ := mxRow hp hi
      have hil : i < (ps.map V.ref).length := (List.getElem?_eq_some_iff.mp hi).1
      have mw := List.mem_of_getElem? hwi
      refine ⟨rfl, yesIf ?_⟩
      refine ⟨_, rfl, q', rfl, ⟨_, SqL.of (sm _ _ hq.at_)⟩, fun D2 hD2 => lc_list (K := K) (a := q') (xs := qs.map V.ref) (fun j H' => Same H1 H' ∧ H' D2 = some (.lst (((G.take j).map fun g => dotL g nw).map V.int)))
        ⟨same_upd hD2, upd_same⟩ (fun j H' _ h => SqL.of (h.1 _ _ (sm _ _ hq.at_))) ?_ ?_⟩
      · rintro j y H2 hj ⟨sm2, hzz⟩
        obtain ⟨qr, nr, rfl, hqj, hgj, hqr⟩ := mxRow hq hj
        have hjl : j < (qs.map V.ref).length := (List.getElem?_eq_some_iff.mp hj).1
        have mr := List.mem_of_getElem? hgj
        have s12 := sm.trans sm2
        refine ⟨rfl, yesIf ?_⟩
        refine ⟨_, rfl, _, rfl, qr, qw, nr, nw, c, b, rfl, s12 _ _ hqr, s12 _ _ hqw, by rw [(bG.row nr mr).1, (bW.row nw mw).1], by rw [(bG.row nr mr).1]; omega, by omega, by omega, (bG.row nr mr).2, (bW.row nw mw).2, fun H3 s3 => ?_⟩
        refine ⟨_, s3 _ _ hzz, small1000 (by rw [List.length_map, List.length_map, List.length_take]; omega), same_updN (sm2.trans s3) hD2, ?_⟩
        rw [upd_same, take_more hgj, List.map_append, List.map_append]
        rfl
      · rintro H2 ⟨sm2, hzz⟩
        have e : (G.take (qs.map V.ref).length) = G := by rw [lqs, ← bG.len, List.take_length]
        rw [e] at hzz
        refine ⟨_, sm2 _ _ g.mx.at_, small1000 (by rw [List.length_map, g.mx.len, List.length_map, List.length_take]; omega), same_updN (sm.trans sm2) hD, zs ++ [D2], ?_⟩
        rw [take_more hwi, List.map_append]
        exact g.snoc (fun b o e => sm2 b o e) (fun b o _ e => sm b o e) hD2 hzz hD
    · rintro H1 ⟨sm, zs, g⟩
      have e : (W.take (ps.map V.ref).length) = W := by rw [lps, ← bW.len, List.take_length]
      rw [e] at g
      have gm := g.mx
      have lzs : (zs.map V.ref).length = n := by rw [List.length_map, gm.len, List.length_map, bW.len]
      refine ⟨_, rfl, p, rfl, ⟨_, SqL.of (sm _ _ hp.at_)⟩, fun D3 hD3 => lc_list (K := K) (a := p) (xs := ps.map V.ref) (fun i H' => Same H1 H' ∧ ∃ us, Grow H1 H' D3 us ((W.take i).map fun w => W.map fun w2 => dotL w (ledR G w2)))
        ⟨same_upd hD3, [], Grow.start hD3⟩ (fun i H' _ h => SqL.of (h.1 _ _ (sm _ _ hp.at_))) ?_ ?_⟩
      · rintro i x H2 hi ⟨sm2, us, g2⟩
        obtain ⟨qw, nw, rfl, hqi, hwi, hqw⟩ := mxRow hp hi
        have hil : i < (ps.map V.ref).length := (List.getElem?_eq_some_iff.mp hi).1
        have mw := List.mem_of_getElem? hwi
        have s12 := sm.trans sm2
        refine ⟨rfl, yesIf ?_⟩
        refine ⟨_, rfl, D, rfl, ⟨_, SqL.of (sm2 _ _ gm.at_)⟩, fun D2 hD2 => lc_list (K := K) (a := D) (xs := zs.map V.ref) (fun j H' => Same H2 H' ∧ H' D2 = some (.lst (((W.take j).map fun w2 => dotL nw (ledR G w2)).map V.int)))
          ⟨same_upd hD2, upd_same⟩ (fun j H' _ h => SqL.of (h.1 _ _ (sm2 _ _ gm.at_))) ?_ ?_⟩
        · rintro j y H3 hj ⟨sm3, hzz⟩
          obtain ⟨qr, nr, rfl, hqj, hgj, hqr⟩ := mxRow gm hj
          have hjl : j < (zs.map V.ref).length := (List.getElem?_eq_some_iff.mp hj).1
          rw [List.getElem?_map] at hgj
          obtain ⟨w2, hw2, rfl⟩ := Option.map_eq_some_iff.mp hgj
          have m2 := List.mem_of_getElem? hw2
          have ll : (ledR G w2).length = n := by rw [ledR, List.length_map, bG.len]
          refine ⟨rfl, yesIf ?_⟩
          refine ⟨_, rfl, _, rfl, qw, qr, nw, ledR G w2, b, c + b + 4, rfl, (s12.trans sm3) _ _ hqw, (sm2.trans sm3) _ _ hqr, by rw [(bW.row nw mw).1, ll], by rw [(bW.row nw mw).1]; omega, by omega, by omega, (bW.row nw mw).2, bL w2 m2, fun H4 s4 => ?_⟩
          refine ⟨_, s4 _ _ hzz, small1000 (by rw [List.length_map, List.length_map, List.length_take]; omega), same_updN (sm3.trans s4) hD2, ?_⟩
          rw [upd_same, take_more hw2, List.map_append, List.map_append]
          rfl
        · rintro H3 ⟨sm3, hzz⟩
          have e : (W.take (zs.map V.ref).length) = W := by rw [lzs, ← bW.len, List.take_length]
          rw [e] at hzz
          refine ⟨_, sm3 _ _ g2.mx.at_, small1000 (by rw [List.length_map, g2.mx.len, List.length_map, List.length_take]; omega), same_updN (sm2.trans sm3) hD3, us ++ [D2], ?_⟩
          rw [take_more hwi, List.map_append]
          exact g2.snoc (fun b o e => sm3 b o e) (fun b o _ e => sm2 b o e) hD2 hzz hD3
      · rintro H2 ⟨sm2, us, g2⟩
        have e : (W.take (ps.map V.ref).length) = W := by rw [lps, ← bW.len, List.take_length]
        rw [e] at g2
        have back : ∀ x, H1 x = none → H x = none := fun x hx => by
          cases e : H x with
          | none => rfl
          | some o =>
            have := sm _ _ e
            rw [hx] at this
            cases this
        exact q H2 D3 us (sm.trans sm2) (back _ hD3) g2.mx fun x hx => back x (g2.new x hx)
end
end V3
namespace V3
open PySem.Spec PySem L2 PyProof.Rows RZ GxR
section
variable {mg : Str → Option Value} {base : Heap} {K : PySem.W.Frag} {P : Program} {w : World}
abbrev s__law_plant : Stmt := topS 57
abbrev N__law_plant : List Str := ["well", "size", "scale", "some", "roots", "led", "by", "turn", "root"]
theorem sc__law_plant : FnScope N__law_plant ["well"] (defScope s__law_plant) := ⟨rfl, rfl, rfl, by decide +kernel, rfl, by decide +kernel, by decide +kernel⟩
def spPlant (K : PySem.W.Frag) : Sp := fun vs H Q _ => ∃ (a : Addr) (k : Nat), vs = [.ref a] ∧ Well H a k ∧ k ≤ 800000 ∧
  ∀ H' p r1 pr (rs : List Addr) (us : List V) (e roots : List Int) (n : Nat) (z : Int), But a H H' → Well H' a (k + 30) → H' p = some (.tup [.ref r1, .int (z * (dotL e e * dotL e e)), .ref pr]) → Mx H' r1 rs (framedM (mirM e) (alongM roots)) → Sy n 90 (framedM (mirM e) (alongM roots)) → 1 ≤ n → n ≤ 5 →
    H' pr = some (.lst us) → DpTAll K H' us ((roots.map fun c => Rat.divInt c z).map frd) → a ≠ pr → e.length = n → roots.length = n → 0 < dotL e e → 1 ≤ z ∧ z ≤ 3 → (z * (dotL e e * dotL e e)).natAbs < 2 ^ 60 → (∀ c ∈ roots, c.natAbs ≤ 6) → a ≠ r1 → (∀ x ∈ rs, a ≠ x) → Q (.ref p) H'
theorem ok_plant (T : Gs K mg) (D__law_draw : Df P w K mg base "_law_draw" 1 ["well", "size"] spDraw) (D__law_pick : Df P w K mg base "_law_pick" 2 ["well", "some"] (spPick K)) (D__law_lowest : Df P w K mg base "_law_lowest" 2 ["upper", "lower"] spFrac)
    (D__law_mirror : Df P w K mg base "_law_mirror" 3 ["well", "size"] spMirror) (D__law_framed : Df P w K mg base "_law_framed" 2 ["ways", "rows"] spFramed) (D__law_along : Df P w K mg base "_law_along" 1 ["numbers"] spAlong) (F : At K mg "_law_plant" s__law_plant) :
    Df P w K mg base "_law_plant" 4 ["well"] (spPlant K) := by
  have sc := sc__law_plant
  refine Df.mk' F sc (fun vs H Q E h => ?_) (fun _ _ _ _ _ _ us hl => match us, hl with | [_], _ => rfl) (fun f cdv A outer s H vs Q E hr h => ?_)
  · obtain ⟨a, k, rfl, _⟩ := h
    rfl
  · obtain ⟨a, k, rfl, hw, kl, q⟩ := h
    refine ⟨_, (pss_cons (ps_asg (pe_tup (pa_cons (pe_op op_add pe_int (pe_fn D__law_draw (by decide) hr (pa_cons (pv 0) (pa_cons pe_int pa_nil)))) (pa_cons (pe_fn D__law_pick (by decide) hr (pa_cons (pv 0) (pa_cons (pe_lst (pa_cons pe_int (pa_cons pe_int (pa_cons pe_int (pa_cons pe_int (pa_cons pe_int pa_nil)))))) pa_nil))) pa_nil))) (pg_tup rfl (pgs_cons (pg_name (i := 1) sc.nd rfl (.inl rfl)) (pgs_cons (pg_name (i := 2) sc.nd rfl (.inr rfl)) pgs_nil)))) (pss_cons (ps_set (i := 3) sc.nd rfl (.inr rfl) (pe_lc (own := [("turn", 7)]) (g := gName 7) rfl sc.nd (pi_range1 rfl T.range (pa_cons pe_int pa_nil)) (blkOk_by (own := [("turn", 7)]) (N := N__law_plant) (sc := defScope s__law_plant) (by decide +kernel)) (fun _ _ _ _ _ => (pg_name (i := 7) sc.nd rfl (.inl rfl))) (fun _ _ _ _ _ => pts_nil) (fun _ _ _ _ _ => (pe_op op_sub (pe_fn D__law_draw (by decide) hr (pa_cons (pv 0) (pa_cons pe_int pa_nil))) pe_int)))) (pss_cons (ps_setLc (i := 4) (own := [("turn", 7)]) (g := gName 7) rfl sc.nd rfl rfl (sw_true rfl rfl rfl (by decide +kernel)) (pi_range1 rfl T.range (pa_cons (pv 1) pa_nil)) (blkOk_by (own := [("turn", 7)]) (N := N__law_plant) (sc := defScope s__law_plant) (by decide +kernel)) (fun _ _ _ _ _ => (pg_name (i := 7) sc.nd rfl (.inl rfl))) (fun _ _ _ _ _ => pts_nil) (fun _ _ _ _ _ => (pe_fn D__law_pick (by decide) hr (pa_cons (pv 0) (pa_cons (pe_op op_cat (pv 3) (pe_lst (pa_cons (pe_op op_sub (pe_fn D__law_draw (by decide) hr (pa_cons (pv 0) (pa_cons pe_int pa_nil))) pe_int) pa_nil))) pa_nil))))) (pss_cons (ps_asg (pe_fn D__law_mirror (by decide) hr (pa_cons (pv 0) (pa_cons (pv 1) pa_nil))) (pg_tup rfl (pgs_cons (pg_name (i := 5) sc.nd rfl (.inl rfl)) (pgs_cons (pg_name (i := 6) sc.nd rfl (.inl rfl)) pgs_nil)))) (pss_one (ps_ret (pe_tup (pa_cons (pe_fn D__law_framed (by decide) hr (pa_cons (pv 5) (pa_cons (pe_fn D__law_along (by decide) hr (pa_cons (pv 4) pa_nil)) pa_nil))) (pa_cons (pe_op op_mulW (pv 2) (pv 6)) (pa_cons (pe_lc (own := [("root", 8)]) (g := gName 8) rfl sc.nd (pi_list (pv 4)) (blkOk_by (own := [("root", 8)]) (N := N__law_plant) (sc := defScope s__law_plant) (by decide +kernel)) (fun _ _ _ _ _ => (pg_name (i := 8) sc.nd rfl (.inl rfl))) (fun _ _ _ _ _ => pts_nil) (fun _ _ _ _ _ => (pe_fn D__law_lowest (by decide) hr (pa_cons (pv 8) (pa_cons (pv 2) pa_nil))))) pa_nil)))))))))), ?_⟩
    refine ⟨_, rfl, a, _, k, rfl, hw, by omega, by decide, by decide, fun H1 d1 b1 w1 d10 d1l => ?_⟩
    refine ⟨_, _, rfl, rfl, ?_⟩
    refine ⟨_, rfl, by show 5 ≤ sizeLine; decide, fun pl hpl => ?_⟩
    have s2 : Same H1 (upd H1 pl (.lst (([1, 1, 1, 2, 3] : List Int).map V.int))) := same_upd hpl
    refine ⟨a, pl, ([1, 1, 1, 2, 3] : List Int).map V.int, k + 1, rfl, w1.same s2, by omega, upd_same, w1.ne hpl, by decide, by decide, fun H3 j x b3 w3 hx => ?_⟩
    obtain ⟨z, rfl, hm⟩ := mem6 hx
    have bz : 1 ≤ z ∧ z ≤ 3 := by
      (simp only [List.mem_cons, List.not_mem_nil, or_false] at hm)
      omega
    have b13 : But a H H3 := (b1.trans (Same.but s2)).trans b3
    obtain ⟨n, hn⟩ : ∃ n : Nat, (1 : Int) + d1 = n := ⟨(1 + d1).toNat, by omega⟩
    refine ⟨by show 2 ≤ sizeLine; decide, fun pt hpt => ?_⟩
    have s4 : Same H3 (upd H3 pt (.tup [.int (1 + d1), .int z])) := same_upd hpt
    refine ⟨pt, _, rfl, SqT.of upd_same, rfl, _, _, rfl, _, _, rfl, rfl, ?_⟩
    have b4 : But a H (upd H3 pt (.tup [.int (1 + d1), .int z])) := b13.trans (Same.but s4)
    have w4 := w3.same s4
    have n1 : 1 ≤ n := by omega
    have n5 : n ≤ 5 := by omega
    -- some
    refine ⟨_, rfl, by decide, by decide, fun Ds hDs => lc_range (lo := 0) (n := _) (fun i H' => But a (upd H3 pt (.tup [.int (1 + d1), .int z])) H' ∧ Well H' a (k + 2 + i) ∧ ∃ zs : List Int, H' Ds = some (.lst (zs.map V.int)) ∧ zs.length = i ∧ ∀ z ∈ zs, z.natAbs ≤ 6)
      ⟨Same.but (same_upd hDs), (w4.mono (by omega)).same (same_upd hDs), [], upd_same, rfl, fun z hz => by cases hz⟩ ?_ ?_⟩
    · rintro i H5 hi ⟨b5, w5, zs, hz, lz, kz⟩
      have hi3 : i < 3 := hi
      refine ⟨rfl, yesIf ?_⟩
      refine ⟨_, rfl, a, _, k + 2 + i, rfl, w5, by omega, by decide, by decide, fun H6 d b6 w6 d0 dl => ?_⟩
      refine ⟨_, _, rfl, rfl, ?_⟩
      have hz6 := b6 _ _ (Ne.symm (w4.ne hDs)) hz
      refine ⟨_, hz6, small1000 (by rw [List.length_map]; omega), (b5.trans b6).updN hDs, w6.upd (w4.ne hDs), zs ++ [d - 4], ?_, by rw [List.length_append, lz]; rfl, fun y hy => ?_⟩
      · rw [upd_same, List.map_append]
        rfl
      · rcases List.mem_append.mp hy with h | h
        · exact kz y h
        · rw [List.mem_singleton.mp h]
          omega
    rintro H5 ⟨b5, w5, zs, hz, lz, kz⟩
    have lz3 : zs.length = 3 := lz
    have w5' : Well H5 a (k + 5) := w5.mono (by show k + 2 + 3 ≤ k + 5; omega)
    have b45 := b4.trans b5
    -- roots
    refine ⟨_, rfl, _, rfl, by omega, by omega, fun Dr hDr => lc_range (lo := 0) (n := _) (fun i H' => But a H5 H' ∧ Well H' a (k + 5 + 2 * i) ∧ ∃ rs : List Int, H' Dr = some (.lst (rs.map V.int)) ∧ rs.length = i ∧ ∀ z ∈ rs, z.natAbs ≤ 6)
      ⟨Same.but (same_upd hDr), (w5'.mono (by omega)).same (same_upd hDr), [], upd_same, rfl, fun z hz => by cases hz⟩ ?_ ?_⟩
    · rintro i H6 hi ⟨b6, w6, rs, hr', lr, kr⟩
      have hi5 : i < 5 := by omega
      refine ⟨rfl, yesIf ?_⟩
      refine ⟨_, rfl, _, rfl, _, rfl, a, _, k + 5 + 2 * i, rfl, w6, by omega, by decide, by decide, fun H7 d b7 w7 d0 dl => ?_⟩
      refine ⟨_, _, rfl, rfl, by show 1 ≤ sizeLine; decide, fun p8 hp8 => ?_⟩
      have s8 : Same H7 (upd H7 p8 (.lst [.int (d - 6)])) := same_upd hp8
      have hz7 := b7 _ _ (Ne.symm (w4.ne hDs)) (b6 _ _ (Ne.symm (w4.ne hDs)) hz)
      refine ⟨Ds, p8, _, _, rfl, rfl, s8 _ _ hz7, upd_same, by rw [List.length_map, lz3]; show 4 ≤ sizeLine; decide, fun p9 hp9 => ?_⟩
      have e9 : (zs.map V.int) ++ [V.int (d - 6)] = (zs ++ [d - 6]).map V.int := by rw [List.map_append]; rfl
      rw [e9]
      have s9 : Same (upd H7 p8 (.lst [.int (d - 6)])) (upd (upd H7 p8 (.lst [.int (d - 6)])) p9 (.lst ((zs ++ [d - 6]).map V.int))) := same_upd hp9
      have w9 := (w7.same s8).same s9
      have b79 : But a H7 _ := Same.but (s8.trans s9)
      refine ⟨a, p9, _, _, rfl, w9, by omega, upd_same, (w7.same s8).ne hp9, by rw [List.length_map, List.length_append]; show 0 < zs.length + 1; omega, by rw [List.length_map, List.length_append]; show zs.length + 1 ≤ 1000; omega, fun H10 j x b10 w10 hx => ?_⟩
      obtain ⟨z2, rfl, hm2⟩ := mem6 hx
      have bz2 : z2.natAbs ≤ 6 := by
        rcases List.mem_append.mp hm2 with h | h
        · exact kz _ h
        · rw [List.mem_singleton.mp h]
          omega
      have b610 : But a H6 H10 := (b7.trans b79).trans b10
      have hr10 := b610 _ _ (Ne.symm (w5.ne hDr)) hr'
      refine ⟨_, hr10, small1000 (by rw [List.length_map]; omega), (b6.trans b610).updN hDr, (w10.mono (by omega)).upd (w5.ne hDr), rs ++ [z2], ?_, by rw [List.length_append, lr]; rfl, fun y hy => ?_⟩
      · rw [upd_same, List.map_append]
        rfl
      · rcases List.mem_append.mp hy with h | h
        · exact kr y h
        · rw [List.mem_singleton.mp h]
          exact bz2
    rintro H6 ⟨b6, w6, rs, hr', lr, kr⟩
    have lrn : rs.length = n := by omega
    have w6' : Well H6 a (k + 15) := w6.mono (by omega)
    -- led, by
    refine ⟨_, rfl, _, rfl, a, n, k + 15, by show [V.ref a, V.int (1 + d1)] = _; rw [hn], w6', by omega, n1, n5, fun H7 p7 pm zz ps7 M7 b7 w7 h7 ne7 m7 bM nps bzz zz0 em => ?_⟩
    refine ⟨p7, _, rfl, SqT.of h7, rfl, _, _, rfl, _, _, rfl, rfl, ?_⟩
    have hr7 := b7 _ _ (Ne.symm (w5.ne hDr)) hr'
    have b3r : ∀ z ∈ rs, z.natAbs < 2 ^ 3 := fun z hz' => by
      have := kr z hz'
      omega
    refine ⟨_, rfl, _, rfl, Dr, rs, rfl, hr7, by omega, fun H8 p8 ps8 s8 hn8 m8 new8 => ?_⟩
    have bA : Bn n 3 (alongM rs) := ⟨by rw [along_len]; exact lrn, fun r hr2 => by
      obtain ⟨i, _, rfl⟩ := List.mem_map.mp hr2
      refine ⟨by rw [alone_len]; exact lrn, fun x hx' => ?_⟩
      obtain ⟨j, _, rfl⟩ := List.mem_map.mp hx'
      by_cases e : i = j
      · rw [if_pos e]
        exact getD_lt b3r
      · rw [if_neg e]
        exact Nat.two_pow_pos 3⟩
    refine ⟨pm, p8, ps7, ps8, M7, alongM rs, n, 20, 3, rfl, m7.same s8, m8, bM, bA, n5, by decide, by decide, fun H9 r9 rs9 s9 hn9 m9 new9 => ?_⟩
    have sy9 := framed_sym (c := 3) bM lrn b3r (by omega)
    refine ⟨_, rfl, _, rfl, _, _, rfl, rfl, wide_mul (a := 2) (b := 40) (by omega) bzz (by decide) (by decide) (by decide), ?_⟩
    have s79 := s8.trans s9
    have hr9 := s79 _ _ hr7
    have w9 := w7.same s79
    obtain ⟨sn, hsn⟩ : ∃ sn : Nat, z = sn := ⟨z.toNat, by omega⟩
    refine ⟨_, rfl, Dr, rfl, ⟨_, SqL.of hr9⟩, fun Dq hDq => lc_list (K := K) (a := Dr) (xs := rs.map V.int) (fun i H' => Same H9 H' ∧ ∃ (us : List V), H' Dq = some (.lst us) ∧ DpTAll K H' us (((rs.take i).map fun c => Rat.divInt c z).map frd))
      ⟨same_upd hDq, [], upd_same, .nil⟩ (fun i H' _ h => SqL.of (h.1 _ _ hr9)) ?_ ?_⟩
    · rintro i x H10 hi ⟨sm, us, hu, hq⟩
      rw [List.getElem?_map] at hi
      obtain ⟨z2, hz2, rfl⟩ := Option.map_eq_some_iff.mp hi
      have bz2 := kr z2 (List.mem_of_getElem? hz2)
      refine ⟨rfl, yesIf ?_⟩
      refine ⟨_, rfl, _, rfl, _, _, rfl, by omega, lt9000 (by omega) (by omega), fun H11 p11 s11 h11 => ?_⟩
      have hu11 := s11 _ _ hu
      have lu := fqLen hq
      rw [List.length_map, List.length_take] at lu
      refine ⟨us, hu11, small1000 (by omega), same_updN (sm.trans s11) hDq, us ++ [.ref p11], upd_same, ?_⟩
      rw [take_more hz2, List.map_append, List.map_append]
      exact dtAll_app ((hq.keep (Same.kt s11)).keep (kt_lst hu11)) (.cons (DpT.keep (kt_lst hu11) (fqO h11)) .nil)
    rintro H10 ⟨sm, us, hu, hq⟩
    rw [List.length_map, List.take_length] at hq
    refine ⟨by show 3 ≤ sizeLine; decide, fun pf hpf => ?_⟩
    have sf := same_upd (o := .tup [.ref r9, .int (z * zz), .ref Dq]) hpf
    have s9f := sm.trans sf
    obtain ⟨e, he1, he2, he3, he4⟩ := em
    subst he2
    refine q _ pf r9 Dq rs9 us e rs n z ((b45.trans (b6.trans b7)).trans (Same.but (s79.trans s9f))) ((w9.same s9f).mono (by omega)) (by rw [← he3]; exact upd_same) (m9.same s9f) ⟨sy9.len, fun r hr2 => ⟨(sy9.row r hr2).1, fun x hx' => Nat.lt_of_lt_of_le ((sy9.row r hr2).2 x hx') (pw (by decide))⟩, sy9.sym⟩ n1 n5 (sf _ _ hu) (hq.keep (Same.kt sf)) (w9.ne hDq) he1 lrn he4 bz (by rw [← he3]; exact Nat.lt_of_lt_of_le (mulI (a := 2) (b := 40) (by omega) bzz) (pw (by decide))) kr ((w7.same s8).ne hn9) fun x hx => (w7.same s8).ne (new9 x hx)
end
end V3
namespace V3
open PySem.Spec PySem L2 PyProof.Rows RZ GxR
/-- the told table as data -/
def rowP (z : Int) (r : List Int) : PyData := .tuple (r.map fun c => frd (Rat.divInt c z))
def toldP (M : List (List Int)) (z : Int) : PyData := .tuple (M.map (rowP z))
section
variable {mg : Str → Option Value} {base : Heap} {K : PySem.W.Frag} {P : Program} {w : World}
abbrev s__law_told : Stmt := topS 55
abbrev N__law_told : List Str := ["rows", "scale", "row", "cell"]
theorem sc__law_told : FnScope N__law_told ["rows", "scale"] (defScope s__law_told) := ⟨rfl, rfl, rfl, by decide +kernel, rfl, by decide +kernel, by decide +kernel⟩
def spTold (K : PySem.W.Frag) : Sp := fun vs H Q _ => ∃ (pr : Addr) (ps : List Addr) (M : List (List Int)) (z : Int), vs = [.ref pr, .int z] ∧ Mx H pr ps M ∧ M.length ≤ 8 ∧ (∀ r ∈ M, r.length ≤ 8) ∧ 0 < z ∧ z.natAbs < 2 ^ 9000 ∧ ∀ H' l, Same H H' → DpT K H' (.ref l) (toldP M z) → Q (.ref l) H'
theorem ok_told (T : Gs K mg) (D__law_lowest : Df P w K mg base "_law_lowest" 2 ["upper", "lower"] spFrac) (F : At K mg "_law_told" s__law_told) : Df P w K mg base "_law_told" 3 ["rows", "scale"] (spTold K) := by
  have sc := sc__law_told
  refine Df.mk' F sc (fun vs H Q E h => ?_) (fun _ _ _ _ _ _ us hl => match us, hl with | [_, _], _ => rfl) (fun f cdv A outer s H vs Q E hr h => ?_)
  · obtain ⟨pr, ps, M, z, rfl, _⟩ := h
    rfl
  · obtain ⟨pr, ps, M, z, rfl, mx, m8, r8, z0, zb, q⟩ := h
    refine ⟨_, (pss_one (ps_ret (pe_callTy call_tuple_of (by rfl) T.tuple_ (by decide +kernel) (pa_cons (pe_lc (own := [("row", 2)]) (g := gName 2) rfl sc.nd (pi_list (pv 0)) (blkOk_by (own := [("row", 2)]) (N := N__law_told) (sc := defScope s__law_told) (by decide +kernel)) (fun _ _ _ _ _ => (pg_name (i := 2) sc.nd rfl (.inl rfl))) (fun _ _ _ _ _ => pts_nil) (fun _ _ _ _ _ => (pe_callTy (call_tuple_ofK (K := K) rfl) (by rfl) T.tuple_ (by decide +kernel) (pa_cons (pe_lc (own := [("cell", 3)]) (g := gName 3) rfl sc.nd (pi_listK (K := K) rfl (pv 2)) (blkOk_by (own := [("cell", 3)]) (N := N__law_told) (sc := ({ kind := .function, names := [(".0", .local), ("row", .local), ("tuple", .globalImplicit), ("scale", .cell)], isGenerator := false, isCoroutine := false } : Scope)) (by decide +kernel)) (fun _ _ _ _ _ => (pg_name (i := 3) sc.nd rfl (.inl rfl))) (fun _ _ _ _ _ => pts_nil) (fun _ _ _ _ _ => (pe_fn D__law_lowest (by decide) hr (pa_cons (pv 3) (pa_cons (pv 1) pa_nil))))) pa_nil)))) pa_nil)))), ?_⟩
    have lps : (ps.map V.ref).length = M.length := by rw [List.length_map, mx.len]
    refine ⟨_, rfl, pr, rfl, ⟨_, SqL.of mx.at_⟩, fun D hD => lc_list (K := K) (a := pr) (xs := ps.map V.ref) (fun i H' => Same H H' ∧ ∃ zs, H' D = some (.lst zs) ∧ DpTAll K H' zs ((M.take i).map (rowP z)))
      ⟨same_upd hD, [], upd_same, .nil⟩ (fun i H' _ h => SqL.of (h.1 _ _ mx.at_)) ?_ ?_⟩
    · rintro i x H1 hi ⟨sm, zs, hz, az⟩
      obtain ⟨qw, r, rfl, hqi, hwi, hqw⟩ := mxRow mx hi
      have hil : i < M.length := (List.getElem?_eq_some_iff.mp hwi).1
      have mr := r8 r (List.mem_of_getElem? hwi)
      have lz : zs.length ≤ 8 := by
        rw [dtAll_len az, List.length_map, List.length_take]
        omega
      refine ⟨rfl, yesIf ?_⟩
      refine ⟨_, rfl, qw, rfl, ⟨_, SqL.of (sm _ _ hqw)⟩, fun D2 hD2 => lc_list (K := K) (a := qw) (xs := r.map V.int) (fun j H' => Same H1 H' ∧ ∃ ys, H' D2 = some (.lst ys) ∧ DpTAll K H' ys ((r.take j).map fun c => frd (Rat.divInt c z)))
        ⟨same_upd hD2, [], upd_same, .nil⟩ (fun j H' _ h => SqL.of (h.1 _ _ (sm _ _ hqw))) ?_ ?_⟩
      · rintro j y H2 hj ⟨sm2, ys, hy, ay⟩
        rw [List.getElem?_map] at hj
        obtain ⟨c, hc, rfl⟩ := Option.map_eq_some_iff.mp hj
        have hjl : j < r.length := (List.getElem?_eq_some_iff.mp hc).1
        refine ⟨rfl, yesIf ?_⟩
        refine ⟨_, rfl, _, rfl, c, z, rfl, z0, zb, fun H3 p3 s3 h3 => ?_⟩
        have ly : ys.length ≤ 8 := by
          rw [dtAll_len ay, List.length_map, List.length_take]
          omega
        have hy3 := s3 _ _ hy
        refine ⟨ys, hy3, small1000 (by omega), same_updN (sm2.trans s3) hD2, ys ++ [.ref p3], upd_same, ?_⟩
        rw [take_more hc, List.map_append]
        exact dtAll_app ((ay.keep (Same.kt s3)).keep (kt_lst hy3)) (.cons (DpT.keep (kt_lst hy3) (fqO h3)) .nil)
      · rintro H2 ⟨sm2, ys, hy, ay⟩
        have e : r.take (r.map V.int).length = r := by rw [List.length_map, List.take_length]
        rw [e] at ay
        refine ⟨D2, ys, rfl, .inl ⟨SqL.of hy, fun l hl => ?_⟩⟩
        have s3 : Same H2 (upd H2 l (.tup ys)) := same_upd hl
        have hz3 := s3 _ _ (sm2 _ _ hz)
        refine ⟨zs, hz3, small1000 (by omega), same_updN ((sm.trans sm2).trans s3) hD, zs ++ [.ref l], upd_same, ?_⟩
        rw [take_more hwi, List.map_append]
        have dl : DpT K (upd H2 l (.tup ys)) (.ref l) (rowP z r) := .tup (SqT.of upd_same) (ay.keep (Same.kt s3))
        exact dtAll_app ((az.keep (Same.kt (sm2.trans s3))).keep (kt_lst hz3)) (.cons (DpT.keep (kt_lst hz3) dl) .nil)
    · rintro H1 ⟨sm, zs, hz, az⟩
      have e : M.take (ps.map V.ref).length = M := by rw [lps, List.take_length]
      rw [e] at az
      refine ⟨D, zs, rfl, .inl ⟨SqL.of hz, fun l hl => ?_⟩⟩
      have s3 : Same H1 (upd H1 l (.tup zs)) := same_upd hl
      exact q _ l (sm.trans s3) (.tup (SqT.of upd_same) (az.keep (Same.kt s3)))
end
end V3
namespace V3
open PySem.Spec PySem L2 PyProof.Rows RZ GxR
section
variable {mg : Str → Option Value} {base : Heap} {K : PySem.W.Frag} {P : Program} {w : World}
abbrev s__law_plus : Stmt := topS 49
abbrev N__law_plus : List Str := ["one", "two"]
theorem sc__law_plus : FnScope N__law_plus ["one", "two"] (defScope s__law_plus) := ⟨rfl, rfl, rfl, by decide +kernel, rfl, by decide +kernel, by decide +kernel⟩
theorem ok_law_plus (D__law_lowest : Df P w K mg base "_law_lowest" 2 ["upper", "lower"] spFrac) (F : At K mg "_law_plus" s__law_plus) : Df P w K mg base "_law_plus" 3 ["one", "two"] (spR2 K (· + ·) fun _ => True) := by
  have sc := sc__law_plus
  refine Df.mk' F sc (fun vs H Q E h => ?_) (fun _ _ _ _ _ _ us hl => match us, hl with | [_, _], _ => rfl) (fun f cdv A outer s H vs Q E hr h => ?_)
  · obtain ⟨v, w, x, y, rfl, _⟩ := h
    rfl
  · obtain ⟨v, w, x, y, rfl, hx, hy, sx, sy, yp, q⟩ := h
    obtain ⟨p, rfl, hp⟩ := fqT hx
    obtain ⟨p', rfl, hp'⟩ := fqT hy
    refine ⟨_, (pss_one (ps_ret (pe_fn D__law_lowest (by decide) hr (pa_cons (pe_op op_add (pe_op op_mulW (pe_ix ix_tup (pv 0) pe_int (fun _ _ => rfl)) (pe_ix ix_tup (pv 1) pe_int (fun _ _ => rfl))) (pe_op op_mulW (pe_ix ix_tup (pv 1) pe_int (fun _ _ => rfl)) (pe_ix ix_tup (pv 0) pe_int (fun _ _ => rfl)))) (pa_cons (pe_op op_mulW (pe_ix ix_tup (pv 0) pe_int (fun _ _ => rfl)) (pe_ix ix_tup (pv 1) pe_int (fun _ _ => rfl))) pa_nil))))), ?_⟩
    refine ⟨_, rfl, _, _, _, _, rfl, rfl, hp, at20, _, rfl, _, _, _, _, rfl, rfl, hp', at21, _, _, rfl, rfl, mulW4 sx.n (natI sy.d), ?_⟩
    refine ⟨_, rfl, _, _, _, _, rfl, rfl, hp', at20, _, rfl, _, _, _, _, rfl, rfl, hp, at21, _, _, rfl, rfl, mulW4 sy.n (natI sx.d), ?_⟩
    refine ⟨_, _, rfl, rfl, ?_⟩
    refine ⟨_, rfl, _, _, _, _, rfl, rfl, hp, at21, _, rfl, _, _, _, _, rfl, rfl, hp', at21, _, _, rfl, rfl, mulW4 (natI sx.d) (natI sy.d), ?_⟩
    dsimp only at q
    rw [radd] at q
    exact ⟨_, _, rfl, Int.mul_pos (rden_pos x) (rden_pos y), sz4 (natI sx.d) (natI sy.d), q⟩
abbrev s__law_minus : Stmt := topS 58
abbrev N__law_minus : List Str := ["one", "two"]
theorem sc__law_minus : FnScope N__law_minus ["one", "two"] (defScope s__law_minus) := ⟨rfl, rfl, rfl, by decide +kernel, rfl, by decide +kernel, by decide +kernel⟩
theorem ok_law_minus (D__law_lowest : Df P w K mg base "_law_lowest" 2 ["upper", "lower"] spFrac) (F : At K mg "_law_minus" s__law_minus) : Df P w K mg base "_law_minus" 3 ["one", "two"] (spR2 K (· - ·) fun _ => True) := by
  have sc := sc__law_minus
  refine Df.mk' F sc (fun vs H Q E h => ?_) (fun _ _ _ _ _ _ us hl => match us, hl with | [_, _], _ => rfl) (fun f cdv A outer s H vs Q E hr h => ?_)
  · obtain ⟨v, w, x, y, rfl, _⟩ := h
    rfl
  · obtain ⟨v, w, x, y, rfl, hx, hy, sx, sy, yp, q⟩ := h
    obtain ⟨p, rfl, hp⟩ := fqT hx
    obtain ⟨p', rfl, hp'⟩ := fqT hy
    refine ⟨_, (pss_one (ps_ret (pe_fn D__law_lowest (by decide) hr (pa_cons (pe_op op_sub (pe_op op_mulW (pe_ix ix_tup (pv 0) pe_int (fun _ _ => rfl)) (pe_ix ix_tup (pv 1) pe_int (fun _ _ => rfl))) (pe_op op_mulW (pe_ix ix_tup (pv 1) pe_int (fun _ _ => rfl)) (pe_ix ix_tup (pv 0) pe_int (fun _ _ => rfl)))) (pa_cons (pe_op op_mulW (pe_ix ix_tup (pv 0) pe_int (fun _ _ => rfl)) (pe_ix ix_tup (pv 1) pe_int (fun _ _ => rfl))) pa_nil))))), ?_⟩
    refine ⟨_, rfl, _, _, _, _, rfl, rfl, hp, at20, _, rfl, _, _, _, _, rfl, rfl, hp', at21, _, _, rfl, rfl, mulW4 sx.n (natI sy.d), ?_⟩
    refine ⟨_, rfl, _, _, _, _, rfl, rfl, hp', at20, _, rfl, _, _, _, _, rfl, rfl, hp, at21, _, _, rfl, rfl, mulW4 sy.n (natI sx.d), ?_⟩
    refine ⟨_, _, rfl, rfl, ?_⟩
    refine ⟨_, rfl, _, _, _, _, rfl, rfl, hp, at21, _, rfl, _, _, _, _, rfl, rfl, hp', at21, _, _, rfl, rfl, mulW4 (natI sx.d) (natI sy.d), ?_⟩
    dsimp only at q
    rw [rsub] at q
    exact ⟨_, _, rfl, Int.mul_pos (rden_pos x) (rden_pos y), sz4 (natI sx.d) (natI sy.d), q⟩
abbrev s__law_times : Stmt := topS 50
abbrev N__law_times : List Str := ["one", "two"]
theorem sc__law_times : FnScope N__law_times ["one", "two"] (defScope s__law_times) := ⟨rfl, rfl, rfl, by decide +kernel, rfl, by decide +kernel, by decide +kernel⟩
theorem ok_law_times (D__law_lowest : Df P w K mg base "_law_lowest" 2 ["upper", "lower"] spFrac) (F : At K mg "_law_times" s__law_times) : Df P w K mg base "_law_times" 3 ["one", "two"] (spR2 K (· * ·) fun _ => True) := by
  have sc := sc__law_times
  refine Df.mk' F sc (fun vs H Q E h => ?_) (fun _ _ _ _ _ _ us hl => match us, hl with | [_, _], _ => rfl) (fun f cdv A outer s H vs Q E hr h => ?_)
  · obtain ⟨v, w, x, y, rfl, _⟩ := h
    rfl
  · obtain ⟨v, w, x, y, rfl, hx, hy, sx, sy, yp, q⟩ := h
    obtain ⟨p, rfl, hp⟩ := fqT hx
    obtain ⟨p', rfl, hp'⟩ := fqT hy
    refine ⟨_, (pss_one (ps_ret (pe_fn D__law_lowest (by decide) hr (pa_cons (pe_op op_mulW (pe_ix ix_tup (pv 0) pe_int (fun _ _ => rfl)) (pe_ix ix_tup (pv 1) pe_int (fun _ _ => rfl))) (pa_cons (pe_op op_mulW (pe_ix ix_tup (pv 0) pe_int (fun _ _ => rfl)) (pe_ix ix_tup (pv 1) pe_int (fun _ _ => rfl))) pa_nil))))), ?_⟩
    refine ⟨_, rfl, _, _, _, _, rfl, rfl, hp, at20, _, rfl, _, _, _, _, rfl, rfl, hp', at20, _, _, rfl, rfl, mulW4 sx.n sy.n, ?_⟩
    refine ⟨_, rfl, _, _, _, _, rfl, rfl, hp, at21, _, rfl, _, _, _, _, rfl, rfl, hp', at21, _, _, rfl, rfl, mulW4 (natI sx.d) (natI sy.d), ?_⟩
    dsimp only at q
    rw [rmul] at q
    exact ⟨_, _, rfl, Int.mul_pos (rden_pos x) (rden_pos y), sz4 (natI sx.d) (natI sy.d), q⟩
end
end V3
set_option maxHeartbeats 4100000
/-! How great the program's power grows. -/
namespace V3
theorem sg_bd {n B : Nat} {f : Nat → Int} (h : ∀ i, i < n → (f i).natAbs ≤ B) : (sg n f).natAbs ≤ n * B := by
  induction n with
  | zero => simp [sg_zero]
  | succ n ih =>
    rw [sg_succ, Nat.succ_mul]
    have h1 := ih fun i hi => h i (by omega)
    have h2 := h n (by omega)
    have h3 := Int.natAbs_add_le (sg n f) (f n)
    omega
theorem div_bd (x : Int) (k : Nat) : (x / ((k : Int) + 1)).natAbs ≤ x.natAbs := Int.natAbs_ediv_le_natAbs x ((k : Int) + 1)
theorem SqM.all {n : Nat} {M : List (List Int)} (h : SqM n M) {Pz : Int → Prop} (a : ∀ i j, i < n → j < n → Pz (tabF M i j)) : ∀ r ∈ M, ∀ x ∈ r, Pz x := fun r hr x hx => by
  obtain ⟨i, hi⟩ := List.getElem?_of_mem hr
  (obtain ⟨j, hj⟩ := List.getElem?_of_mem hx)
  have il := (List.getElem?_eq_some_iff.mp hi).1
  have jl := (List.getElem?_eq_some_iff.mp hj).1
  have e : tabF M i j = x := by
    rw [tabF, List.getD_eq_getElem?_getD, List.getD_eq_getElem?_getD, hi]
    show (r[j]?).getD 0 = x
    rw [hj]
    rfl
  rw [← e]
  exact a i j (by rw [h.len] at il; exact il) (by rw [h.row r hr] at jl; exact jl)
theorem SqM.one {n : Nat} {M : List (List Int)} (h : SqM n M) {Pz : Int → Prop} (a : ∀ r ∈ M, ∀ x ∈ r, Pz x) {i j : Nat} (hi : i < n) (hj : j < n) : Pz (tabF M i j) := by
  obtain ⟨r, hr, lr, gr⟩ := h.at_ hi
  have e : r[j]? = some (r[j]'(by omega)) := List.getElem?_eq_getElem _
  rw [tabF, gr, List.getD_eq_getElem?_getD, e]
  exact a r (List.mem_of_getElem? hr) _ (List.getElem_mem _)
/-- a power and its numbers after k steps -/
theorem pol_bd {n b : Nat} {W : List (List Int)} (hW : SqM n W) (n5 : n ≤ 5) (bw : ∀ r ∈ W, ∀ x ∈ r, x.natAbs < 2 ^ b) : ∀ k : Nat,
    (∀ i j, i < n → j < n → (tabF (polL n W k).1 i j).natAbs ≤ 2 ^ (k * (b + 6))) ∧ ∀ i j, i < n → j < n → (tabF (mulM W (polL n W k).1 n) i j).natAbs ≤ 5 * 2 ^ (b + k * (b + 6)) := by
  have step : ∀ k : Nat, (∀ i j, i < n → j < n → (tabF (polL n W k).1 i j).natAbs ≤ 2 ^ (k * (b + 6))) → ∀ i j, i < n → j < n → (tabF (mulM W (polL n W k).1 n) i j).natAbs ≤ 5 * 2 ^ (b + k * (b + 6)) := fun k ih i j hi hj => by
    rw [mul_tab hW (polL_fl hW k).1 hi hj]
    refine Nat.le_trans (sg_bd (B := 2 ^ (b + k * (b + 6))) fun m hm => ?_) (Nat.mul_le_mul_right _ n5)
    (rw [Int.natAbs_mul, Nat.pow_add])
    exact Nat.mul_le_mul (Nat.le_of_lt (hW.one bw hi hm)) (ih m j hm hj)
  intro k
  induction k with
  | zero =>
    have z : ∀ i j, i < n → j < n → (tabF (polL n W 0).1 i j).natAbs ≤ 2 ^ (0 * (b + 6)) := fun i j hi hj => by
      rw [(polL_fl hW 0).2.1 i j hi hj, Nat.zero_mul]
      show (if i = j then (1 : Int) else 0).natAbs ≤ 1
      split <;> decide
    exact ⟨z, step 0 z⟩
  | succ k ih =>
    have hm : SqM n (mulM W (polL n W k).1 n) := mulM_sq hW
    have z : ∀ i j, i < n → j < n → (tabF (polL n W (k + 1)).1 i j).natAbs ≤ 2 ^ ((k + 1) * (b + 6)) := fun i j hi hj => by
      rw [polL, dia_tab hm hi hj n (Nat.le_refl n)]
      have h1 := ih.2 i j hi hj
      have h2 := Nat.le_trans (sg_bd (f := fun a => tabF (mulM W (polL n W k).1 n) a a) fun a ha => ih.2 a a ha ha) (Nat.mul_le_mul_right _ n5)
      have h3 := div_bd (-(sg n fun a => tabF (mulM W (polL n W k).1 n) a a)) k
      rw [Int.natAbs_neg] at h3
      have e : 2 ^ ((k + 1) * (b + 6)) = 2 ^ (b + k * (b + 6)) * 64 := by
        rw [show (k + 1) * (b + 6) = (b + k * (b + 6)) + 6 by rw [Nat.succ_mul]; omega, Nat.pow_add]
      rw [e]
      split
      · have h4 := Int.natAbs_add_le (tabF (mulM W (polL n W k).1 n) i j) (-(sg n fun a => tabF (mulM W (polL n W k).1 n) a a) / ((k : Int) + 1))
        omega
      · rw [Int.add_zero]
        omega
    exact ⟨z, step (k + 1) z⟩
theorem polL_len (n : Nat) (W : List (List Int)) : ∀ k, (polL n W k).2.length = k + 1
  | 0 => rfl
  | k + 1 => by
    rw [polL, List.length_append, polL_len n W k]
    rfl
theorem polL_nl {n : Nat} {W : List (List Int)} (hW : SqM n W) (k : Nat) : (polL n W k).1.length = n := (polL_fl hW k).1.len
end V3
/-! A planted table, made whole and less a number: its polynomial. -/
namespace V3
def wfS (b : Int) (e : Nat → Int) (i j : Nat) : Int := (if i = j then b else 0) - 2 * e i * e j
theorem wfS_sym (b : Int) (e : Nat → Int) (i j : Nat) : wfS b e i j = wfS b e j i := by
  unfold wfS
  by_cases h : i = j
  · rw [h]
  · rw [if_neg h, if_neg (fun z => h z.symm)]
    grind
theorem sg_mulR (n : Nat) (a : Int) (f : Nat → Int) : sg n (fun k => f k * a) = sg n f * a := by
  have h : sg n (fun k => f k * a) = sg n (fun k => a * f k) := sg_congr fun k _ => Int.mul_comm ..
  rw [h, sg_mul, Int.mul_comm]
theorem wfS_at (n i : Nat) (b : Int) (e u : Nat → Int) (hi : i < n) : sg n (fun m => u m * wfS b e m i) = u i * b - 2 * e i * sg n (fun m => u m * e m) := by
  have h : sg n (fun m => u m * wfS b e m i) = sg n (fun m => u m * (if m = i then b else 0) + (-2 * e i) * (u m * e m)) := sg_congr fun m _ => by
    unfold wfS
    grind
  rw [h, sg_add, sg_mul, sg_one n i b u hi]
  grind
theorem wfS_sq (n : Nat) (b : Int) (e : Nat → Int) (hb : sg n (fun k => e k * e k) = b) {i j : Nat} (hi : i < n) (hj : j < n) : sg n (fun m => wfS b e i m * wfS b e m j) = if i = j then b * b else 0 := by
  have h1 : sg n (fun m => wfS b e i m * e m) = b * e i - 2 * e i * b := by
    have h : sg n (fun m => wfS b e i m * e m) = sg n (fun m => e m * wfS b e m i) := sg_congr fun m _ => by
      rw [wfS_sym]
      grind
    rw [h, wfS_at n i b e e hi, hb]
    grind
  rw [wfS_at n j b e (fun m => wfS b e i m) hj, h1]
  by_cases h : i = j
  · subst h
    rw [if_pos rfl]
    unfold wfS
    rw [if_pos rfl]
    grind
  · rw [if_neg h]
    unfold wfS
    rw [if_neg h]
    grind
/-- the planted table takes each line of the mirror to its root times itself, b * b times -/
theorem plant_led (n : Nat) (b : Int) (e r : Nat → Int) (hb : sg n (fun k => e k * e k) = b) {i j : Nat} (hi : i < n) (hj : j < n) :
    sg n (fun m => sg n (fun k => wfS b e i k * (r k * wfS b e m k)) * wfS b e m j) = b * b * r j * wfS b e i j := by
  have h1 : sg n (fun m => sg n (fun k => wfS b e i k * (r k * wfS b e m k)) * wfS b e m j) = sg n (fun m => sg n (fun k => wfS b e i k * r k * (wfS b e k m * wfS b e m j))) := sg_congr fun m _ => by
    rw [← sg_mulR]
    exact sg_congr fun k _ => by
      rw [wfS_sym b e m k]
      grind
  rw [h1, sg_swap]
  have h2 : sg n (fun k => sg n (fun m => wfS b e i k * r k * (wfS b e k m * wfS b e m j))) = sg n (fun k => wfS b e i k * r k * (if k = j then b * b else 0)) := sg_congr fun k hk => by
    rw [sg_mul, wfS_sq n b e hb hk hj]
  rw [h2, sg_one n j (b * b) (fun k => wfS b e i k * r k) hj]
  grind
/-- a whole table has no root that is not whole -/
theorem int_root {n : Nat} {W : Nat → Nat → Int} {c a : Int} (c0 : 0 < c) (g : Int.gcd c a = 1) {i0 : Nat} (hi : i0 < n) : ∀ (N : Nat) (v : Nat → Int), (v i0).natAbs ≤ N → v i0 ≠ 0 → (∀ i, i < n → c * sg n (fun m => W i m * v m) = a * v i) → c = 1
  | 0, v, l, v0, _ => absurd (Int.natAbs_eq_zero.mp (Nat.le_zero.mp l)) v0
  | N + 1, v, l, v0, h => by
    have dv : ∀ i, i < n → c ∣ v i := fun i hi => by
      have h1 : c.natAbs ∣ a.natAbs * (v i).natAbs := by
        rw [← Int.natAbs_mul]
        exact Int.natAbs_dvd_natAbs.mpr ⟨_, (h i hi).symm⟩
      exact Int.natAbs_dvd_natAbs.mp (Nat.Coprime.dvd_of_dvd_mul_left g h1)
    by_cases c1 : c = 1
    · exact c1
    have ev : ∀ i, i < n → v i = c * (v i / c) := fun i hi => (Int.mul_ediv_cancel' (dv i hi)).symm
    have n0 : v i0 / c ≠ 0 := fun z => v0 (by rw [ev i0 hi, z, Int.mul_zero])
    refine int_root (W := W) c0 g hi N (fun i => v i / c) ?_ n0 fun i hi2 => ?_
    · have e1 : (v i0).natAbs = c.natAbs * (v i0 / c).natAbs := by rw [← Int.natAbs_mul, ← ev i0 hi]
      have e2 : 2 ≤ c.natAbs := by omega
      have e3 : 0 < (v i0 / c).natAbs := Int.natAbs_pos.mpr n0
      have e4 := Nat.mul_le_mul_right (v i0 / c).natAbs e2
      show (v i0 / c).natAbs ≤ N
      omega
    · have h1 := h i hi2
      have h2 : sg n (fun m => W i m * v m) = c * sg n (fun m => W i m * (v m / c)) := by
        rw [← sg_mul]
        exact sg_congr fun m hm => by
          rw [ev m hm]
          have e5 : c * (v m / c) / c = v m / c := by rw [← ev m hm]
          rw [e5]
          grind
      rw [h2, ev i hi2] at h1
      have e5 : c * (v i / c) / c = v i / c := by rw [← ev i hi2]
      rw [← Int.mul_assoc, show a * (c * (v i / c)) = c * (a * (v i / c)) by grind, Int.mul_assoc] at h1
      exact Int.eq_of_mul_eq_mul_left (by omega) h1
theorem gcd_split {c : Int} (a : Int) (c0 : 0 < c) : ∃ G c' a' : Int, 0 < G ∧ c = G * c' ∧ a = G * a' ∧ Int.gcd c' a' = 1 := by
  have gp : 0 < Int.gcd c a := Int.gcd_pos_of_ne_zero_left a (show c ≠ 0 by omega)
  obtain ⟨c', hc⟩ : (Int.gcd c a : Int) ∣ c := Int.gcd_dvd_left ..
  obtain ⟨a', ha⟩ : (Int.gcd c a : Int) ∣ a := Int.gcd_dvd_right ..
  have e := Int.gcd_mul_left (Int.gcd c a : Int) c' a'
  rw [← hc, ← ha, Int.natAbs_natCast] at e
  refine ⟨_, c', a', by omega, hc, ha, ?_⟩
  exact Nat.eq_of_mul_eq_mul_left gp (by omega)
theorem int_root2 {n : Nat} {W : Nat → Nat → Int} {c a : Int} {v : Nat → Int} (c0 : 0 < c) {i0 : Nat} (hi : i0 < n) (v0 : v i0 ≠ 0) (h : ∀ i, i < n → c * sg n (fun m => W i m * v m) = a * v i) : c ∣ a := by
  obtain ⟨G, c', a', G0, rfl, rfl, g1⟩ := gcd_split a c0
  have c'0 : 0 < c' := Int.pos_of_mul_pos_right (a := G) c0 (by omega)
  have c1 := int_root (W := W) c'0 g1 hi (v i0).natAbs v (Nat.le_refl _) v0 fun i hi2 => by
    have e := h i hi2
    (rw [Int.mul_assoc, Int.mul_assoc] at e)
    exact Int.eq_of_mul_eq_mul_left (by omega) e
  exact ⟨a', by rw [c1, Int.mul_one]⟩
/-- the whole table of a planted one, less a number, has the polynomial of whole zeros; sc: the scale of the roots, u: what it is multiplied by, t: what is taken off along -/
theorem planted_pol {n : Nat} {b sc u t : Int} {e r : Nat → Int} {W : Nat → Nat → Int} (hb : sg n (fun k => e k * e k) = b) (b0 : b ≠ 0) (sc0 : 0 < sc)
    (hW : ∀ i j, i < n → j < n → sc * (b * b) * W i j = u * sg n (fun k => wfS b e i k * (r k * wfS b e j k)) - (if i = j then sc * (b * b) * t else 0)) :
    ∃ w : List Int, w.length = n ∧ (∀ j, j < n → sc * w.getD j 0 = u * r j - sc * t) ∧ (flS n W n).2.reverse = pL w := by
  have bb : b * b ≠ 0 := fun z => b0 (by rcases Int.mul_eq_zero.mp z with x | x <;> exact x)
  have key : ∀ i j, i < n → j < n → sc * sg n (fun m => W i m * wfS b e m j) = (u * r j - sc * t) * wfS b e i j := fun i j hi hj => by
    have h1 : sc * (b * b) * sg n (fun m => W i m * wfS b e m j) = u * (b * b * r j * wfS b e i j) - sc * (b * b) * t * wfS b e i j := by
      rw [← sg_mul, ← plant_led n b e r hb hi hj, ← sg_mul]
      have h2 : sg n (fun m => sc * (b * b) * (W i m * wfS b e m j)) = sg n (fun m => u * (sg n (fun k => wfS b e i k * (r k * wfS b e m k)) * wfS b e m j) + (-(sc * (b * b) * t)) * (wfS b e m j * (if m = i then 1 else 0))) := sg_congr fun m hm => by
        rw [← Int.mul_assoc, hW i m hi hm]
        by_cases z : i = m
        · rw [if_pos z, if_pos z.symm]
          grind
        · rw [if_neg z, if_neg (fun y => z y.symm)]
          grind
      rw [h2, sg_add, sg_mul n (-(sc * (b * b) * t)), sg_one n i 1 (fun m => wfS b e m j) hi]
      grind
    have h3 : b * b * (sc * sg n (fun m => W i m * wfS b e m j)) = b * b * ((u * r j - sc * t) * wfS b e i j) := by
      generalize sg n (fun m => W i m * wfS b e m j) = y at h1 ⊢
      generalize wfS b e i j = x at h1 ⊢
      grind
    exact Int.eq_of_mul_eq_mul_left bb h3
  have some0 : ∀ j, j < n → ∃ i, i < n ∧ wfS b e i j ≠ 0 := fun j hj => by
    by_cases c : ∃ i, i < n ∧ wfS b e i j ≠ 0
    · exact c
    have z : ∀ i, i < n → wfS b e i j = 0 := fun i hi => by
      by_cases y : wfS b e i j = 0
      · exact y
      · exact absurd ⟨i, hi, y⟩ c
    have s := wfS_sq n b e hb hj hj
    rw [if_pos rfl] at s
    have s2 : sg n (fun m => wfS b e j m * wfS b e m j) = sg n (fun _ => 0) := sg_congr fun m hm => by rw [z m hm, Int.mul_zero]
    rw [s2, sg_none] at s
    exact absurd s.symm bb
  have dv : ∀ j, j < n → sc ∣ u * r j - sc * t := fun j hj => by
    obtain ⟨i0, hi, h0⟩ := some0 j hj
    exact int_root2 (W := W) (v := fun i => wfS b e i j) sc0 hi h0 fun i hi2 => key i j hi2 hj
  refine ⟨(List.range n).map fun j => (u * r j - sc * t) / sc, by rw [List.length_map, List.length_range], ?_, ?_⟩
  · intro j hj
    rw [List.getD_eq_getElem?_getD, List.getElem?_map, List.getElem?_range hj]
    exact Int.mul_ediv_cancel' (dv j hj)
  · refine fl_planted (S := wfS b e) (b := b * b) (by rw [List.length_map, List.length_range]) bb (fun i j hi hj => ?_) (fun i j hi hj => wfS_sq n b e hb hi hj)
    rw [List.getD_eq_getElem?_getD, List.getElem?_map, List.getElem?_range hj]
    show _ = (u * r j - sc * t) / sc * wfS b e i j
    have k := key i j hi hj
    have d := Int.mul_ediv_cancel' (dv j hj)
    generalize (u * r j - sc * t) / sc = y at d ⊢
    rw [← d, Int.mul_assoc] at k
    exact Int.eq_of_mul_eq_mul_left (by omega) k
end V3
/-! Means and spreads of roots that all lie outside a stretch. -/
namespace V3
def sqM (x y : Nat → Rat) : Nat → Rat
  | 0 => 0
  | k + 1 => sqM x y k + x k * y k
def sqS (x y : Nat → Rat) (m : Rat) : Nat → Rat
  | 0 => 0
  | k + 1 => sqS x y m k + (x k - m) * (x k - m) * y k
def sqY (y : Nat → Rat) : Nat → Rat
  | 0 => 0
  | k + 1 => sqY y k + y k
def sqX (x y : Nat → Rat) : Nat → Rat
  | 0 => 0
  | k + 1 => sqX x y k + x k * x k * y k
def sqQ (x y : Nat → Rat) (l h : Rat) : Nat → Rat
  | 0 => 0
  | k + 1 => sqQ x y l h k + (x k - l) * (x k - h) * y k
theorem sqS_eq (x y : Nat → Rat) (m : Rat) : ∀ n, sqS x y m n = sqX x y n - 2 * m * sqM x y n + m * m * sqY y n
  | 0 => by
    show (0 : Rat) = 0 - 2 * m * 0 + m * m * 0
    grind
  | n + 1 => by
    show sqS x y m n + (x n - m) * (x n - m) * y n = (sqX x y n + x n * x n * y n) - 2 * m * (sqM x y n + x n * y n) + m * m * (sqY y n + y n)
    rw [sqS_eq x y m n]
    grind
theorem sqQ_eq (x y : Nat → Rat) (l h : Rat) : ∀ n, sqQ x y l h n = sqX x y n - (l + h) * sqM x y n + l * h * sqY y n
  | 0 => by
    show (0 : Rat) = 0 - (l + h) * 0 + l * h * 0
    grind
  | n + 1 => by
    show sqQ x y l h n + (x n - l) * (x n - h) * y n = (sqX x y n + x n * x n * y n) - (l + h) * (sqM x y n + x n * y n) + l * h * (sqY y n + y n)
    rw [sqQ_eq x y l h n]
    grind
theorem sqQ_pos {x y : Nat → Rat} {l h : Rat} (lh : l ≤ h) : ∀ n, (∀ i, i < n → 0 ≤ y i ∧ (x i < l ∨ h < x i)) → 0 ≤ sqY y n ∧ 0 ≤ sqQ x y l h n ∧ (0 < sqY y n → 0 < sqQ x y l h n)
  | 0, _ => ⟨Rat.le_refl, Rat.le_refl, fun h => absurd h (by show ¬ (0 : Rat) < 0; exact Rat.lt_irrefl)⟩
  | n + 1, k => by
    obtain ⟨h1, h2, h3⟩ := sqQ_pos (x := x) (y := y) lh n fun i hi => k i (by omega)
    obtain ⟨y0, out⟩ := k n (by omega)
    have tp : 0 < (x n - l) * (x n - h) := by
      rcases out with o | o
      · have a1 : 0 < l - x n := by grind
        have a2 : 0 < h - x n := by grind
        have := Rat.mul_pos a1 a2
        grind
      · have a1 : 0 < x n - l := by grind
        have a2 : 0 < x n - h := by grind
        exact Rat.mul_pos a1 a2
    have ty : 0 ≤ (x n - l) * (x n - h) * y n := Rat.mul_nonneg (Rat.le_of_lt tp) y0
    show 0 ≤ sqY y n + y n ∧ 0 ≤ sqQ x y l h n + (x n - l) * (x n - h) * y n ∧ (0 < sqY y n + y n → 0 < sqQ x y l h n + (x n - l) * (x n - h) * y n)
    refine ⟨by grind, by grind, fun p => ?_⟩
    rcases Rat.le_total (a := y n) (b := 0) with z | z
    · have yz : y n = 0 := by grind
      have := h3 (by grind)
      grind
    · by_cases yz : y n = 0
      · have := h3 (by grind)
        grind
      · have yp : 0 < y n := by grind
        have := Rat.mul_pos tp yp
        grind
/-- not surely, where all roots are outside -/
theorem out_not {x y : Nat → Rat} {l h : Rat} {n : Nat} (lh : l ≤ h) (k : ∀ i, i < n → 0 ≤ y i ∧ (x i < l ∨ h < x i)) (y1 : sqY y n = 1) : ¬ sqS x y (sqM x y n) n ≤ (sqM x y n - l) * (h - sqM x y n) := fun c => by
  have p := (sqQ_pos lh n k).2.2 (by rw [y1]; decide +kernel)
  rw [sqQ_eq, y1] at p
  rw [sqS_eq, y1] at c
  generalize sqM x y n = m at p c
  generalize sqX x y n = X at p c
  have e : X - (l + h) * m + l * h * 1 = (X - 2 * m * m + m * m * 1) - (m - l) * (h - m) := by grind
  rw [e] at p
  grind
end V3
set_option maxHeartbeats 8000000
namespace V3
open PySem.Spec PySem L2 PyProof.Rows RZ GxR
theorem getMx {M : List (List Int)} {n i : Nat} (h : M.length = n) (hi : i < n) : M[i]? = some (M.getD i []) ∧ M.getD i [] ∈ M := by
  have hl : i < M.length := by omega
  have e : M.getD i [] = M[i] := by
    rw [List.getD_eq_getElem?_getD, List.getElem?_eq_getElem hl]
    rfl
  rw [e]
  exact ⟨List.getElem?_eq_getElem hl, List.getElem_mem hl⟩
/-! ### the told table as a value -/
def frDD (x : Rat) : D := .tup [.int x.num, .int (x.den : Int)]
def toldDs (M : List (List Int)) (z : Int) : List D := M.map fun r => .tup (r.map fun c => frDD (Rat.divInt c z))
theorem conv_told (M : List (List Int)) (z : Int) : conv (toldP M z) = .tup (toldDs M z) := by
  show D.tup (convs (M.map (rowP z))) = _
  rw [convs_map, List.map_map]
  unfold toldDs
  congr 1
  apply List.map_congr_left
  intro r _
  show D.tup (convs (r.map fun c => frd (Rat.divInt c z))) = _
  rw [convs_map, List.map_map]
  rfl
theorem toldDs_len (M : List (List Int)) (z : Int) : (toldDs M z).length = M.length := List.length_map _
theorem fracB_frDD (x : Rat) : fracB (frDD x) = true := by
  show (decide _ && decide _) = true
  have h1 : (0 : Int) < (x.den : Int) := by
    have := x.den_pos
    omega
  have h2 : Int.gcd x.num (x.den : Int) = 1 := by
    unfold Int.gcd
    rw [Int.natAbs_natCast]
    exact x.reduced
  rw [decide_eq_true h1, decide_eq_true h2]
  rfl
theorem told_tab {M : List (List Int)} {n b : Nat} {z : Int} (sy : Sy n b M) (n1 : 1 ≤ n) (n5 : n ≤ 5) : tabB (.tup (toldDs M z)) = true := by
  have len : (toldDs M z).length = n := by rw [toldDs_len, sy.len]
  have rows : (toldDs M z).all (rowB n) = true := by
    rw [List.all_eq_true]
    intro d hd
    obtain ⟨r, hm, rfl⟩ := List.mem_map.mp hd
    show (decide _ && List.all _ _) = true
    rw [Bool.and_eq_true]
    refine ⟨decide_eq_true (by rw [List.length_map, (sy.row r hm).1]), ?_⟩
    show (r.map fun c => frDD (Rat.divInt c z)).all fracB = true
    rw [List.all_eq_true]
    intro d hd
    obtain ⟨c, _, rfl⟩ := List.mem_map.mp hd
    exact fracB_frDD _
  have cell : ∀ i j, i < n → j < n → cellD (toldDs M z) i j = (frDD (Rat.divInt ((M.getD i []).getD j 0) z)).pair := fun i j hi hj => by
    have hl : i < M.length := by rw [sy.len]; exact hi
    obtain ⟨g1, g2⟩ := getMx sy.len hi
    have lr := (sy.row _ g2).1
    have e1 : (toldDs M z).getD i .oth = .tup ((M.getD i []).map fun c => frDD (Rat.divInt c z)) := by
      (rw [List.getD_eq_getElem?_getD])
      unfold toldDs
      rw [List.getElem?_map, g1]
      rfl
    unfold cellD
    rw [e1]
    show (((M.getD i []).map fun c => frDD (Rat.divInt c z)).getD j .oth).pair = _
    congr 1
    have hj2 : j < (M.getD i []).length := by rw [lr]; exact hj
    rw [List.getD_eq_getElem?_getD, List.getElem?_map, List.getElem?_eq_getElem hj2, getD_of hj2]
    rfl
  have sym : symB (toldDs M z) = true := by
    unfold symB
    rw [len, List.all_eq_true]
    intro i hi
    rw [List.all_eq_true]
    intro j hj
    (have hi' := List.mem_range.mp hi)
    (have hj' := List.mem_range.mp hj)
    refine decide_eq_true ?_
    rw [cell i j hi' (by omega), cell j i (by omega) hi', sy.sym i j hi' (by omega)]
  show (decide _ && decide _ && _ && _) = true
  rw [len, rows, sym, decide_eq_true n1, decide_eq_true n5]
  rfl
/-! ### told rows as pairs -/
def prT (z : Int) (c : Int) : Int × Int := ((Rat.divInt c z).num, ((Rat.divInt c z).den : Int))
def rowT (r : List Int) (z : Int) : List (Int × Int) := r.map (prT z)
def rowsT (M : List (List Int)) (z : Int) : List (List (Int × Int)) := M.map fun r => rowT r z
theorem rowT_d (r : List Int) (z : Int) : rowD (rowT r z) = .tuple (r.map fun c => frd (Rat.divInt c z)) := by
  unfold rowD rowT
  rw [List.map_map]
  rfl
theorem rowsT_d (M : List (List Int)) (z : Int) : rowsD (rowsT M z) = toldP M z := by
  unfold rowsD rowsT toldP
  rw [List.map_map]
  congr 1
  apply List.map_congr_left
  intro r _
  exact rowT_d r z
theorem prT_dvd {z c : Int} (h : 0 < z) : (prT z c).2 ∣ z := by
  show ((Rat.divInt c z).den : Int) ∣ z
  rw [dden h]
  have h2 : (Int.gcd c z : Int) ∣ z := Int.gcd_dvd_right ..
  exact ⟨(Int.gcd c z : Int), (Int.ediv_mul_cancel h2).symm⟩
theorem prT_pos (z c : Int) : 0 < (prT z c).2 := rden_pos _
theorem prT_eq {z c : Int} (h : 0 < z) : (prT z c).1 * z = c * (prT z c).2 := by
  show (Rat.divInt c z).num * z = c * ((Rat.divInt c z).den : Int)
  rw [dden h, dnum h]
  have h1 : (Int.gcd c z : Int) ∣ c := Int.gcd_dvd_left ..
  have h2 : (Int.gcd c z : Int) ∣ z := Int.gcd_dvd_right ..
  have g0 := gcdP (n := c) h
  obtain ⟨x, hx⟩ := h1
  obtain ⟨y, hy⟩ := h2
  generalize (Int.gcd c z : Int) = g at *
  have e1 : c / g = x := by rw [hx]; exact Int.mul_ediv_cancel_left x (by omega)
  have e2 : z / g = y := by rw [hy]; exact Int.mul_ediv_cancel_left y (by omega)
  rw [e1, e2, hx, hy]
  grind
theorem prT_whole {z c u : Int} (h : 0 < z) (d : (prT z c).2 ∣ u) : z * ((prT z c).1 * (u / (prT z c).2)) = u * c := by
  obtain ⟨t, ht⟩ := d
  have p0 := prT_pos z c
  have e := prT_eq (z := z) (c := c) h
  generalize prT z c = q at *
  have e1 : u / q.2 = t := by rw [ht]; exact Int.mul_ediv_cancel_left t (by omega)
  rw [e1, ht]
  have : z * (q.1 * t) = (q.1 * z) * t := by grind
  rw [this, e]
  grind
theorem lcm_dvd_all {m : Nat} {rows : List (List (Int × Int))} (h : ∀ r ∈ rows, ∀ q ∈ r, q.2.natAbs ∣ m) : lcmAll rows ∣ m := by
  have row : ∀ (r : List (Int × Int)) (u : Nat), u ∣ m → (∀ q ∈ r, q.2.natAbs ∣ m) → lcmRow u r ∣ m := fun r => by
    induction r with
    | nil => exact fun u h _ => h
    | cons q t ih => exact fun u h k => ih (Nat.lcm u q.2.natAbs) (Nat.lcm_dvd h (k q List.mem_cons_self)) fun x hx => k x (List.mem_cons_of_mem _ hx)
  have all : ∀ (rs : List (List (Int × Int))) (u : Nat), u ∣ m → (∀ r ∈ rs, ∀ q ∈ r, q.2.natAbs ∣ m) → rs.foldl lcmRow u ∣ m := fun rs => by
    induction rs with
    | nil => exact fun u h _ => h
    | cons r t ih => exact fun u h k => ih _ (row r u h (k r List.mem_cons_self)) fun x hx => k x (List.mem_cons_of_mem _ hx)
  exact all rows 1 (Nat.one_dvd m) h
theorem rowsT_lcm {M : List (List Int)} {z : Int} (h : 0 < z) : lcmAll (rowsT M z) ∣ z.natAbs := lcm_dvd_all fun r hr q hq => by
  obtain ⟨r', _, rfl⟩ := List.mem_map.mp hr
  obtain ⟨c, _, rfl⟩ := List.mem_map.mp hq
  exact Int.natAbs_dvd_natAbs.mpr (prT_dvd h)
theorem rowsT_le {M : List (List Int)} {z : Int} (h : 0 < z) : lcmAll (rowsT M z) ≤ z.natAbs := Nat.le_of_dvd (by omega) (rowsT_lcm h)
theorem rowsT_pos {M : List (List Int)} {z : Int} : 0 < lcmAll (rowsT M z) := lcmAll_pos _ fun r hr q hq => by
  obtain ⟨r', _, rfl⟩ := List.mem_map.mp hr
  obtain ⟨c, _, rfl⟩ := List.mem_map.mp hq
  exact prT_pos z c
theorem rowsT_mem {M : List (List Int)} {z c : Int} {r : List Int} (hr : r ∈ M) (hc : c ∈ r) : (prT z c).2 ∣ ((lcmAll (rowsT M z) : Nat) : Int) := by
  have h := lcmAll_mem (rows := rowsT M z) (r := rowT r z) (List.mem_map.mpr ⟨r, hr, rfl⟩) (q := prT z c) (List.mem_map.mpr ⟨c, hc, rfl⟩)
  have h2 := Int.natCast_dvd_natCast.mpr h
  rw [Int.natAbs_of_nonneg (Int.le_of_lt (prT_pos z c))] at h2
  exact h2
/-- told rows in whole numbers -/
theorem whole_get {M : List (List Int)} {z : Int} {r : List Int} (h : 0 < z) (hr : r ∈ M) (i : Nat) : z * (wholeRow (lcmAll (rowsT M z) : Nat) (rowT r z)).getD i 0 = (lcmAll (rowsT M z) : Nat) * r.getD i 0 := by
  unfold wholeRow rowT
  rw [List.map_map, List.getD_eq_getElem?_getD, List.getElem?_map, List.getD_eq_getElem?_getD]
  cases e : r[i]? with
  | none => simp
  | some c => exact prT_whole h (rowsT_mem hr (List.mem_of_getElem? e))
theorem whole_lt {M : List (List Int)} {z : Int} {b k : Nat} (h : 0 < z) (hz : z.natAbs < 2 ^ k) (hM : ∀ r ∈ M, ∀ x ∈ r, x.natAbs < 2 ^ b) : ∀ r ∈ rowsT M z, ∀ x ∈ wholeRow (lcmAll (rowsT M z) : Nat) r, x.natAbs < 2 ^ (b + k) := fun r hr x hx => by
  obtain ⟨r', hr', rfl⟩ := List.mem_map.mp hr
  obtain ⟨q, hq, rfl⟩ := List.mem_map.mp hx
  obtain ⟨c, hc, rfl⟩ := List.mem_map.mp hq
  have e := prT_whole h (rowsT_mem (z := z) hr' hc)
  have l := rowsT_le (M := M) h
  generalize (prT z c).1 * ((lcmAll (rowsT M z) : Nat) / (prT z c).2) = t at e ⊢
  have h1 : z.natAbs * t.natAbs = lcmAll (rowsT M z) * c.natAbs := by
    rw [← Int.natAbs_mul, e, Int.natAbs_mul, Int.natAbs_natCast]
  have h2 : z.natAbs * t.natAbs ≤ z.natAbs * c.natAbs := by
    rw [h1]
    exact Nat.mul_le_mul_right _ l
  have h3 : t.natAbs ≤ c.natAbs := Nat.le_of_mul_le_mul_left h2 (by omega)
  exact Nat.lt_of_le_of_lt h3 (Nat.lt_of_lt_of_le (hM r' hr' c hc) (pw (by omega)))
theorem prT_sf {z c : Int} {b k : Nat} (h : 0 < z) (hz : z.natAbs < 2 ^ k) (hc : c.natAbs < 2 ^ b) (l : b + k ≤ 4000) : Sf (prT z c) := by
  have bq := bq_div h (Nat.lt_of_lt_of_le hc (pw (show b ≤ 4000 by omega))) (Nat.lt_of_lt_of_le hz (pw (show k ≤ 4000 by omega)))
  exact ⟨prT_pos z c, bq.n, natI bq.d⟩
end V3
set_option maxHeartbeats 4100000
/-! The counts of a planted table. -/
namespace V3
open PySem.Spec PySem L2 PyProof.Rows RZ GxR
theorem plant_len {e roots : List Int} {n : Nat} (he : e.length = n) : (framedM (mirM e) (alongM roots)).length = n ∧ ∀ r ∈ framedM (mirM e) (alongM roots), r.length = n := by
  have Wl : (mirM e).length = n := by simp [mirM, he]
  refine ⟨by simp [framedM, Wl], fun r hr => ?_⟩
  obtain ⟨w, _, rfl⟩ := List.mem_map.mp hr
  simp [Wl]
theorem plant_cell {e roots : List Int} {n : Nat} (he : e.length = n) (hr : roots.length = n) {i j : Nat} (hi : i < n) (hj : j < n) :
    ((framedM (mirM e) (alongM roots)).getD i []).getD j 0 = sg n fun k => wfS (dotL e e) (fun k => e.getD k 0) i k * (roots.getD k 0 * wfS (dotL e e) (fun k => e.getD k 0) j k) := by
  have Wrow : ∀ i, i < n → (mirM e).getD i [] = mirR e i := fun i hi => by
    unfold mirM
    rw [getD_range _ _ (by omega)]
  have Wcell : ∀ i j, i < n → j < n → (mirR e i).getD j 0 = wfS (dotL e e) (fun k => e.getD k 0) i j := fun i j hi hj => by
    unfold mirR
    rw [getD_range _ _ (by omega)]
    rfl
  have Wl : (mirM e).length = n := by simp [mirM, he]
  unfold framedM
  rw [getD_map' _ [] [] (by omega), getD_map' (fun w2 => dotL ((mirM e).getD i []) (ledR (alongM roots) w2)) [] 0 (by omega), Wrow i hi, Wrow j hj]
  unfold dotL
  have l1 : (mirR e i).length = n := by simp [mirR, he]
  rw [l1]
  show sg n _ = sg n _
  refine sg_congr fun k hk => ?_
  have l2 : (ledR (alongM roots) (mirR e j)).getD k 0 = roots.getD k 0 * (mirR e j).getD k 0 := by
    unfold ledR
    rw [getD_map' (fun g => dotL g (mirR e j)) [] 0 (by rw [along_len]; omega)]
    have : (alongM roots).getD k [] = aloneR roots k := by
      unfold alongM
      rw [getD_range _ _ (by omega)]
    rw [this, dot_alone (by omega) (by simp [mirR, he, hr])]
  rw [l2, Wcell i k hi hk, Wcell j k hj hk]
  rfl
/-- the whole table, less the number x along -/
def lessW (M : List (List Int)) (z : Int) (x : Rat) : List (List Int) := diaA ((rowsT M z).map (wholeRow (Nat.lcm (lcmAll (rowsT M z)) x.den : Nat))) (-(x.num * (((Nat.lcm (lcmAll (rowsT M z)) x.den : Nat) : Int) / (x.den : Int)))) (rowsT M z).length
theorem whole_sq {M : List (List Int)} {n : Nat} {z u : Int} (hl : M.length = n) (hr : ∀ r ∈ M, r.length = n) : SqM n ((rowsT M z).map (wholeRow u)) := by
  refine ⟨by rw [List.length_map]; unfold rowsT; rw [List.length_map, hl], fun r h => ?_⟩
  obtain ⟨r1, h1, rfl⟩ := List.mem_map.mp h
  obtain ⟨r2, h2, rfl⟩ := List.mem_map.mp h1
  unfold wholeRow rowT
  rw [List.length_map, List.length_map]
  exact hr r2 h2
theorem rowsT_len (M : List (List Int)) (z : Int) : (rowsT M z).length = M.length := List.length_map _
theorem lessW_sq {M : List (List Int)} {n : Nat} {z : Int} {x : Rat} (hl : M.length = n) (hr : ∀ r ∈ M, r.length = n) : SqM n (lessW M z x) := by
  unfold lessW
  rw [rowsT_len, hl]
  exact diaA_sq (whole_sq hl hr) n (Nat.le_refl n)
theorem lessW_tab {M : List (List Int)} {n : Nat} {z : Int} {x : Rat} (hl : M.length = n) (hr : ∀ r ∈ M, r.length = n) {i j : Nat} (hi : i < n) (hj : j < n) :
    tabF (lessW M z x) i j = tabF ((rowsT M z).map (wholeRow (Nat.lcm (lcmAll (rowsT M z)) x.den : Nat))) i j + (if i = j ∧ i < n then -(x.num * (((Nat.lcm (lcmAll (rowsT M z)) x.den : Nat) : Int) / (x.den : Int))) else 0) := by
  unfold lessW
  rw [rowsT_len, hl]
  exact dia_tab (whole_sq hl hr) hi hj n (Nat.le_refl n)
theorem whole_tab {M : List (List Int)} {n : Nat} {z : Int} {u : Nat} (z0 : 0 < z) (hl : M.length = n) (hr : ∀ r ∈ M, r.length = n) (du : lcmAll (rowsT M z) ∣ u) {i j : Nat} (hi : i < n) (hj : j < n) :
    z * tabF ((rowsT M z).map (wholeRow (u : Int))) i j = (u : Int) * (M.getD i []).getD j 0 := by
  obtain ⟨g1, g2⟩ := getMx hl hi
  have e1 : ((rowsT M z).map (wholeRow (u : Int))).getD i [] = wholeRow (u : Int) (rowT (M.getD i []) z) := by
    (rw [List.getD_eq_getElem?_getD])
    unfold rowsT
    rw [List.map_map, List.getElem?_map, g1]
    rfl
  have hj2 : j < (M.getD i []).length := by rw [hr _ g2]; exact hj
  have e2 : (M.getD i [])[j]? = some ((M.getD i []).getD j 0) := by
    rw [List.getElem?_eq_getElem hj2]
    exact congrArg some (getD_of hj2).symm
  rw [tabF, e1]
  have e3 : (wholeRow (u : Int) (rowT (M.getD i []) z)).getD j 0 = (prT z ((M.getD i []).getD j 0)).1 * ((u : Int) / (prT z ((M.getD i []).getD j 0)).2) := by
    unfold wholeRow rowT
    rw [List.map_map, List.getD_eq_getElem?_getD, List.getElem?_map, e2]
    rfl
  rw [e3]
  exact prT_whole z0 (Int.dvd_trans (rowsT_mem g2 (List.mem_of_getElem? e2)) (Int.natCast_dvd_natCast.mpr du))
theorem filter_len {α β : Type} {p : α → Bool} {q : β → Bool} : ∀ (xs : List α) (ys : List β), xs.length = ys.length → (∀ (i : Nat) x y, xs[i]? = some x → ys[i]? = some y → p x = q y) → (xs.filter p).length = (ys.filter q).length
  | [], [], _, _ => rfl
  | [], _ :: _, hn, _ => by simp at hn
  | _ :: _, [], hn, _ => by simp at hn
  | x :: xs, y :: ys, h, k => by
    have ih := filter_len xs ys (by simpa using h) fun i x y h1 h2 => k (i + 1) x y h1 h2
    have e := k 0 x y rfl rfl
    rw [List.filter_cons, List.filter_cons, e]
    cases q y with
    | true => simpa using ih
    | false => simpa using ih
/-- a zero above 0, a root above the number -/
theorem zero_side {sc u t w r : Int} {x : Rat} (sc0 : 0 < sc) (u0 : 0 < u) (ht : (x.den : Int) * t = u * x.num) (h : sc * w = u * r - sc * t) : ((0 < w) ↔ x < Rat.divInt r sc) ∧ ((w = 0) ↔ x = Rat.divInt r sc) := by
  have d0 : (0 : Int) < (x.den : Int) := rden_pos x
  have ex : x = Rat.divInt x.num (x.den : Int) := (Rat.num_divInt_den x).symm
  have key : sc * (x.den : Int) * w = u * (r * (x.den : Int) - sc * x.num) := by
    have : sc * (x.den : Int) * w = (x.den : Int) * (sc * w) := by grind
    rw [this, h]
    have e2 : (x.den : Int) * (u * r - sc * t) = u * (r * (x.den : Int)) - sc * ((x.den : Int) * t) := by grind
    rw [e2, ht]
    grind
  have lt : x < Rat.divInt r sc ↔ x.num * sc < r * (x.den : Int) := by
    have e : (Rat.divInt r sc).num * sc = r * ((Rat.divInt r sc).den : Int) := prT_eq (z := sc) (c := r) sc0
    have y0 : (0 : Int) < ((Rat.divInt r sc).den : Int) := rden_pos _
    rw [Rat.lt_iff]
    generalize (Rat.divInt r sc).num = yn at *
    generalize ((Rat.divInt r sc).den : Int) = yd at *
    generalize (x.den : Int) = d at *
    have e1 : sc * (yn * d - x.num * yd) = yd * (r * d - x.num * sc) := by
      have e2 : sc * (yn * d) = (yn * sc) * d := by grind
      rw [Int.mul_sub, e2, e]
      grind
    generalize x.num * yd = P at *
    generalize yn * d = P2 at *
    generalize x.num * sc = A at *
    generalize r * d = B at *
    constructor
    · intro h
      have p := Int.mul_pos sc0 (show 0 < P2 - P by omega)
      rw [e1] at p
      have := Int.pos_of_mul_pos_right p (by omega)
      omega
    · intro h
      have p := Int.mul_pos y0 (show 0 < B - A by omega)
      rw [← e1] at p
      have := Int.pos_of_mul_pos_right p (by omega)
      omega
  have eq : x = Rat.divInt r sc ↔ x.num * sc = r * (x.den : Int) := by
    conv => lhs; rw [ex]
    exact Rat.divInt_eq_divInt_iff (by omega) (by omega)
  rw [lt, eq]
  have sd : 0 < sc * (x.den : Int) := Int.mul_pos sc0 d0
  generalize (x.den : Int) = d at *
  generalize x.num = m at *
  have e3 : r * d - sc * m = r * d - m * sc := by rw [Int.mul_comm sc m]
  rw [e3] at key
  generalize m * sc = A at *
  generalize r * d = B at *
  generalize sc * d = S at *
  refine ⟨⟨fun hw => ?_, fun hb => ?_⟩, ⟨fun hw => ?_, fun hb => ?_⟩⟩
  · have p := Int.mul_pos sd hw
    rw [key] at p
    have := Int.pos_of_mul_pos_right p (by omega)
    omega
  · have p := Int.mul_pos u0 (show 0 < B - A by omega)
    rw [← key] at p
    exact Int.pos_of_mul_pos_right p (by omega)
  · rw [hw, Int.mul_zero] at key
    rcases Int.mul_eq_zero.mp key.symm with z | z
    · omega
    · omega
  · rw [hb, Int.sub_self, Int.mul_zero] at key
    rcases Int.mul_eq_zero.mp key with z | z
    · omega
    · exact z
/-- the polynomial of the whole table of a planted one, less x: as many zeros above 0 as roots above x, as many that are 0 as roots that are x -/
theorem planted_w {e roots : List Int} {n : Nat} {sc : Int} (he : e.length = n) (hr : roots.length = n) (b0 : 0 < dotL e e) (sc0 : 0 < sc) (x : Rat) :
    ∃ w : List Int, (polL n (lessW (framedM (mirM e) (alongM roots)) (sc * (dotL e e * dotL e e)) x) n).2.reverse = pL w ∧ w.length = n ∧
      (posI w).length = ((roots.map fun c => Rat.divInt c sc).filter fun r => decide (x < r)).length ∧ (nulI w).length = ((roots.map fun c => Rat.divInt c sc).filter fun r => decide (x = r)).length := by
  obtain ⟨hl, hrow⟩ := plant_len (e := e) (roots := roots) he
  have bb : 0 < dotL e e * dotL e e := Int.mul_pos b0 b0
  have z0 : 0 < sc * (dotL e e * dotL e e) := Int.mul_pos sc0 bb
  have sq := lessW_sq (z := sc * (dotL e e * dotL e e)) (x := x) hl hrow
  have u1 : lcmAll (rowsT (framedM (mirM e) (alongM roots)) (sc * (dotL e e * dotL e e))) ∣ Nat.lcm (lcmAll (rowsT (framedM (mirM e) (alongM roots)) (sc * (dotL e e * dotL e e)))) x.den := Nat.dvd_lcm_left ..
  have u2 : x.den ∣ Nat.lcm (lcmAll (rowsT (framedM (mirM e) (alongM roots)) (sc * (dotL e e * dotL e e)))) x.den := Nat.dvd_lcm_right ..
  have u0 : 0 < Nat.lcm (lcmAll (rowsT (framedM (mirM e) (alongM roots)) (sc * (dotL e e * dotL e e)))) x.den := Nat.lcm_pos rowsT_pos x.den_pos
  have tab := fun i j (hi : i < n) (hj : j < n) => lessW_tab (z := sc * (dotL e e * dotL e e)) (x := x) hl hrow hi hj
  have whole := fun i j (hi : i < n) (hj : j < n) => whole_tab z0 hl hrow u1 hi hj
  rw [(polL_fl sq n).2.2]
  generalize hW : lessW (framedM (mirM e) (alongM roots)) (sc * (dotL e e * dotL e e)) x = W at *
  generalize hu : Nat.lcm (lcmAll (rowsT (framedM (mirM e) (alongM roots)) (sc * (dotL e e * dotL e e)))) x.den = u at *
  have ht : (x.den : Int) * (x.num * ((u : Int) / (x.den : Int))) = u * x.num := by
    obtain ⟨k, hk⟩ := u2
    have d0 := x.den_pos
    rw [hk, Int.natCast_mul, Int.mul_ediv_cancel_left _ (by omega)]
    grind
  obtain ⟨w, lw, hw, hp⟩ := planted_pol (n := n) (b := dotL e e) (sc := sc) (u := (u : Int)) (t := x.num * ((u : Int) / (x.den : Int))) (e := fun k => e.getD k 0) (r := fun k => roots.getD k 0) (W := tabF W) (by unfold dotL; rw [he]; rfl) (by omega) sc0 fun i j hi hj => by
    rw [← plant_cell he hr hi hj, ← whole i j hi hj, tab i j hi hj]
    by_cases c : i = j
    · rw [if_pos ⟨c, hi⟩, if_pos c]
      grind
    · rw [if_neg (fun z => c z.1), if_neg c]
      grind
  have side : ∀ (i : Nat) (a : Int) (r : Rat), w[i]? = some a → (roots.map fun c => Rat.divInt c sc)[i]? = some r → ((0 < a) ↔ x < r) ∧ ((a = 0) ↔ x = r) := fun i a r h1 h2 => by
    rw [List.getElem?_map] at h2
    obtain ⟨c, hc, rfl⟩ := Option.map_eq_some_iff.mp h2
    have il : i < n := by
      have := (List.getElem?_eq_some_iff.mp h1).1
      omega
    have k := hw i il
    rw [List.getD_eq_getElem?_getD, h1] at k
    have k2 : roots.getD i 0 = c := by
      rw [List.getD_eq_getElem?_getD, hc]
      rfl
    rw [k2] at k
    exact zero_side sc0 (by omega) ht k
  refine ⟨w, hp, lw, ?_, ?_⟩
  · exact filter_len w _ (by rw [List.length_map, lw, hr]) fun i a r h1 h2 => decide_eq_decide.mpr (side i a r h1 h2).1
  · exact filter_len w _ (by rw [List.length_map, lw, hr]) fun i a r h1 h2 => decide_eq_decide.mpr (side i a r h1 h2).2
end V3
set_option maxHeartbeats 8000000
namespace V3
open PySem.Spec PySem L2 PyProof.Rows RZ GxR
structure FrL (K : PySem.W.Frag) (H : Hp) (p : Addr) (us : List V) (qs : List Rat) : Prop where
  at_ : H p = some (.lst us)
  dat : DpTAll K H us (qs.map frd)
  n1 : 1 ≤ qs.length
  n8 : qs.length ≤ 8
  bq : ∀ q ∈ qs, Bq 23 q
theorem FrL.but {K : PySem.W.Frag} {H H' : Hp} {a p : Addr} {us : List V} {qs : List Rat} {k : Nat} (h : FrL K H p us qs) (b : But a H H') (w : Well H a k) (n : a ≠ p) : FrL K H' p us qs :=
  ⟨b _ _ (Ne.symm n) h.at_, h.dat.keep (b.ktW w), h.n1, h.n8, h.bq⟩
theorem FrL.same {K : PySem.W.Frag} {H H' : Hp} {p : Addr} {us : List V} {qs : List Rat} (h : FrL K H p us qs) (s : Same H H') : FrL K H' p us qs :=
  ⟨s _ _ h.at_, h.dat.keep (Same.kt s), h.n1, h.n8, h.bq⟩
theorem bq_small {n u : Int} {b : Nat} (h : 0 < u) (hn : n.natAbs < 2 ^ b) (hu : u.natAbs < 2 ^ b) : Bq b (Rat.divInt n u) := bq_div h hn hu
section
variable {mg : Str → Option Value} {base : Heap} {K : PySem.W.Frag} {P : Program} {w : World}
abbrev s__law_quotient : Stmt := topS 62
abbrev N__law_quotient : List Str := ["one", "two"]
theorem sc__law_quotient : FnScope N__law_quotient ["one", "two"] (defScope s__law_quotient) := ⟨rfl, rfl, rfl, by decide +kernel, rfl, by decide +kernel, by decide +kernel⟩
theorem ok_law_quotient (D__law_lowest : Df P w K mg base "_law_lowest" 2 ["upper", "lower"] spFrac) (F : At K mg "_law_quotient" s__law_quotient) : Df P w K mg base "_law_quotient" 3 ["one", "two"] (spR2 K (· / ·) fun y => 0 < y) := by
  have sc := sc__law_quotient
  refine Df.mk' F sc (fun vs H Q E h => ?_) (fun _ _ _ _ _ _ us hl => match us, hl with | [_, _], _ => rfl) (fun f cdv A outer s H vs Q E hr h => ?_)
  · obtain ⟨v, w, x, y, rfl, _⟩ := h
    rfl
  · obtain ⟨v, w, x, y, rfl, hx, hy, sx, sy, yp, q⟩ := h
    obtain ⟨p, rfl, hp⟩ := fqT hx
    obtain ⟨p', rfl, hp'⟩ := fqT hy
    refine ⟨_, (pss_one (ps_ret (pe_fn D__law_lowest (by decide) hr (pa_cons (pe_op op_mulW (pe_ix ix_tup (pv 0) pe_int (fun _ _ => rfl)) (pe_ix ix_tup (pv 1) pe_int (fun _ _ => rfl))) (pa_cons (pe_op op_mulW (pe_ix ix_tup (pv 0) pe_int (fun _ _ => rfl)) (pe_ix ix_tup (pv 1) pe_int (fun _ _ => rfl))) pa_nil))))), ?_⟩
    refine ⟨_, rfl, _, _, _, _, rfl, rfl, hp, at20, _, rfl, _, _, _, _, rfl, rfl, hp', at21, _, _, rfl, rfl, mulW4 sx.n (natI sy.d), ?_⟩
    refine ⟨_, rfl, _, _, _, _, rfl, rfl, hp, at21, _, rfl, _, _, _, _, rfl, rfl, hp', at20, _, _, rfl, rfl, mulW4 (natI sx.d) sy.n, ?_⟩
    dsimp only at q
    rw [rdiv] at q
    exact ⟨_, _, rfl, Int.mul_pos (rden_pos x) (rnum_pos yp), sz4 (natI sx.d) sy.n, q⟩
abbrev s__law_up_to : Stmt := topS 60
abbrev N__law_up_to : List Str := ["one", "two"]
theorem sc__law_up_to : FnScope N__law_up_to ["one", "two"] (defScope s__law_up_to) := ⟨rfl, rfl, rfl, by decide +kernel, rfl, by decide +kernel, by decide +kernel⟩
theorem ok_law_up_to (F : At K mg "_law_up_to" s__law_up_to) : Df P w K mg base "_law_up_to" 1 ["one", "two"] (spR2b K fun x y => decide (x ≤ y)) := by
  have sc := sc__law_up_to
  refine Df.mk' F sc (fun vs H Q E h => ?_) (fun _ _ _ _ _ _ us hl => match us, hl with | [_, _], _ => rfl) (fun f cdv A outer s H vs Q E hr h => ?_)
  · obtain ⟨v, w, x, y, rfl, _⟩ := h
    rfl
  · obtain ⟨v, w, x, y, rfl, hx, hy, sx, sy, q⟩ := h
    obtain ⟨p, rfl, hp⟩ := fqT hx
    obtain ⟨p', rfl, hp'⟩ := fqT hy
    refine ⟨_, (pss_one (ps_ret (pe_cmpR op_le (pe_op op_mulW (pe_ix ix_tup (pv 0) pe_int (fun _ _ => rfl)) (pe_ix ix_tup (pv 1) pe_int (fun _ _ => rfl))) (pe_op op_mulW (pe_ix ix_tup (pv 1) pe_int (fun _ _ => rfl)) (pe_ix ix_tup (pv 0) pe_int (fun _ _ => rfl))) (nomark _)))), ?_⟩
    refine ⟨_, rfl, _, _, _, _, rfl, rfl, hp, at20, _, rfl, _, _, _, _, rfl, rfl, hp', at21, _, _, rfl, rfl, mulW4 sx.n (natI sy.d), ?_⟩
    refine ⟨_, rfl, _, _, _, _, rfl, rfl, hp', at20, _, rfl, _, _, _, _, rfl, rfl, hp, at21, _, _, rfl, rfl, mulW4 sy.n (natI sx.d), ?_⟩
    dsimp only at q
    rw [← rle] at q
    exact ⟨_, _, rfl, rfl, q⟩
abbrev s__law_number : Stmt := topS 56
abbrev N__law_number : List Str := ["well"]
theorem sc__law_number : FnScope N__law_number ["well"] (defScope s__law_number) := ⟨rfl, rfl, rfl, by decide +kernel, rfl, by decide +kernel, by decide +kernel⟩
def spNumber : Sp := fun vs H Q _ => ∃ (a : Addr) (k : Nat), vs = [.ref a] ∧ Well H a k ∧ k ≤ 900000 ∧ ∀ H' p x, But a H H' → Well H' a (k + 3) → H' p = some (frO x) → Bq 20 x → Q (.ref p) H'
theorem ok_number (T : Gs K mg) (D__law_draw : Df P w K mg base "_law_draw" 1 ["well", "size"] spDraw) (D__law_pick : Df P w K mg base "_law_pick" 2 ["well", "some"] (spPick K)) (D__law_lowest : Df P w K mg base "_law_lowest" 2 ["upper", "lower"] spFrac) (F : At K mg "_law_number" s__law_number) :
    Df P w K mg base "_law_number" 3 ["well"] spNumber := by
  have sc := sc__law_number
  refine Df.mk' F sc (fun vs H Q E h => ?_) (fun _ _ _ _ _ _ us hl => match us, hl with | [_], _ => rfl) (fun f cdv A outer s H vs Q E hr h => ?_)
  · obtain ⟨a, k, rfl, _⟩ := h
    rfl
  · obtain ⟨a, k, rfl, hw, kl, q⟩ := h
    refine ⟨_, (pss_cons (ps_if (pt_cmpR op_eq (pe_fn D__law_draw (by decide) hr (pa_cons (pv 0) (pa_cons pe_int pa_nil))) pe_int (nomark _)) (pss_one (ps_ret (pe_fn D__law_lowest (by decide) hr (pa_cons (pe_op op_sub (pe_fn D__law_draw (by decide) hr (pa_cons (pv 0) (pa_cons pe_int pa_nil))) pe_int) (pa_cons (pe_op op_add pe_int (pe_fn D__law_draw (by decide) hr (pa_cons (pv 0) (pa_cons pe_int pa_nil)))) pa_nil))))) pss_nil) (pss_one (ps_ret (pe_fn D__law_lowest (by decide) hr (pa_cons (pe_op op_sub (pe_fn D__law_draw (by decide) hr (pa_cons (pv 0) (pa_cons pe_int pa_nil))) pe_int) (pa_cons (pe_fn D__law_pick (by decide) hr (pa_cons (pv 0) (pa_cons (pe_lst (pa_cons pe_int (pa_cons pe_int (pa_cons pe_int (pa_cons pe_int (pa_cons pe_int (pa_cons pe_int (pa_cons pe_int pa_nil)))))))) pa_nil))) pa_nil)))))), ?_⟩
    refine ⟨_, rfl, a, _, k, rfl, hw, by omega, by decide, by decide, fun H1 d1 b1 w1 d10 d1l => ?_⟩
    refine ⟨rfl, _, rfl, if2 (fun e => ?_) (fun e => ?_)⟩
    · refine ⟨_, rfl, a, _, k + 1, rfl, w1, by omega, by decide, by decide, fun H2 d2 b2 w2 d20 d2l => ?_⟩
      refine ⟨_, _, rfl, rfl, ?_⟩
      refine ⟨_, rfl, a, _, k + 2, rfl, w2, by omega, by decide, by decide, fun H3 d3 b3 w3 d30 d3l => ?_⟩
      refine ⟨_, _, rfl, rfl, _, _, rfl, by omega, lt9000 (by omega) (by omega), fun H4 p s4 hp => ?_⟩
      exact q H4 _ _ (((b1.trans b2).trans b3).trans (Same.but s4)) (w3.same s4) hp (bq_small (by omega) (by omega) (by omega))
    · refine ⟨_, rfl, a, _, k + 1, rfl, w1, by omega, by decide, by decide, fun H2 d2 b2 w2 d20 d2l => ?_⟩
      refine ⟨_, _, rfl, rfl, ?_⟩
      refine ⟨_, rfl, by show 7 ≤ sizeLine; decide, fun pl hpl => ?_⟩
      have s2 : Same H2 (upd H2 pl (.lst (([1, 1, 1, 1, 2, 3, 4] : List Int).map V.int))) := same_upd hpl
      refine ⟨a, pl, ([1, 1, 1, 1, 2, 3, 4] : List Int).map V.int, k + 2, rfl, w2.same s2, by omega, upd_same, w2.ne hpl, by decide, by decide, fun H3 j x b3 w3 hx => ?_⟩
      obtain ⟨z, rfl, hm⟩ := mem6 hx
      have bz : 1 ≤ z ∧ z ≤ 4 := by
        (simp only [List.mem_cons, List.not_mem_nil, or_false] at hm)
        omega
      refine ⟨_, _, rfl, by omega, lt9000 (by omega) (by omega), fun H4 p s4 hp => ?_⟩
      exact q H4 _ _ ((((b1.trans b2).trans (Same.but s2)).trans b3).trans (Same.but s4)) (w3.same s4) hp (bq_small (by omega) (by omega) (by omega))
end
end V3
namespace V3
open PySem.Spec PySem L2 PyProof.Rows RZ GxR
theorem at_int {xs : List Int} {i : Nat} (h : i < xs.length) : atI (xs.map V.int) ((0 : Int) + (i : Int)) = some (.int (xs.getD i 0)) := at_of (Int.zero_add _) (by
  rw [List.getElem?_map, List.getElem?_eq_getElem h, getD_of h]
  rfl)
theorem sum_bd30 : ∀ (ns : List Int), (∀ z ∈ ns, 0 ≤ z ∧ z ≤ 30) → 0 ≤ ns.sum ∧ ns.sum ≤ 30 * ns.length
  | [], _ => by simp
  | x :: r, h => by
    have h1 := h x List.mem_cons_self
    have h2 := sum_bd30 r fun y hy => h y (List.mem_cons_of_mem _ hy)
    (rw [List.sum_cons, List.length_cons])
    omega
theorem sq_nn (x : Rat) : 0 ≤ x * x := by
  rcases Rat.le_total (a := 0) (b := x) with h | h
  · exact Rat.mul_nonneg h h
  · have : 0 ≤ -x := by grind
    have := Rat.mul_nonneg this this
    grind
def shx (qs : List Rat) (k : Nat) : Rat := qs.getD k 0
def shy (ns : List Int) (k : Nat) : Rat := Rat.divInt (ns.getD k 0) ns.sum
theorem shy_sum {ns : List Int} (S0 : ns.sum ≠ 0) : sqY (shy ns) ns.length = 1 := by
  have h : ∀ n, sqY (shy ns) n = Rat.divInt (sg n fun k => ns.getD k 0) ns.sum := fun n => by
    induction n with
    | zero =>
      show (0 : Rat) = _
      rw [sg_zero, Rat.zero_divInt]
    | succ n ih =>
      show sqY (shy ns) n + Rat.divInt (ns.getD n 0) ns.sum = _
      rw [ih, sg_succ, Rat.divInt_add_divInt _ _ S0 S0, ← Int.add_mul, Rat.divInt_mul_right S0]
  rw [h]
  have e : (sg ns.length fun k => ns.getD k 0) = ns.sum := by
    unfold sg
    have e2 : (List.range ns.length).map (fun k => ns.getD k 0) = ns := by
      (apply List.ext_getElem (by simp))
      intro i h1 h2
      rw [List.getElem_map, List.getElem_range, getD_of h2]
    rw [e2]
  rw [e]
  exact Rat.divInt_self' S0
/-- mean and spread of the roots qs with the parts ns -/
def shM (qs : List Rat) (ns : List Int) : Rat := sqM (shx qs) (shy ns) qs.length
def shS (qs : List Rat) (ns : List Int) : Rat := sqS (shx qs) (shy ns) (shM qs ns) qs.length
/-- where it is sure, some root is from l to h -/
theorem sure_some {qs : List Rat} {ns : List Int} {l h : Rat} (lh : l ≤ h) (ln : ns.length = qs.length) (kn : ∀ z ∈ ns, 0 ≤ z) (S0 : 0 < ns.sum) (s : sureR (shM qs ns) (shS qs ns) l h = true) : ∃ r ∈ qs, l ≤ r ∧ r ≤ h := by
  have s' : shS qs ns ≤ (shM qs ns - l) * (h - shM qs ns) := of_decide_eq_true s
  refine Classical.byContradiction fun no => ?_
  refine out_not (x := shx qs) (y := shy ns) lh (fun i hi => ⟨?_, ?_⟩) (by rw [← ln]; exact shy_sum (by omega)) s'
  · unfold shy
    refine Rat.divInt_nonneg ?_ (by omega)
    rw [getD_of (by omega)]
    exact kn _ (List.getElem_mem _)
  · have e : shx qs i = qs[i] := by
      unfold shx
      (rw [List.getD_eq_getElem?_getD, List.getElem?_eq_getElem hi])
      rfl
    have m : qs[i] ∈ qs := List.getElem_mem _
    rw [e]
    rcases Rat.le_total (a := l) (b := qs[i]) with c | c
    · rcases Rat.le_total (a := qs[i]) (b := h) with d | d
      · exact absurd ⟨_, m, c, d⟩ no
      · by_cases z : qs[i] = h
        · exact absurd ⟨_, m, c, by grind⟩ no
        · exact .inr (by grind)
    · by_cases z : qs[i] = l
      · exact absurd ⟨_, m, by grind, by grind⟩ no
      · exact .inl (by grind)
section
variable {mg : Str → Option Value} {base : Heap} {K : PySem.W.Frag} {P : Program} {w : World}
abbrev s__law_shared : Stmt := topS 59
abbrev N__law_shared : List Str := ["roots", "parts", "whole", "mean", "spread", "k", "gap"]
theorem sc__law_shared : FnScope N__law_shared ["roots", "parts"] (defScope s__law_shared) := ⟨rfl, rfl, rfl, by decide +kernel, rfl, by decide +kernel, by decide +kernel⟩
def spLSh (K : PySem.W.Frag) : Sp := fun vs H Q _ => ∃ (pr pp : Addr) (us : List V) (qs : List Rat) (ns : List Int) (sn : Nat), vs = [.ref pr, .ref pp] ∧ H pr = some (.lst us) ∧ DpTAll K H us (qs.map frd) ∧ qs.length ≤ 5 ∧ 1 ≤ sn ∧ sn ≤ 3 ∧ (∀ q ∈ qs, Sc sn 6 q) ∧
  H pp = some (.lst (ns.map V.int)) ∧ ns.length = qs.length ∧ (∀ z ∈ ns, 0 ≤ z ∧ z ≤ 30) ∧ 0 < ns.sum ∧
  ∀ H' p v1 v2, Same H H' → H' p = some (.tup [v1, v2]) → DpT K H' v1 (frd (shM qs ns)) → DpT K H' v2 (frd (shS qs ns)) → Bq 20 (shM qs ns) → Bq 40 (shS qs ns) → 0 ≤ shS qs ns → Q (.ref p) H'
theorem ok_lshared (T : Gs K mg) (D__law_lowest : Df P w K mg base "_law_lowest" 2 ["upper", "lower"] spFrac) (D__law_plus : Df P w K mg base "_law_plus" 3 ["one", "two"] (spR2 K (· + ·) fun _ => True)) (D__law_minus : Df P w K mg base "_law_minus" 3 ["one", "two"] (spR2 K (· - ·) fun _ => True))
    (D__law_times : Df P w K mg base "_law_times" 3 ["one", "two"] (spR2 K (· * ·) fun _ => True)) (F : At K mg "_law_shared" s__law_shared) : Df P w K mg base "_law_shared" 4 ["roots", "parts"] (spLSh K) := by
  have sc := sc__law_shared
  refine Df.mk' F sc (fun vs H Q E h => ?_) (fun _ _ _ _ _ _ us hl => match us, hl with | [_, _], _ => rfl) (fun f cdv A outer s H vs Q E hr h => ?_)
  · obtain ⟨a, pr, us, qs, ns, sn, rfl, _⟩ := h
    rfl
  · obtain ⟨pr, pp, us, qs, ns, sn, rfl, hp, hd, l5, s1, s3, kq, hpp, ln, kn, W0, q⟩ := h
    refine ⟨_, (pss_cons (ps_par3 (i := 2) (j := 3) (l := 4) rfl sc.nd rfl rfl rfl (by decide) (by decide) (by decide) rfl rfl rfl (pa_cons (pe_callB (cr_sum rfl) (by rfl) T.sum (by decide +kernel) (pa_cons (pv 1) pa_nil)) (pa_cons (pe_tup (pa_cons pe_int (pa_cons pe_int pa_nil))) (pa_cons (pe_tup (pa_cons pe_int (pa_cons pe_int pa_nil))) pa_nil))) (by rfl)) (pss_cons (ps_for PassesOwn.never rfl (pi_range1 rfl T.range (pa_cons (pe_callB call_len_seq (by rfl) T.len PySem.boot_len (pa_cons (pv 0) pa_nil)) pa_nil)) (pg_name (i := 5) sc.nd rfl (.inl rfl)) (pss_one (ps_set (i := 3) sc.nd rfl (.inl rfl) (pe_fn D__law_plus (by decide) hr (pa_cons (pv 3) (pa_cons (pe_fn D__law_times (by decide) hr (pa_cons (pe_ix ix_list (pv 0) (pv 5) (fun _ _ => rfl)) (pa_cons (pe_fn D__law_lowest (by decide) hr (pa_cons (pe_ix ix_list (pv 1) (pv 5) (fun _ _ => rfl)) (pa_cons (pv 2) pa_nil))) pa_nil))) pa_nil)))))) (pss_cons (ps_for PassesOwn.never rfl (pi_range1 rfl T.range (pa_cons (pe_callB call_len_seq (by rfl) T.len PySem.boot_len (pa_cons (pv 0) pa_nil)) pa_nil)) (pg_name (i := 5) sc.nd rfl (.inl rfl)) (pss_cons (ps_set (i := 6) sc.nd rfl (.inl rfl) (pe_fn D__law_minus (by decide) hr (pa_cons (pe_ix ix_list (pv 0) (pv 5) (fun _ _ => rfl)) (pa_cons (pv 3) pa_nil)))) (pss_one (ps_set (i := 4) sc.nd rfl (.inl rfl) (pe_fn D__law_plus (by decide) hr (pa_cons (pv 4) (pa_cons (pe_fn D__law_times (by decide) hr (pa_cons (pe_fn D__law_times (by decide) hr (pa_cons (pv 6) (pa_cons (pv 6) pa_nil))) (pa_cons (pe_fn D__law_lowest (by decide) hr (pa_cons (pe_ix ix_list (pv 1) (pv 5) (fun _ _ => rfl)) (pa_cons (pv 2) pa_nil))) pa_nil))) pa_nil))))))) (pss_one (ps_ret (pe_tup (pa_cons (pv 3) (pa_cons (pv 4) pa_nil)))))))), ?_⟩
    obtain ⟨W, hW⟩ : ∃ W : Nat, ns.sum = W := ⟨ns.sum.toNat, by omega⟩
    have Wb := sum_bd30 ns kn
    have W1 : 1 ≤ W := by omega
    have W35 : W ≤ 150 := by omega
    have sW : sn * W ≤ 3 * 150 := Nat.mul_le_mul s3 W35
    have sW1 : 1 ≤ sn * W := Nat.mul_le_mul s1 W1
    have lu : us.length = qs.length := fqLen hd
    have root : ∀ x ∈ qs, Sc (sn * W) (W * 6) x := fun x hx => by
      have := (kq x hx).up W (by omega)
      rw [Nat.mul_comm sn W]
      exact this
    have W6 : W * 6 ≤ 900 := by omega
    refine ⟨_, rfl, pp, ns, rfl, SqL.of hpp, ?_⟩
    refine ⟨by show 2 ≤ sizeLine; decide, fun p1 hp1 => ?_⟩
    have t1 : Same H (upd H p1 (.tup [.int 0, .int 1])) := same_upd hp1
    refine ⟨by show 2 ≤ sizeLine; decide, fun p2 hp2 => ?_⟩
    have t2 : Same (upd H p1 (.tup [.int 0, .int 1])) (upd (upd H p1 (.tup [.int 0, .int 1])) p2 (.tup [.int 0, .int 1])) := same_upd hp2
    have z1 : DpT K (upd (upd H p1 (.tup [.int 0, .int 1])) p2 (.tup [.int 0, .int 1])) (.ref p1) (frd 0) := fqI (t2 _ _ upd_same) rfl rfl
    have z2 : DpT K (upd (upd H p1 (.tup [.int 0, .int 1])) p2 (.tup [.int 0, .int 1])) (.ref p2) (frd 0) := fqI upd_same rfl rfl
    have t12 := t1.trans t2
    generalize hH2 : upd (upd H p1 (.tup [.int 0, .int 1])) p2 (.tup [.int 0, .int 1]) = H2 at z1 z2 t12
    refine ⟨_, _, _, rfl, ?_⟩
    have gW : ∀ (i : Nat), i < us.length → ns.getD i 0 ∈ ns ∧ atI (ns.map V.int) ((0 : Int) + (i : Int)) = some (.int (ns.getD i 0)) ∧ Sc W 30 (shy ns i) ∧ 0 ≤ shy ns i := fun i hi => by
      have hi2 : i < ns.length := by omega
      have m : ns.getD i 0 ∈ ns := by
        rw [getD_of hi2]
        exact List.getElem_mem hi2
      have b := kn _ m
      refine ⟨m, at_int hi2, ?_, Rat.divInt_nonneg b.1 (by omega)⟩
      unfold shy
      rw [hW]
      exact Sc.of.mono (by omega)
    have gQ : ∀ {Hx : Hp}, Same H Hx → ∀ (i : Nat), i < us.length → ∃ v, atI us ((0 : Int) + (i : Int)) = some v ∧ DpT K Hx v (frd (shx qs i)) ∧ shx qs i ∈ qs := fun sm i hi => by
      have hi2 : i < qs.length := by omega
      have e : shx qs i = qs[i] := by
        unfold shx
        rw [List.getD_eq_getElem?_getD, List.getElem?_eq_getElem hi2]
        rfl
      obtain ⟨v, hv, dv⟩ := fqGet hd (List.getElem?_eq_getElem hi2)
      rw [e]
      refine ⟨v, ?_, fqSame dv sm, List.getElem_mem hi2⟩
      rw [Int.zero_add]
      exact atI_nat hv
    have sz9 : ns.sum.natAbs < 2 ^ 9000 := lt9000 (by omega) (by omega)
    -- the mean
    refine ⟨_, rfl, pr, _, rfl, .inl (SqL.of (t12 _ _ hp)), ?_⟩
    refine ⟨_, rfl, by omega, by omega, for_range (lo := 0) (n := _) (fun i σ H' => ∃ (vm : V) (y5 y6 : Option V), σ = [some (.ref pr), some (.ref pp), some (.int ns.sum), some vm, some (.ref p2), y5, y6] ∧ Same H2 H' ∧ DpT K H' vm (frd (sqM (shx qs) (shy ns) i)) ∧ Sc (sn * W) (i * 180) (sqM (shx qs) (shy ns) i))
      ⟨_, _, _, rfl, Same.refl _, z1, ⟨0, by rw [Rat.zero_divInt]; rfl, by simp⟩⟩ ?_ ?_⟩
    · rintro i σ H3 hi ⟨vm, y5, y6, rfl, sm, dm, km⟩
      have hi' : i < us.length := by omega
      have sH := t12.trans sm
      obtain ⟨v, hv, dv, hx⟩ := gQ sH i hi'
      obtain ⟨hzm, hza, k2, _⟩ := gW i hi'
      refine ⟨_, rfl, _, rfl, _, rfl, pr, us, _, v, rfl, rfl, SqL.of (sH _ _ hp), hv, ?_⟩
      refine ⟨_, rfl, _, rfl, pp, _, _, _, rfl, rfl, SqL.of (sH _ _ hpp), hza, ?_⟩
      refine ⟨_, rfl, _, _, rfl, W0, sz9, fun H4 p4 s4 h4 => ?_⟩
      have h4 : H4 p4 = some (frO (shy ns i)) := h4
      have k1 := kq _ hx
      have k12 : Sc (sn * W) (6 * 30) (shx qs i * shy ns i) := k1.mul k2
      refine ⟨_, _, shx qs i, shy ns i, rfl, fqSame dv s4, fqO h4, (k1.bq (b := 10) (by omega) (by omega) (by decide)).mono (by decide), (k2.bq (b := 10) (by omega) (by omega) (by decide)).mono (by decide), .intro, fun H5 p5 s5 h5 => ?_⟩
      have b5 : Bq 10 (shx qs i * shy ns i) := k12.bq (by omega) (by omega) (by decide)
      have bm : Bq 10 (sqM (shx qs) (shy ns) i) := km.bq (by omega) (by omega) (by omega)
      refine ⟨_, _, _, _, rfl, fqSame dm (s4.trans s5), fqO h5, bm.mono (by decide), b5.mono (by decide), .intro, fun H6 p6 s6 h6 => ?_⟩
      refine ⟨_, _, _, rfl, sm.trans ((s4.trans s5).trans s6), fqO h6, ?_⟩
      have := km.add (by omega) k12
      exact this.mono (by omega)
    rintro σ H3 ⟨vm, y5, y6, rfl, sm, dm, km⟩
    have el : ((us.length : Nat) : Int).toNat = qs.length := by omega
    rw [el] at dm km
    have km' : Sc (sn * W) 900 (shM qs ns) := km.mono (by omega)
    have dm : DpT K H3 vm (frd (shM qs ns)) := dm
    have eS : shS qs ns = sqS (shx qs) (shy ns) (shM qs ns) qs.length := rfl
    rw [eS] at q
    generalize shM qs ns = m at dm km' q
    have bm : Bq 20 m := km'.bq (by omega) (by omega) (by decide)
    have sH3 := t12.trans sm
    have z3 : DpT K H3 (.ref p2) (frd 0) := fqSame z2 sm
    -- the spread
    refine ⟨_, rfl, pr, _, rfl, .inl (SqL.of (sH3 _ _ hp)), ?_⟩
    refine ⟨_, rfl, by omega, by omega, for_range (lo := 0) (n := _) (fun i σ H' => ∃ (vs : V) (y5 y6 : Option V), σ = [some (.ref pr), some (.ref pp), some (.int ns.sum), some vm, some vs, y5, y6] ∧ Same H3 H' ∧ DpT K H' vs (frd (sqS (shx qs) (shy ns) m i)) ∧ Sc ((sn * W) * (sn * W) * W) (i * 97200000) (sqS (shx qs) (shy ns) m i) ∧ 0 ≤ sqS (shx qs) (shy ns) m i)
      ⟨_, _, _, rfl, Same.refl _, z3, ⟨0, by rw [Rat.zero_divInt]; rfl, by simp⟩, Rat.le_refl⟩ ?_ ?_⟩
    · rintro i σ H4 hi ⟨vs, y5, y6, rfl, sm4, ds, ks, s0⟩
      have hi' : i < us.length := by omega
      have sH := sH3.trans sm4
      obtain ⟨v, hv, dv, hx⟩ := gQ sH i hi'
      obtain ⟨hzm, hza, k2, sh0⟩ := gW i hi'
      have k1 := kq _ hx
      have kg : Sc (sn * W) 1800 (shx qs i - m) := ((root _ hx).sub (by omega) km').mono (by omega)
      have kgg : Sc ((sn * W) * (sn * W)) (1800 * 1800) ((shx qs i - m) * (shx qs i - m)) := kg.mul kg
      have kgs : Sc ((sn * W) * (sn * W) * W) (1800 * 1800 * 30) ((shx qs i - m) * (shx qs i - m) * shy ns i) := kgg.mul k2
      have D2 : (sn * W) * (sn * W) ≤ 450 * 450 := Nat.mul_le_mul sW sW
      have D3 : (sn * W) * (sn * W) * W ≤ 450 * 450 * 150 := Nat.mul_le_mul D2 W35
      have D21 : 1 ≤ (sn * W) * (sn * W) := Nat.mul_le_mul sW1 sW1
      have D31 : 1 ≤ (sn * W) * (sn * W) * W := Nat.mul_le_mul D21 W1
      have bx : Bq 4000 (shx qs i) := (k1.bq (b := 10) (by omega) (by omega) (by decide)).mono (by decide)
      have bg : Bq 11 (shx qs i - m) := kg.bq (by omega) (by omega) (by decide)
      have bgg : Bq 22 ((shx qs i - m) * (shx qs i - m)) := kgg.bq (by omega) (by omega) (by decide)
      have bgs : Bq 30 ((shx qs i - m) * (shx qs i - m) * shy ns i) := kgs.bq (by omega) (by omega) (by decide)
      have bs : Bq 30 (sqS (shx qs) (shy ns) m i) := ks.bq (by omega) (by omega) (by omega)
      have bsh : Bq 4000 (shy ns i) := (k2.bq (b := 10) (by omega) (by omega) (by decide)).mono (by decide)
      refine ⟨_, rfl, _, rfl, pr, us, _, v, rfl, rfl, SqL.of (sH _ _ hp), hv, ?_⟩
      refine ⟨_, rfl, _, _, shx qs i, m, rfl, dv, fqSame dm sm4, bx, bm.mono (by decide), .intro, fun H5 p5 s5 h5 => ?_⟩
      refine ⟨_, rfl, _, rfl, _, rfl, _, _, shx qs i - m, shx qs i - m, rfl, fqO h5, fqO h5, bg.mono (by decide), bg.mono (by decide), .intro, fun H6 p6 s6 h6 => ?_⟩
      have s46 := s5.trans s6
      refine ⟨_, rfl, _, rfl, pp, _, _, _, rfl, rfl, SqL.of (s46 _ _ (sH _ _ hpp)), hza, ?_⟩
      refine ⟨_, rfl, _, _, rfl, W0, sz9, fun H7 p7 s7 h7 => ?_⟩
      have h7 : H7 p7 = some (frO (shy ns i)) := h7
      refine ⟨_, _, _, _, rfl, fqSame (fqO h6) s7, fqO h7, bgg.mono (by decide), bsh, .intro, fun H8 p8 s8 h8 => ?_⟩
      refine ⟨_, _, _, _, rfl, fqSame ds ((s46.trans s7).trans s8), fqO h8, bs.mono (by decide), bgs.mono (by decide), .intro, fun H9 p9 s9 h9 => ?_⟩
      refine ⟨_, _, _, rfl, sm4.trans (((s46.trans s7).trans s8).trans s9), fqO h9, ?_, ?_⟩
      · have := ks.add (by omega) kgs
        exact this.mono (by omega)
      · have := Rat.mul_nonneg (sq_nn (shx qs i - m)) sh0
        show 0 ≤ sqS (shx qs) (shy ns) m i + (shx qs i - m) * (shx qs i - m) * shy ns i
        grind
    · rintro σ H4 ⟨vs, y5, y6, rfl, sm4, ds, ks, s0⟩
      rw [el] at ds ks s0
      have D2 : (sn * W) * (sn * W) ≤ 450 * 450 := Nat.mul_le_mul sW sW
      have D3 : (sn * W) * (sn * W) * W ≤ 450 * 450 * 150 := Nat.mul_le_mul D2 W35
      have D21 : 1 ≤ (sn * W) * (sn * W) := Nat.mul_le_mul sW1 sW1
      have D31 : 1 ≤ (sn * W) * (sn * W) * W := Nat.mul_le_mul D21 W1
      have bs : Bq 40 (sqS (shx qs) (shy ns) m qs.length) := ks.bq (by omega) (by omega) (by omega)
      refine ⟨_, rfl, _, rfl, by show 2 ≤ sizeLine; decide, fun p hp' => ?_⟩
      have s5 := same_upd (o := .tup [vm, vs]) hp'
      exact q _ p vm vs ((sH3.trans sm4).trans s5) upd_same (fqSame dm (sm4.trans s5)) (fqSame ds s5) bm bs s0
end
end V3
namespace V3
open PySem.Spec PySem L2 PyProof.Rows RZ GxR
theorem bq00 (b : Nat) (hb : 1 ≤ b) : Bq b 0 := Bq.mono (a := 1) ⟨by decide +kernel, by decide +kernel⟩ hb
theorem half_q : (half.num = 1) ∧ (half.den : Int) = 2 := by decide +kernel
theorem bqHalf : Bq 2 half := ⟨by decide +kernel, by decide +kernel⟩
theorem bqOne : Bq 1 1 := ⟨by decide +kernel, by decide +kernel⟩
section
variable {mg : Str → Option Value} {base : Heap} {K : PySem.W.Frag} {P : Program} {w : World}
abbrev s__law_surely : Stmt := topS 61
abbrev N__law_surely : List Str := ["mean", "spread", "low", "high"]
theorem sc__law_surely : FnScope N__law_surely ["mean", "spread", "low", "high"] (defScope s__law_surely) := ⟨rfl, rfl, rfl, by decide +kernel, rfl, by decide +kernel, by decide +kernel⟩
theorem ok_surely (D__law_up_to : Df P w K mg base "_law_up_to" 1 ["one", "two"] (spR2b K fun x y => decide (x ≤ y))) (D__law_times : Df P w K mg base "_law_times" 3 ["one", "two"] (spR2 K (· * ·) fun _ => True)) (D__law_minus : Df P w K mg base "_law_minus" 3 ["one", "two"] (spR2 K (· - ·) fun _ => True))
    (F : At K mg "_law_surely" s__law_surely) : Df P w K mg base "_law_surely" 4 ["mean", "spread", "low", "high"] (spSure K) := by
  have sc := sc__law_surely
  refine Df.mk' F sc (fun vs H Q E h => ?_) (fun _ _ _ _ _ _ us hl => match us, hl with | [_, _, _, _], _ => rfl) (fun f cdv A outer s H vs Q E hr h => ?_)
  · obtain ⟨v1, v2, v3, v4, m, s, l, h, rfl, _⟩ := h
    rfl
  · obtain ⟨v1, v2, v3, v4, m, s, l, h, rfl, d1, d2, d3, d4, o, q⟩ := h
    refine ⟨_, (pss_cons (ps_if (PW.pt (pw_or (pt_not (pt_val (pe_fn D__law_up_to (by decide) hr (pa_cons (pv 2) (pa_cons (pv 0) pa_nil))))) (pw_or1 (pt_not (pt_val (pe_fn D__law_up_to (by decide) hr (pa_cons (pv 0) (pa_cons (pv 3) pa_nil)))))))) (pss_one (ps_ret pe_bl)) pss_nil) (pss_one (ps_ret (pe_fn D__law_up_to (by decide) hr (pa_cons (pv 1) (pa_cons (pe_fn D__law_times (by decide) hr (pa_cons (pe_fn D__law_minus (by decide) hr (pa_cons (pv 0) (pa_cons (pv 2) pa_nil))) (pa_cons (pe_fn D__law_minus (by decide) hr (pa_cons (pv 3) (pa_cons (pv 0) pa_nil))) pa_nil))) pa_nil)))))), ?_⟩
    have m4 : Bq 4000 m := o.bm.mono (by decide)
    have s4 : Bq 4000 s := o.bs.mono (by decide)
    have l4 : Bq 4000 l := o.bl.mono (by decide)
    have h4 : Bq 4000 h := o.bh.mono (by decide)
    rw [sure_law o.s0 o.lh] at q
    refine ⟨_, rfl, _, rfl, _, _, l, m, rfl, d3, d1, l4, m4, _, rfl, if2 (fun c => ?_) (fun c => ?_)⟩
    · have c1 : ¬ l ≤ m := by simpa using c
      simp only [c1, decide_false, Bool.false_and] at q
      exact q H (Same.refl _)
    · have c1 : l ≤ m := by simpa using c
      refine ⟨_, rfl, _, rfl, _, _, m, h, rfl, d1, d4, m4, h4, _, rfl, if2 (fun c => ?_) (fun c => ?_)⟩
      · have c2 : ¬ m ≤ h := by simpa using c
        simp only [c2, decide_false, Bool.and_false, Bool.false_and] at q
        exact q H (Same.refl _)
      · have c2 : m ≤ h := by simpa using c
        simp only [c1, c2, decide_true, Bool.true_and] at q
        have b1 : Bq 161 (m - l) := o.bm.sub o.bl (by decide)
        have b2 : Bq 161 (h - m) := o.bh.sub o.bm (by decide)
        refine ⟨_, rfl, _, rfl, _, rfl, _, _, m, l, rfl, d1, d3, m4, l4, .intro, fun H1 p1 s1 h1 => ?_⟩
        refine ⟨_, rfl, _, rfl, _, _, h, m, rfl, fqSame d4 s1, fqSame d1 s1, h4, m4, .intro, fun H2 p2 s2 h2 => ?_⟩
        refine ⟨_, _, m - l, h - m, rfl, fqSame (fqO h1) s2, fqO h2, b1.mono (by decide), b2.mono (by decide), .intro, fun H3 p3 s3 h3 => ?_⟩
        exact ⟨_, _, s, (m - l) * (h - m), rfl, fqSame d2 ((s1.trans s2).trans s3), fqO h3, s4, b1.mul b2 (by decide), q H3 ((s1.trans s2).trans s3)⟩
abbrev s__law_ends : Stmt := topS 63
abbrev N__law_ends : List Str := ["well", "mean", "spread", "roots", "way", "low", "other", "high", "more"]
theorem sc__law_ends : FnScope N__law_ends ["well", "mean", "spread", "roots"] (defScope s__law_ends) := ⟨rfl, rfl, rfl, by decide +kernel, rfl, by decide +kernel, by decide +kernel⟩
def spEnds (K : PySem.W.Frag) : Sp := fun vs H Q _ => ∃ (a pr : Addr) (vm vs_ : V) (us : List V) (qs : List Rat) (m s : Rat) (k : Nat), vs = [.ref a, vm, vs_, .ref pr] ∧ Well H a k ∧ k ≤ 700000 ∧ FrL K H pr us qs ∧ qs.length ≤ 5 ∧ a ≠ pr ∧ DpT K H vm (frd m) ∧ DpT K H vs_ (frd s) ∧ Bq 20 m ∧ Bq 40 s ∧ 0 ≤ s ∧
  ∀ H' p v1 v2 l h, But a H H' → Well H' a (k + 9) → H' p = some (.tup [v1, v2]) → DpT K H' v1 (frd l) → DpT K H' v2 (frd h) → Oa m s l h → Q (.ref p) H'
theorem ok_ends (T : Gs K mg) (D__law_draw : Df P w K mg base "_law_draw" 1 ["well", "size"] spDraw) (D__law_pick : Df P w K mg base "_law_pick" 2 ["well", "some"] (spPick K)) (D__law_lowest : Df P w K mg base "_law_lowest" 2 ["upper", "lower"] spFrac)
    (D__law_plus : Df P w K mg base "_law_plus" 3 ["one", "two"] (spR2 K (· + ·) fun _ => True)) (D__law_minus : Df P w K mg base "_law_minus" 3 ["one", "two"] (spR2 K (· - ·) fun _ => True)) (D__law_quotient : Df P w K mg base "_law_quotient" 3 ["one", "two"] (spR2 K (· / ·) fun y => 0 < y))
    (D__law_up_to : Df P w K mg base "_law_up_to" 1 ["one", "two"] (spR2b K fun x y => decide (x ≤ y))) (F : At K mg "_law_ends" s__law_ends) : Df P w K mg base "_law_ends" 4 ["well", "mean", "spread", "roots"] (spEnds K) := by
  have sc := sc__law_ends
  refine Df.mk' F sc (fun vs H Q E h => ?_) (fun _ _ _ _ _ _ us hl => match us, hl with | [_, _, _, _], _ => rfl) (fun f cdv A outer s H vs Q E hr h => ?_)
  · obtain ⟨a, pr, vm, vs_, us, qs, m, s, k, rfl, _⟩ := h
    rfl
  · obtain ⟨a, pr, vm, vs_, us, qs, m, s, k, rfl, hw, kl, fl, l5, hne, dm, ds, bm, bs, s0, q⟩ := h
    refine ⟨_, (pss_cons (ps_par (i := 4) (j := 5) rfl sc.nd rfl rfl (by decide) rfl rfl (pa_cons (pe_fn D__law_draw (by decide) hr (pa_cons (pv 0) (pa_cons pe_int pa_nil))) (pa_cons (pe_fn D__law_pick (by decide) hr (pa_cons (pv 0) (pa_cons (pe_op op_cat (pv 3) (pe_lst (pa_cons (pv 1) pa_nil))) pa_nil))) pa_nil)) (by rfl)) (pss_cons (ps_if (pt_cmpR op_lt (pv 4) pe_int (nomark _)) (pss_cons (ps_set (i := 5) sc.nd rfl (.inl rfl) (pe_fn D__law_minus (by decide) hr (pa_cons (pv 1) (pa_cons (pe_fn D__law_lowest (by decide) hr (pa_cons (pe_op op_add pe_int (pe_fn D__law_draw (by decide) hr (pa_cons (pv 0) (pa_cons pe_int pa_nil)))) (pa_cons (pe_op op_add pe_int (pe_fn D__law_draw (by decide) hr (pa_cons (pv 0) (pa_cons pe_int pa_nil)))) pa_nil))) pa_nil)))) (pss_cons (ps_set (i := 7) sc.nd rfl (.inl rfl) (pe_fn D__law_plus (by decide) hr (pa_cons (pv 1) (pa_cons (pe_fn D__law_quotient (by decide) hr (pa_cons (pv 2) (pa_cons (pe_fn D__law_minus (by decide) hr (pa_cons (pv 1) (pa_cons (pv 5) pa_nil))) pa_nil))) pa_nil)))) (pss_cons (ps_set (i := 8) sc.nd rfl (.inl rfl) (pe_fn D__law_pick (by decide) hr (pa_cons (pv 0) (pa_cons (pe_lst (pa_cons (pe_tup (pa_cons pe_int (pa_cons pe_int pa_nil))) (pa_cons (pe_tup (pa_cons pe_int (pa_cons pe_int pa_nil))) (pa_cons (pe_tup (pa_cons (pe_un un_neg pe_int) (pa_cons pe_int pa_nil))) (pa_cons (pe_tup (pa_cons (pe_un un_neg pe_int) (pa_cons (pe_op op_pow pe_int pe_int) pa_nil))) pa_nil))))) pa_nil)))) (pss_one (ps_ret (pe_tup (pa_cons (pv 5) (pa_cons (pe_ifExp (pt_val (pe_fn D__law_up_to (by decide) hr (pa_cons (pv 5) (pa_cons (pe_fn D__law_plus (by decide) hr (pa_cons (pv 7) (pa_cons (pv 8) pa_nil))) pa_nil)))) (pe_fn D__law_plus (by decide) hr (pa_cons (pv 7) (pa_cons (pv 8) pa_nil))) (pv 7)) pa_nil)))))))) pss_nil) (pss_cons (ps_set (i := 6) sc.nd rfl (.inl rfl) (pe_fn D__law_pick (by decide) hr (pa_cons (pv 0) (pa_cons (pe_op op_cat (pv 3) (pe_lst (pa_cons (pv 1) (pa_cons (pe_fn D__law_plus (by decide) hr (pa_cons (pv 1) (pa_cons (pe_tup (pa_cons pe_int (pa_cons pe_int pa_nil))) pa_nil))) (pa_cons (pe_fn D__law_minus (by decide) hr (pa_cons (pv 1) (pa_cons (pe_tup (pa_cons pe_int (pa_cons pe_int pa_nil))) pa_nil))) pa_nil))))) pa_nil)))) (pss_one (ps_ret (pe_ifExp (pt_val (pe_fn D__law_up_to (by decide) hr (pa_cons (pv 5) (pa_cons (pv 6) pa_nil)))) (pe_tup (pa_cons (pv 5) (pa_cons (pv 6) pa_nil))) (pe_tup (pa_cons (pv 6) (pa_cons (pv 5) pa_nil))))))))), ?_⟩
    have m4 : Bq 4000 m := bm.mono (by decide)
    have s4000 : Bq 4000 s := bs.mono (by decide)
    -- way
    refine ⟨_, rfl, a, _, k, rfl, hw, by omega, by decide, by decide, fun H1 way b1 w1 d10 d1l => ?_⟩
    have f1 := fl.but b1 hw hne
    have dm1 := DpT.keep (b1.ktW hw) dm
    have ds1 := DpT.keep (b1.ktW hw) ds
    -- roots + [mean]
    refine ⟨_, rfl, _, rfl, _, rfl, by show 1 ≤ sizeLine; decide, fun p2 hp2 => ?_⟩
    have t2 : Same H1 (upd H1 p2 (.lst [vm])) := same_upd hp2
    have lu : us.length = qs.length := fqLen f1.dat
    refine ⟨pr, p2, us, _, rfl, rfl, t2 _ _ f1.at_, upd_same, Nat.le_of_lt (small1000 (by show us.length + 1 ≤ 1000; omega)), fun p3 hp3 => ?_⟩
    have t3 : Same (upd H1 p2 (.lst [vm])) (upd (upd H1 p2 (.lst [vm])) p3 (.lst (us ++ [vm]))) := same_upd hp3
    have t23 := t2.trans t3
    have hl3 : (upd (upd H1 p2 (.lst [vm])) p3 (.lst (us ++ [vm]))) p3 = some (.lst (us ++ [vm])) := upd_same
    have wp3 := (w1.same t2).ne hp3
    generalize upd (upd H1 p2 (.lst [vm])) p3 (.lst (us ++ [vm])) = H3 at t23 hl3
    refine ⟨a, p3, us ++ [vm], k + 1, rfl, w1.same t23, by omega, hl3, wp3, by rw [List.length_append]; show 0 < us.length + 1; omega, by rw [List.length_append]; show us.length + 1 ≤ 1000; omega, fun H4 i x b4 w4 hx => ?_⟩
    have kt14 : KeepT H1 H4 := (Same.kt t23).trans (b4.ktW (w1.same t23))
    have dm4 := DpT.keep kt14 dm1
    have ds4 := DpT.keep kt14 ds1
    have f4 : FrL K H4 pr us qs := (f1.same t23).but b4 (w1.same t23) hne
    have dapp : ∀ {Hx : Hp} {vl : List V} {ql : List Rat}, DpTAll K Hx us (qs.map frd) → DpTAll K Hx vl (ql.map frd) → DpTAll K Hx (us ++ vl) ((qs ++ ql).map frd) := fun h1 h2 => by
      rw [List.map_append]
      exact dtAll_app h1 h2
    obtain ⟨lo, hlo, dlo⟩ := fqGetV (dapp (ql := [m]) f4.dat (.cons dm4 .nil)) hx
    have blo : Bq 23 lo := by
      rcases List.mem_append.mp (List.mem_of_getElem? hlo) with h | h
      · exact fl.bq _ h
      · rw [List.mem_singleton.mp h]
        exact bm.mono (by decide)
    have bh4 : But a H H4 := (b1.trans (Same.but t23)).trans b4
    refine ⟨_, _, rfl, ?_⟩
    refine ⟨_, rfl, _, _, rfl, rfl, _, rfl, if2 (fun e => ?_) (fun e => ?_)⟩
    · -- about the mean
      refine ⟨_, rfl, _, rfl, a, _, k + 2, rfl, w4, by omega, by decide, by decide, fun H5 d5 b5 w5 d50 d5l => ?_⟩
      refine ⟨_, _, rfl, rfl, ?_⟩
      refine ⟨_, rfl, a, _, k + 3, rfl, w5, by omega, by decide, by decide, fun H6 d6 b6 w6 d60 d6l => ?_⟩
      refine ⟨_, _, rfl, rfl, _, _, rfl, by omega, lt9000 (by omega) (by omega), fun H7 p7 s7 h7 => ?_⟩
      obtain ⟨t, ht⟩ : ∃ t, t = Rat.divInt (1 + d5) (1 + d6) := ⟨_, rfl⟩
      rw [← ht] at h7
      have bt : Bq 4 t := by
        rw [ht]
        exact bq_small (by omega) (by omega) (by omega)
      have t0 : 0 < t := by
        rw [ht]
        have h1 : 0 ≤ Rat.divInt (1 + d5) (1 + d6) := Rat.divInt_nonneg (by omega) (by omega)
        have h2 : Rat.divInt (1 + d5) (1 + d6) ≠ 0 := fun z => by
          rw [Rat.divInt_eq_div] at z
          have h3 : ((1 + d5 : Int) : Rat) ≠ 0 := fun z2 => by
            have := Rat.intCast_eq_zero_iff.mp z2
            omega
          have h4 : ((1 + d6 : Int) : Rat) ≠ 0 := fun z2 => by
            have := Rat.intCast_eq_zero_iff.mp z2
            omega
          have := Rat.div_mul_cancel (a := ((1 + d5 : Int) : Rat)) h4
          rw [z] at this
          grind
        grind
      have kt47 : KeepT H4 H7 := ((b5.trans b6).ktW w4).trans (Same.kt s7)
      have dm7 := DpT.keep kt47 dm4
      have ds7 := DpT.keep kt47 ds4
      have w7 := w6.same s7
      have bh7 : But a H H7 := (bh4.trans (b5.trans b6)).trans (Same.but s7)
      refine ⟨_, _, m, t, rfl, dm7, fqO h7, m4, bt.mono (by decide), .intro, fun H8 p8 s8 h8 => ?_⟩
      have e1 : m - (m - t) = t := by grind
      have bl : Bq 25 (m - t) := bm.sub bt (by decide)
      -- high
      refine ⟨_, rfl, _, rfl, _, rfl, _, rfl, _, _, m, m - t, rfl, fqSame dm7 s8, fqO h8, m4, bl.mono (by decide), .intro, fun H9 p9 s9 h9 => ?_⟩
      dsimp only at h9
      rw [e1] at h9
      refine ⟨_, _, s, t, rfl, fqSame ds7 (s8.trans s9), fqO h9, s4000, bt.mono (by decide), t0, fun H10 p10 s10 h10 => ?_⟩
      have bst : Bq 44 (s / t) := bs.div bt t0 (by decide)
      have st0 := div_nonneg' s0 t0
      have s810 := (s8.trans s9).trans s10
      refine ⟨_, _, m, s / t, rfl, fqSame dm7 s810, fqO h10, m4, bst.mono (by decide), .intro, fun H11 p11 s11 h11 => ?_⟩
      have bhi : Bq 65 (m + s / t) := bm.add bst (by decide)
      have s811 := s810.trans s11
      -- more
      refine ⟨_, rfl, by show 2 ≤ sizeLine; decide, fun q1 hq1 => ?_⟩
      have u1 : Same H11 (upd H11 q1 (.tup [.int 0, .int 1])) := same_upd hq1
      have v1 : (upd H11 q1 (.tup [.int 0, .int 1])) q1 = some (.tup [.int 0, .int 1]) := upd_same
      generalize upd H11 q1 (.tup [.int 0, .int 1]) = G1 at u1 v1
      refine ⟨by show 2 ≤ sizeLine; decide, fun q2 hq2 => ?_⟩
      have u2 : Same G1 (upd G1 q2 (.tup [.int 1, .int 7])) := same_upd hq2
      have v2 : (upd G1 q2 (.tup [.int 1, .int 7])) q2 = some (.tup [.int 1, .int 7]) := upd_same
      generalize upd G1 q2 (.tup [.int 1, .int 7]) = G2 at u2 v2
      refine ⟨_, rfl, by show 2 ≤ sizeLine; decide, fun q3 hq3 => ?_⟩
      have u3 : Same G2 (upd G2 q3 (.tup [.int (-1), .int 9])) := same_upd hq3
      have v3 : (upd G2 q3 (.tup [.int (-1), .int 9])) q3 = some (.tup [.int (-1), .int 9]) := upd_same
      refine ⟨_, rfl, _, _, rfl, rfl, ⟨by decide, by decide, by decide⟩, by show 2 ≤ sizeLine; decide, fun q4 hq4 => ?_⟩
      have u4 : Same (upd G2 q3 (.tup [.int (-1), .int 9])) (upd (upd G2 q3 (.tup [.int (-1), .int 9])) q4 (.tup [.int (-1), .int (10 ^ 12)])) := same_upd hq4
      have v4 : (upd (upd G2 q3 (.tup [.int (-1), .int 9])) q4 (.tup [.int (-1), .int (10 ^ 12)])) q4 = some (.tup [.int (-1), .int (10 ^ 12)]) := upd_same
      have v3' := u4 _ _ v3
      have u34 := u3.trans u4
      refine ⟨by show 4 ≤ sizeLine; decide, fun q5 hq5 => ?_⟩
      have u5 : Same (upd (upd G2 q3 (.tup [.int (-1), .int 9])) q4 (.tup [.int (-1), .int (10 ^ 12)])) (upd (upd (upd G2 q3 (.tup [.int (-1), .int 9])) q4 (.tup [.int (-1), .int (10 ^ 12)])) q5 (.lst [.ref q1, .ref q2, .ref q3, .ref q4])) := same_upd hq5
      have s1115 : Same H11 (upd (upd (upd G2 q3 (.tup [.int (-1), .int 9])) q4 (.tup [.int (-1), .int (10 ^ 12)])) q5 (.lst [.ref q1, .ref q2, .ref q3, .ref q4])) := ((u1.trans u2).trans u34).trans u5
      have s715 := s811.trans s1115
      have dmo : DpTAll K (upd (upd (upd G2 q3 (.tup [.int (-1), .int 9])) q4 (.tup [.int (-1), .int (10 ^ 12)])) q5 (.lst [.ref q1, .ref q2, .ref q3, .ref q4])) [.ref q1, .ref q2, .ref q3, .ref q4] (([0, Rat.divInt 1 7, Rat.divInt (-1) 9, Rat.divInt (-1) (10 ^ 12)] : List Rat).map frd) :=
        .cons (fqSame (fqI v1 rfl rfl) ((u2.trans u34).trans u5)) (.cons (fqSame (fqI v2 (by decide +kernel) (by decide +kernel)) (u34.trans u5)) (.cons (fqSame (fqI v3' (by decide +kernel) (by decide +kernel)) u5) (.cons (fqSame (fqI v4 (by decide +kernel) (by decide +kernel)) u5) .nil)))
      refine ⟨a, q5, _, k + 4, rfl, w7.same s715, by omega, upd_same, (w7.same (s811.trans ((u1.trans u2).trans u34))).ne hq5, by show 0 < 4; decide, by show 4 ≤ 1000; decide, fun H12 i x b12 w12 hx => ?_⟩
      obtain ⟨mo, hmo, dmo2⟩ := fqGetV (dmo.keep (b12.ktW (w7.same s715))) hx
      have bmo : Bq 41 mo := by
        have hm := List.mem_of_getElem? hmo
        (simp only [List.mem_cons, List.not_mem_nil, or_false] at hm)
        (rcases hm with rfl | rfl | rfl | rfl)
        · exact bq00 41 (by decide)
        · exact bq_small (by decide) (by decide) (by decide)
        · exact bq_small (by decide) (by decide) (by decide)
        · exact bq_small (by decide) (by decide) (by decide)
      have kt8 : KeepT H8 H12 := (Same.kt (((s9.trans s10).trans s11).trans s1115)).trans (b12.ktW (w7.same s715))
      have kt11 : KeepT H11 H12 := (Same.kt s1115).trans (b12.ktW (w7.same s715))
      have dlow : DpT K H12 (.ref p8) (frd (m - t)) := DpT.keep kt8 (fqO h8)
      have dhigh : DpT K H12 (.ref p11) (frd (m + s / t)) := DpT.keep kt11 (fqO h11)
      have b0 : But a H H12 := (bh7.trans (Same.but s715)).trans b12
      have bsum : Bq 120 (m + s / t + mo) := bhi.add bmo (by decide)
      refine ⟨_, rfl, _, rfl, _, rfl, _, rfl, _, _, m + s / t, mo, rfl, dhigh, dmo2, bhi.mono (by decide), bmo.mono (by decide), .intro, fun H13 p13 s13 h13 => ?_⟩
      refine ⟨_, _, m - t, m + s / t + mo, rfl, fqSame dlow s13, fqO h13, bl.mono (by decide), bsum.mono (by decide), _, rfl, if2 (fun c => ?_) (fun c => ?_)⟩
      · have c1 : m - t ≤ m + s / t + mo := of_decide_eq_true c
        refine ⟨_, rfl, _, rfl, _, _, m + s / t, mo, rfl, fqSame dhigh s13, fqSame dmo2 s13, bhi.mono (by decide), bmo.mono (by decide), .intro, fun H14 p14 s14 h14 => ?_⟩
        refine ⟨by show 2 ≤ sizeLine; decide, fun pt hpt => ?_⟩
        have s15 := same_upd (o := .tup [.ref p8, .ref p14]) hpt
        exact q _ pt _ _ _ _ (b0.trans (Same.but ((s13.trans s14).trans s15))) ((w12.same ((s13.trans s14).trans s15)).mono (by omega)) upd_same (fqSame dlow ((s13.trans s14).trans s15)) (fqSame (fqO h14) s15) ⟨bm, bs, bl.mono (by decide), bsum.mono (by decide), s0, c1⟩
      · refine ⟨_, rfl, by show 2 ≤ sizeLine; decide, fun pt hpt => ?_⟩
        have s15 := same_upd (o := .tup [.ref p8, .ref p11]) hpt
        exact q _ pt _ _ _ _ (b0.trans (Same.but (s13.trans s15))) ((w12.same (s13.trans s15)).mono (by omega)) upd_same (fqSame dlow (s13.trans s15)) (fqSame dhigh (s13.trans s15)) ⟨bm, bs, bl.mono (by decide), bhi.mono (by decide), s0, by grind⟩
    · -- two of the roots, the mean and beside it
      refine ⟨_, rfl, _, rfl, _, rfl, _, rfl, by show 2 ≤ sizeLine; decide, fun q1 hq1 => ?_⟩
      have u1 : Same H4 (upd H4 q1 (.tup [.int 1, .int 1])) := same_upd hq1
      have v1 : (upd H4 q1 (.tup [.int 1, .int 1])) q1 = some (.tup [.int 1, .int 1]) := upd_same
      generalize upd H4 q1 (.tup [.int 1, .int 1]) = G1 at u1 v1
      refine ⟨_, _, m, 1, rfl, fqSame dm4 u1, fqI v1 rfl rfl, m4, bqOne.mono (by decide), .intro, fun H6 p6 s6 h6 => ?_⟩
      refine ⟨_, rfl, by show 2 ≤ sizeLine; decide, fun q2 hq2 => ?_⟩
      have u2 : Same H6 (upd H6 q2 (.tup [.int 1, .int 2])) := same_upd hq2
      have v2 : (upd H6 q2 (.tup [.int 1, .int 2])) q2 = some (.tup [.int 1, .int 2]) := upd_same
      generalize upd H6 q2 (.tup [.int 1, .int 2]) = G2 at u2 v2
      refine ⟨_, _, m, half, rfl, fqSame dm4 ((u1.trans s6).trans u2), fqI v2 half_q.1 half_q.2, m4, bqHalf.mono (by decide), .intro, fun H7 p7 s7 h7 => ?_⟩
      refine ⟨by show 3 ≤ sizeLine; decide, fun q3 hq3 => ?_⟩
      have u3 : Same H7 (upd H7 q3 (.lst [vm, .ref p6, .ref p7])) := same_upd hq3
      have s47 := ((u1.trans s6).trans u2).trans s7
      have f7 := f4.same s47
      refine ⟨pr, q3, us, _, rfl, rfl, u3 _ _ f7.at_, upd_same, Nat.le_of_lt (small1000 (by show us.length + 3 ≤ 1000; omega)), fun q4 hq4 => ?_⟩
      have u4 : Same (upd H7 q3 (.lst [vm, .ref p6, .ref p7])) (upd (upd H7 q3 (.lst [vm, .ref p6, .ref p7])) q4 (.lst (us ++ [vm, .ref p6, .ref p7]))) := same_upd hq4
      have u34 := u3.trans u4
      have s4x := s47.trans u34
      have w7 := w4.same s4x
      have hne4 := (w4.same (s47.trans u3)).ne hq4
      have hl4 : (upd (upd H7 q3 (.lst [vm, .ref p6, .ref p7])) q4 (.lst (us ++ [vm, .ref p6, .ref p7]))) q4 = some (.lst (us ++ [vm, .ref p6, .ref p7])) := upd_same
      generalize upd (upd H7 q3 (.lst [vm, .ref p6, .ref p7])) q4 (.lst (us ++ [vm, .ref p6, .ref p7])) = G4 at u34 s4x w7 hl4
      have dall : DpTAll K G4 (us ++ [vm, .ref p6, .ref p7]) ((qs ++ [m, m + 1, m - half]).map frd) :=
        dapp ((f4.same s4x).dat) (.cons (fqSame dm4 s4x) (.cons (fqSame (fqO h6) ((u2.trans s7).trans u34)) (.cons (fqSame (fqO h7) u34) .nil)))
      refine ⟨a, q4, _, k + 2, rfl, w7, by omega, hl4, hne4, by rw [List.length_append]; show 0 < us.length + 3; omega, by rw [List.length_append]; show us.length + 3 ≤ 1000; omega, fun H8 j y b8 w8 hy => ?_⟩
      obtain ⟨ot, hot, dot⟩ := fqGetV (dall.keep (b8.ktW w7)) hy
      have bot : Bq 23 ot := by
        rcases List.mem_append.mp (List.mem_of_getElem? hot) with h | h
        · exact fl.bq _ h
        · simp only [List.mem_cons, List.not_mem_nil, or_false] at h
          rcases h with rfl | rfl | rfl
          · exact bm.mono (by decide)
          · exact bm.add bqOne (by decide)
          · exact bm.sub bqHalf (by decide)
      have dlo8 : DpT K H8 x (frd lo) := DpT.keep ((Same.kt s4x).trans (b8.ktW w7)) dlo
      have b0 : But a H H8 := (bh4.trans (Same.but s4x)).trans b8
      refine ⟨_, rfl, _, rfl, _, _, lo, ot, rfl, dlo8, dot, blo.mono (by decide), bot.mono (by decide), _, rfl, if2 (fun c => ?_) (fun c => ?_)⟩
      · have c1 : lo ≤ ot := of_decide_eq_true c
        refine ⟨_, rfl, _, rfl, by show 2 ≤ sizeLine; decide, fun pt hpt => ?_⟩
        have s9 := same_upd (o := .tup [x, y]) hpt
        exact q _ pt _ _ _ _ (b0.trans (Same.but s9)) ((w8.same s9).mono (by omega)) upd_same (fqSame dlo8 s9) (fqSame dot s9) ⟨bm, bs, blo.mono (by decide), bot.mono (by decide), s0, c1⟩
      · have c1 : ot ≤ lo := by
          have := of_decide_eq_false c
          grind
        refine ⟨_, rfl, _, rfl, by show 2 ≤ sizeLine; decide, fun pt hpt => ?_⟩
        have s9 := same_upd (o := .tup [y, x]) hpt
        exact q _ pt _ _ _ _ (b0.trans (Same.but s9)) ((w8.same s9).mono (by omega)) upd_same (fqSame dot s9) (fqSame dlo8 s9) ⟨bm, bs, bot.mono (by decide), blo.mono (by decide), s0, c1⟩
end
end V3
set_option maxHeartbeats 8100000
/-! A place of a list inside a generator expression. -/
namespace V3
open PySem.Spec PySem L2 PyProof.Rows GxR RZ
section
variable {X : Cx} {H : Hp} {h : Heap} {σ : L2.St} {scope : Scope} {ce : Env} {B : Around} {mp : Str → Option Value} {Ok : Shared → Prop} {e e1 e2 : Expr} {P P1 P2 : V → Prop}
theorem ge_ixL {p : Pos} {a : Addr} {xs : List V} {j : Nat} {v : V} (G : GF X H h σ scope ce B mp Ok) (h1 : GE X ce B Ok e1 (· = .ref a)) (h2 : GE X ce B Ok e2 (· = .int (j : Int))) (hq : Rd (fast h H) a (.lst xs)) (he : xs[j]? = some v) (pv : P v)
    (hs : ∀ o i, subscripted e2 false o i = operate [o, i] (getItem o i)) : GE X ce B Ok (.Subscript e1 e2 p) P := fun Ex t ok => by
  refine Subscript_ (thn (h1 Ex t ok) fun u1 t1 ⟨⟨x, r1, p1⟩, k1⟩ => thn (h2 Ex t1 (G.next _ _ ok k1)) fun u2 t2 ⟨⟨y, r2, p2⟩, k2⟩ => ?_)
  subst p1 p2
  cases r1
  obtain ⟨tk, rfl⟩ := r2
  have g := G.inGen t2 (G.next _ _ (G.next _ _ ok k1) k2)
  obtain ⟨z, its, n, r, atL⟩ := hq.ok g.ok
  obtain ⟨w, ew, rw'⟩ := r.get he
  have isL : t2.heap.IsList a its.toArray := ⟨_, atL, rfl, n, rfl⟩
  have jl := (List.getElem?_eq_some_iff.mp ew).1
  have hl := r.length
  have fin : (∃ v, RelV v w ∧ P v) ∧ KeptG (frs (ce :: X.stack)) t t2 := ⟨⟨v, rw', pv⟩, k1.trans k2⟩
  have hn := line63
  exact item_listR isL (Int.natCast_nonneg j) (by omega) (by rw [Int.toNat_natCast]; simpa using ew) fin (hs _ _)
end
end V3
/-! A list like the empty one. -/
namespace V3
open PySem.Spec PySem L2 PyProof.Rows GxR RZ
section
variable {X : Cx}
def rEqNil (K : PySem.W.Frag) : R2 := fun x y H Q => ∃ p q xs, x = .ref p ∧ y = .ref q ∧ SqL K H p xs ∧ SqL K H q [] ∧ Q (.bl (decide (xs = []))) H
theorem op_eqNil (hu : X.A.units + 64 < cLine) : OpR X (compareOp .Eq) (rEqNil X.K) := by
  (intro pins s σ H x y v u Q I rx ry h)
  obtain ⟨p, q, xs, rfl, rfl, hp, hq, qq⟩ := h
  (cases (show v = Value.ref p from rx))
  cases (show u = Value.ref q from ry)
  have room : X.A.units < cLine := by omega
  obtain ⟨its, rv, pl, zl⟩ := I.list hp
  obtain ⟨its2, rv2, pl2, zl2⟩ := I.list hq
  have l1 := rv.length
  cases rv2
  by_cases e : xs = []
  · subst e
    cases rv
    refine SeqAt.RcAt.lists pl.isList pl2.isList rfl room (e := fun _ => true) (fun j h1 h2 => absurd h1 (by simp)) X.prog X.w _ _ ?_
    exact ⟨.bl _, H, I, rfl, qq⟩
  · refine SeqAt.RcAt.lists_lengths pl.isList pl2.isList ?_ room X.prog X.w _ _ ?_
    · have : its.length ≠ 0 := by
        rw [← l1]
        exact fun z => e (List.length_eq_zero_iff.mp z)
      simp
      intro z
      rw [z] at this
      exact this rfl
    · have e2 : decide (xs = []) = false := by simp [e]
      rw [e2] at qq
      exact ⟨.bl _, H, I, rfl, qq⟩
end
end V3
set_option maxHeartbeats 8000000
namespace V3
open PySem.Spec PySem L2 PyProof.Rows RZ GxR
theorem B3.updN {T : List Addr} {H H' : Hp} {p : Addr} {o : HO} (h : B3 T H H') (e : H p = none) : B3 T H (upd H' p o) := fun b x n hb => by
  have ne : b ≠ p := fun z => by
    rw [z, e] at hb
    cases hb
  rw [upd_ne ne]
  exact h b x n hb
theorem B3.lstS {T : List Addr} {H H' : Hp} {p : Addr} {xs : List V} (h : B3 T H H') (t : Tabs T H) (e : H p = some (.lst xs)) : H' p = some (.lst xs) := h p _ (fun z => by
  obtain ⟨ps, hq, _⟩ := t p z
  rw [hq] at e
  cases e) e
theorem Tabs.lst {T : List Addr} {H : Hp} {p : Addr} {xs ys : List V} (t : Tabs T H) (e : H p = some (.lst xs)) : Tabs T (upd H p (.lst ys)) := fun q hq => TabG.lst (t q hq) e
theorem Mx.b3 {T : List Addr} {H H' : Hp} {p : Addr} {ps : List Addr} {M : List (List Int)} (h : Mx H p ps M) (b : B3 T H H') (t : Tabs T H) : Mx H' p ps M :=
  ⟨b.lstS t h.at_, h.out, h.nd, h.len, fun i q r a c => b.lstS t (h.row i q r a c)⟩
theorem Mx.upd {H : Hp} {p l : Addr} {ps : List Addr} {M : List (List Int)} {o : HO} (h : Mx H p ps M) (n1 : p ≠ l) (n2 : l ∉ ps) : Mx (upd H l o) p ps M :=
  ⟨by rw [upd_ne n1]; exact h.at_, h.out, h.nd, h.len, fun i q r a c => by
    rw [upd_ne (fun z : q = l => n2 (z ▸ List.mem_of_getElem? a))]
    exact h.row i q r a c⟩
section
variable {mg : Str → Option Value} {base : Heap} {K : PySem.W.Frag} {P : Program} {w : World}
abbrev s_polynomial_of : Stmt := topS 29
abbrev N_polynomial_of : List Str := ["table", "size", "numbers", "power", "step", "number", "place"]
theorem sc_polynomial_of : FnScope N_polynomial_of ["table"] (defScope s_polynomial_of) := ⟨rfl, rfl, rfl, by decide +kernel, rfl, by decide +kernel, by decide +kernel⟩
def spPoly (K : PySem.W.Frag) (TT : List Addr) : Sp := fun vs H Q _ => ∃ (p : Addr) (ps : List Addr) (W : List (List Int)) (n b : Nat), vs = [.ref p] ∧ Mx H p ps W ∧ SqM n W ∧ 1 ≤ n ∧ n ≤ 5 ∧ (∀ r ∈ W, ∀ x ∈ r, x.natAbs < 2 ^ b) ∧ 0 < b ∧ b ≤ 20000 ∧ Tabs TT H ∧
  ∀ H' l, B3 TT H H' → Tabs TT H' → H' l = some (.lst ((polL n W n).2.reverse.map V.int)) → Q (.ref l) H'
theorem ok_polynomial_of (T : Gs K mg) {c Pc Pd : Addr} {TT : List Addr} (mc : Pc ∈ TT) (md : Pd ∈ TT) (TB : TabB base mg c Pc) (D_unit_row : Df P w K mg base "unit_row" 1 ["size", "places"] (spUnit K)) (D_multiplied : Df P w K mg base "multiplied" 3 ["one", "other"] (spMul K Pd)) (F : AtC K mg "polynomial_of" s_polynomial_of c) : Df P w K mg base "polynomial_of" 4 ["table"] (spPoly K TT) := by
  have sc := sc_polynomial_of
  refine Df.mkC F sc (fun vs H Q E h => ?_) (fun _ _ _ _ _ _ us hl => match us, hl with | [_], _ => rfl) (fun f A outer s H vs Q E hr h => ?_)
  · obtain ⟨p, ps, W, n, b, rfl, _⟩ := h
    rfl
  · obtain ⟨p, ps, W, n, b, rfl, hp, hW, n1, n5, bw, b1, b9, tabs, q⟩ := h
    refine ⟨_, (pss_cons (ps_set (i := 1) sc.nd rfl (.inr rfl) (pe_callB call_len_seq (by rfl) T.len PySem.boot_len (pa_cons (pv 0) pa_nil))) (pss_cons (ps_set (i := 2) sc.nd rfl (.inl rfl) (pe_lst (pa_cons pe_int pa_nil))) (pss_cons (ps_set (i := 3) sc.nd rfl (.inr rfl) (pe_lc (own := [("place", 6)]) (g := gName 6) rfl sc.nd (pi_range1 rfl T.range (pa_cons (pv 1) pa_nil)) (blkOk_by (own := [("place", 6)]) (N := N_polynomial_of) (sc := defScope s_polynomial_of) (by decide +kernel)) (fun _ _ _ _ _ => (pg_name (i := 6) sc.nd rfl (.inl rfl))) (fun _ _ _ _ _ => pts_nil) (fun _ _ _ _ _ => (pe_fn D_unit_row (by decide) hr (pa_cons (pv 1) (pa_cons (pe_tup (pa_cons (pv 6) pa_nil)) pa_nil)))))) (pss_cons (ps_for PassesOwn.never rfl (pi_range2 rfl T.range (pa_cons pe_int (pa_cons (pe_op op_add (pv 1) pe_int) pa_nil))) (pg_name (i := 4) sc.nd rfl (.inl rfl)) (pss_cons (ps_set (i := 3) sc.nd rfl (.inr rfl) (pe_fn D_multiplied (by decide) hr (pa_cons (pv 0) (pa_cons (pv 3) pa_nil)))) (pss_cons (ps_set (i := 5) sc.nd rfl (.inl rfl) (pe_op op_fdivW (pe_un un_neg (pe_sumG (P := Pc) hr (by rfl) T.sum TB rfl ⟨rfl, rfl, by decide +kernel, rfl, by
      intro y hy e
      simp only [List.mem_cons, List.not_mem_nil, or_false] at hy
      rcases hy with rfl | rfl | rfl <;> first | exact ⟨_, rfl⟩ | cases e⟩ (ir_rng (prg_1 (by rfl) T.range (pv 1)) rfl rfl) (fun _ => rfl))) (pv 4))) (pss_cons (ps_expr (pe_bm PySem.F.plainAttrs_list PySem.F.slot_list_append PySem.F.type_list_append mt_append (pv 2) (pa_cons (pv 5) pa_nil))) (pss_one (ps_for PassesOwn.never rfl (pi_range1 rfl T.range (pa_cons (pv 1) pa_nil)) (pg_name (i := 6) sc.nd rfl (.inl rfl)) (pss_one (ps_augS (pe_ix ix_list (pv 3) (pv 6) (fun _ _ => rfl)) (pv 6) pget_list (pv 5) ip_add set_list)))))))) (pss_one (ps_ret (pe_revL (pv 2)))))))), ?_⟩
    have pl : ps.length = n := by rw [hp.len, hW.len]
    refine ⟨_, rfl, p, _, rfl, .inl (SqL.of hp.at_), ?_⟩
    rw [List.length_map, pl]
    refine ⟨by show 1 ≤ sizeLine; decide, fun l hl => ?_⟩
    have s0 : Same H (upd H l (.lst [.int 1])) := same_upd hl
    have at0 : (upd H l (.lst [V.int 1])) l = some (.lst [V.int 1]) := upd_same
    generalize upd H l (.lst [V.int 1]) = H0 at s0 at0
    have tabs0 := tabs.same s0
    refine ⟨_, rfl, _, rfl, by omega, by omega, fun D hD => lc_range (lo := 0) (n := _) (fun i H' => Same H0 H' ∧ RowsN H0 H' D (((List.range n).take i).map (unitL n))) ?_ ?_ ?_⟩
    · exact ⟨same_upd hD, [], upd_same, rfl, (fun i a r h => by simp at h), List.nodup_nil, by simp, fun a h => by cases h⟩
    · rintro i H' hi ⟨sm, as, hDl, hal, has, nda, nDa, fra⟩
      have hi2 : i < n := by omega
      refine ⟨rfl, yesIf ?_⟩
      refine ⟨_, rfl, _, rfl, by show 1 ≤ sizeLine; decide, fun pt hpt => ?_⟩
      have s1 : Same H' (upd H' pt (.tup [.int ((0 : Int) + (i : Int))])) := same_upd hpt
      refine ⟨pt, n, i, rfl, SqT.of (by rw [Int.zero_add]; exact upd_same), by omega, fun H2 R s2 hR hRl => ?_⟩
      have s12 := s1.trans s2
      have hDl2 := s12 _ _ hDl
      have hne : R ≠ D := fun e => by
        rw [e] at hR
        have := s1 _ _ hDl
        rw [hR] at this
        cases this
      have hR' : H' R = none := by
        cases e : H' R with
        | none => rfl
        | some o =>
          have := s1 _ _ e
          rw [hR] at this
          cases this
      have ti : (List.range n).take (i + 1) = (List.range n).take i ++ [i] := take_more (List.getElem?_range hi2)
      have leni : as.length = i := by
        rw [hal, List.length_map, List.length_take, List.length_range]
        omega
      refine ⟨_, hDl2, ?_, same_updN (sm.trans s12) hD, as ++ [R], ?_, ?_, (fun k a rr h1 h2 => ?_), ?_, ?_, fun a ha => ?_⟩
      · rw [List.length_map]
        exact small1000 (by omega)
      · rw [upd_same, List.map_append]
        rfl
      · rw [ti, List.map_append, List.length_append, List.length_append, hal]
        rfl
      · rw [ti, List.map_append] at h2
        by_cases hk : k < as.length
        · rw [List.getElem?_append_left hk] at h1
          rw [List.getElem?_append_left (by rw [← hal]; exact hk)] at h2
          have na : a ≠ D := fun e => nDa (e ▸ List.mem_of_getElem? h1)
          rw [upd_ne na]
          exact s12 _ _ (has k a rr h1 h2)
        · rw [List.getElem?_append_right (by omega)] at h1
          rw [List.getElem?_append_right (by rw [← hal]; omega)] at h2
          have k0 : k - as.length = 0 := by
            have := (List.getElem?_eq_some_iff.mp h1).1
            simp at this
            omega
          rw [k0] at h1
          rw [← hal, k0] at h2
          have e1 : R = a := Option.some.inj h1
          have e2 : unitL n i = rr := Option.some.inj h2
          rw [← e1, ← e2, upd_ne hne]
          exact hRl
      · refine List.nodup_append.mpr ⟨nda, by simp, fun a ha b hb e => ?_⟩
        rw [List.mem_singleton.mp hb] at e
        rw [e] at ha
        obtain ⟨k, hk⟩ := List.getElem?_of_mem ha
        have kl := (List.getElem?_eq_some_iff.mp hk).1
        have := has k _ _ hk (List.getElem?_eq_getElem (by rw [← hal]; exact kl))
        rw [hR'] at this
        cases this
      · intro hm2
        rcases List.mem_append.mp hm2 with w | w
        · exact nDa w
        · exact hne (List.mem_singleton.mp w).symm
      · rcases List.mem_append.mp ha with w | w
        · exact fra a w
        · rw [List.mem_singleton.mp w]
          cases e : H0 R with
          | none => rfl
          | some o =>
            have := sm _ _ e
            rw [hR'] at this
            cases this
    rintro H1 ⟨sm1, as, hDl, hal, has, nda, nDa, fra⟩
    have eT : (List.range n).take ((n : Int)).toNat = List.range n := by
      rw [Int.toNat_natCast, List.take_of_length_le (by rw [List.length_range]; omega)]
    rw [eT] at hal has
    have mx1 : Mx H1 D as (polL n W 0).1 := ⟨hDl, nDa, nda, hal, has⟩
    have noD : ∀ {a : Addr}, H0 a = none → a ≠ l := fun h e => by
      rw [e, at0] at h
      cases h
    have noH : ∀ {a : Addr}, H0 a = none → H a = none := fun {a} h => by
      cases e : H a with
      | none => rfl
      | some o =>
        have := s0 _ _ e
        rw [h] at this
        cases this
    have l1 : H1 l = some (.lst ((polL n W 0).2.map V.int)) := sm1 _ _ at0
    have hpn : H p = some (.lst (ps.map V.ref)) := hp.at_
    refine ⟨_, rfl, _, _, rfl, rfl, _, _, rfl, ⟨by decide, by decide, by omega, by omega⟩, for_range (lo := 1) (n := _) (fun k σ H' => ∃ (D : Addr) (ds : List Addr) (y4 y5 y6 : Option V), σ = [some (.ref p), some (.int n), some (.ref l), some (.ref D), y4, y5, y6] ∧ B3 TT H H' ∧ Tabs TT H' ∧ H' l = some (.lst ((polL n W k).2.map V.int)) ∧ Mx H' D ds (polL n W k).1 ∧ (∀ a ∈ ds, H a = none) ∧ D ≠ l ∧ l ∉ ds)
      ⟨D, as, _, _, _, rfl, Same.b3 (s0.trans sm1), tabs0.same sm1, l1, mx1, fun a h => noH (fra a h), noD hD, fun h => noD (fra l h) rfl⟩ ?_ ?_⟩
    · rintro k σ H2 hk ⟨D2, ds, y4, y5, y6, rfl, bu, tb, hL, mx, fr, nDl, nl⟩
      have hk5 : k < n := by omega
      have kb := pol_bd hW n5 bw k
      have sqk := (polL_fl hW k).1
      have kk : k * (b + 6) ≤ 4 * 20006 := Nat.mul_le_mul (by omega) (by omega)
      have sqm : SqM n (mulM W (polL n W k).1 n) := mulM_sq hW
      refine ⟨_, rfl, _, rfl, p, D2, ps, ds, W, (polL n W k).1, n, b + k * (b + 6) + 1, rfl, hp.b3 bu tabs, mx, tb Pd md, by rw [hW.len]; exact n5, by rw [sqk.len]; exact n1, by rw [sqk.len]; exact n5, n1, n5, sqk.row, fun r hr x hx => ?_, sqk.all fun i j hi hj => ?_, by omega, by omega, fun H3 D3 ds3 b3 t3 hD3 mx3 fr3 => ?_⟩
      · exact Nat.lt_of_lt_of_le (bw r hr x hx) (pw (by omega))
      · exact Nat.lt_of_le_of_lt (kb.1 i j hi hj) (Nat.lt_of_lt_of_le (Nat.pow_lt_pow_right (by decide) (Nat.lt_succ_self _)) (pw (by omega)))
      have tb3 : Tabs TT H3 := tb.grow b3 t3
      have l3 : H3 l = some (.lst ((polL n W k).2.map V.int)) := b3.lst (tb Pd md) hL
      have bu3 := bu.trans (b3.b3 md)
      have no3 : ∀ {a : Addr}, H2 a = none → a ≠ l := fun h e => by
        rw [e, hL] at h
        cases h
      have noH3 : ∀ {a : Addr}, H2 a = none → H a = none := fun {a} h => by
        cases e : H a with
        | none => rfl
        | some o =>
          by_cases m : a ∈ TT
          · obtain ⟨q, hq, _⟩ := tb a m
            rw [h] at hq
            cases hq
          · have := bu a o m e
            rw [h] at this
            cases this
      have f3 : ∀ a ∈ ds3, H a = none := fun a ha => noH3 (fr3 a ha)
      have n3 : l ∉ ds3 := fun h => no3 (fr3 l h) rfl
      have nD3 : D3 ≠ l := no3 hD3
      -- the sum along
      refine ⟨_, rfl, _, rfl, n, (Int.zero_add _).symm, small_one (by decide) (by decide) (by omega) (by omega), ?_, tb3 Pc mc, (fun _ => true), (fun i => tabF (mulM W (polL n W k).1 n) i i), ⟨fun h ok ce B mp Ok i row G => gt_none G, fun h ok ce B mp Ok i row pi G => ?_⟩, fun H4 tb4 => ?_⟩
      · rw [rangeSize_one]
        split <;> omega
      · obtain ⟨il, t, hm⟩ := row
        rw [Int.zero_add] at hm
        obtain ⟨a, ha⟩ : ∃ a, ds3[i]? = some a := ⟨_, List.getElem?_eq_getElem (by rw [mx3.len, sqm.len]; exact il)⟩
        obtain ⟨r, hr1, lr, gr⟩ := sqm.at_ il
        obtain ⟨z, hz⟩ : ∃ z, r[i]? = some z := ⟨_, List.getElem?_eq_getElem (by omega)⟩
        have ez : tabF (mulM W (polL n W k).1 n) i i = z := by
          rw [tabF, gr, List.getD_eq_getElem?_getD, hz]
          rfl
        show GE _ ce B Ok _ (fun v => v = V.int (tabF (mulM W (polL n W k).1 n) i i))
        rw [ez]
        refine ge_ixL G (a := a) (j := i) (xs := r.map V.int) (ge_ixL G (a := D3) (j := i) (xs := ds3.map V.ref) (ge_cap G (ic := 3) ⟨rfl, rfl, rfl, fun _ => rfl, by decide, by decide⟩ rfl rfl) (ge_loc G (v := .int (i : Int)) rfl hm ⟨_, rfl⟩ rfl) (.inr (fast_lst ok mx3.at_)) (by rw [List.getElem?_map, ha]; rfl) rfl (fun _ _ => rfl)) (ge_loc G (v := .int (i : Int)) rfl hm ⟨_, rfl⟩ rfl) (.inr (fast_lst ok (mx3.row i a r ha hr1))) (by rw [List.getElem?_map, hz]; rfl) rfl (fun _ _ => rfl)
      have esum : (((List.range n).filter fun _ => true).map fun i => tabF (mulM W (polL n W k).1 n) i i).sum = sg n fun a => tabF (mulM W (polL n W k).1 n) a a := by
        (rw [List.filter_eq_self.mpr (fun _ _ => rfl)])
        rfl
      rw [esum]
      have tb4' := tb3.tabbed tb4
      have mx4 := mx3.b3 (Tabbed.b3 tb4 mc) tb3
      have l4 := (Tabbed.b3 tb4 mc).lstS tb3 l3
      have bu4 := bu3.trans (Tabbed.b3 tb4 mc)
      refine ⟨_, rfl, _, rfl, _, _, rfl, rfl, wide_div (b := 10) (by omega) (by omega) (by decide) (by decide), ?_⟩
      have ek : (1 : Int) + (k : Int) = (k : Int) + 1 := Int.add_comm ..
      rw [ek]
      dsimp only
      have ep1 : (polL n W (k + 1)).1 = diaA (mulM W (polL n W k).1 n) ((-(sg n fun a => tabF (mulM W (polL n W k).1 n) a a)) / ((k : Int) + 1)) n := rfl
      have ep2 : (polL n W (k + 1)).2 = (polL n W k).2 ++ [(-(sg n fun a => tabF (mulM W (polL n W k).1 n) a a)) / ((k : Int) + 1)] := rfl
      rw [ep1, ep2]
      generalize (-(sg n fun a => tabF (mulM W (polL n W k).1 n) a a)) / ((k : Int) + 1) = num
      generalize mulM W (polL n W k).1 n = M at *
      refine ⟨_, rfl, .inl ⟨rfl, _, SqL.of l4⟩, _, rfl, l, _, _, rfl, rfl, l4, small1000 (by rw [List.length_map, polL_len]; omega), ?_⟩
      have e5 : (polL n W k).2.map V.int ++ [V.int num] = ((polL n W k).2 ++ [num]).map V.int := by rw [List.map_append]; rfl
      rw [e5]
      have bu5 : B3 TT H (upd H4 l (.lst (((polL n W k).2 ++ [num]).map V.int))) := bu4.updN hl
      have tb5 : Tabs TT (upd H4 l (.lst (((polL n W k).2 ++ [num]).map V.int))) := tb4'.lst l4
      have mx5 : Mx (upd H4 l (.lst (((polL n W k).2 ++ [num]).map V.int))) D3 ds3 M := mx4.upd nD3 n3
      have l5 : (upd H4 l (.lst (((polL n W k).2 ++ [num]).map V.int))) l = some (.lst (((polL n W k).2 ++ [num]).map V.int)) := upd_same
      generalize upd H4 l (.lst (((polL n W k).2 ++ [num]).map V.int)) = H5 at bu5 tb5 mx5 l5
      refine ⟨_, rfl, _, rfl, by omega, by omega, for_range (lo := 0) (n := _) (fun i σ H' => (∃ y4 y6, σ = [some (.ref p), some (.int n), some (.ref l), some (.ref D3), y4, some (.int num), y6]) ∧ B3 TT H H' ∧ Tabs TT H' ∧ H' l = some (.lst (((polL n W k).2 ++ [num]).map V.int)) ∧ Mx H' D3 ds3 (diaA M num i)) ⟨⟨_, _, rfl⟩, bu5, tb5, l5, mx5⟩ ?_ ?_⟩
      · rintro i σ H6 hi ⟨⟨z4, z6, rfl⟩, bu6, tb6, l6, mi⟩
        have hi2 : i < n := by omega
        have sqi := diaA_sq (s := num) sqm i (by omega)
        obtain ⟨r, hr1, lr, gr⟩ := sqi.at_ hi2
        obtain ⟨a, ha⟩ : ∃ a, ds3[i]? = some a := ⟨_, List.getElem?_eq_getElem (by rw [mx3.len, sqm.len]; exact hi2)⟩
        obtain ⟨z, hz⟩ : ∃ z, r[i]? = some z := ⟨_, List.getElem?_eq_getElem (by omega)⟩
        have am := List.mem_of_getElem? ha
        have rowA := mi.row i a r ha hr1
        have at1 : atI (ds3.map V.ref) ((0 : Int) + (i : Int)) = some (V.ref a) := by
          rw [Int.zero_add]
          exact at_of (j := i) rfl (by rw [List.getElem?_map, ha]; rfl)
        have at2 : atI (r.map V.int) ((0 : Int) + (i : Int)) = some (V.int z) := by
          rw [Int.zero_add]
          exact at_of (j := i) rfl (by rw [List.getElem?_map, hz]; rfl)
        refine ⟨_, rfl, _, rfl, _, _, _, _, rfl, rfl, SqL.of mi.at_, at1, _, rfl, ?_⟩
        refine ⟨_, _, _, _, rfl, rfl, SqL.of rowA, at2, _, rfl, _, _, rfl, rfl, a, _, _, i, rfl, rfl, rowA, ?_, ⟨_, _, rfl⟩, bu6.updN (f3 a am), tb6.lst rowA, ?_, ?_⟩
        · rw [Int.zero_add]
          unfold ixN
          rw [if_pos (by omega), if_pos (by rw [List.length_map]; omega), Int.toNat_natCast]
        · rw [upd_ne (fun e : l = a => n3 (e ▸ am))]
          exact l6
        · have pt := mi.put ha hr1 (r.set i (z + num))
          have e1 : (r.set i (z + num)).map V.int = (r.map V.int).set i (V.int (z + num)) := by rw [List.map_set]
          have e2 : diaA M num (i + 1) = (diaA M num i).set i (r.set i (z + num)) := by
            rw [diaA, gr, List.getD_eq_getElem?_getD, hz]
            rfl
          rw [e1] at pt
          rw [e2]
          exact pt
      · rintro σ H6 ⟨⟨z4, z6, rfl⟩, bu6, tb6, l6, mi⟩
        have en : ((n : Nat) : Int).toNat = n := Int.toNat_natCast n
        rw [en] at mi
        exact ⟨D3, ds3, _, _, _, rfl, bu6, tb6, l6, mi, f3, nD3, n3⟩
    · rintro σ H2 ⟨D2, ds, y4, y5, y6, rfl, bu, tb, hL, mx, fr, nDl, nl⟩
      have en : ((n : Int) + 1 - 1).toNat = n := by omega
      rw [en] at hL
      refine ⟨_, rfl, l, _, rfl, SqL.of hL, fun p2 hp2 => q _ p2 (bu.trans (Same.b3 (same_upd hp2))) (tb.same (same_upd hp2)) ?_⟩
      rw [upd_same, List.map_reverse]
end
end V3
namespace V3
open PySem.Spec PySem L2 PyProof.Rows RZ GxR
theorem DpT.b3 {K : PySem.W.Frag} {T : List Addr} {H H' : Hp} {v : V} {d : PyData} (b : B3 T H H') (t : Tabs T H) (h : DpT K H v d) : DpT K H' v d := DpT.keep (b.kt t) h
theorem abs_le_mul {z t : Int} (h : 0 < z) : t.natAbs ≤ (z * t).natAbs := by
  rw [Int.natAbs_mul]
  exact Nat.le_mul_of_pos_left _ (by omega)
/-- the size of the whole table, less x along -/
theorem lessW_bd {M : List (List Int)} {n : Nat} {z : Int} {x : Rat} (sy : Sy n 90 M) (z0 : 0 < z) (zb : z.natAbs < 2 ^ 60) (bx : Bq 4000 x) : ∀ r ∈ lessW M z x, ∀ c ∈ r, c.natAbs < 2 ^ 9000 := by
  have hr : ∀ r ∈ M, r.length = n := fun r h => (sy.row r h).1
  refine (lessW_sq sy.len hr).all fun i j hi hj => ?_
  rw [lessW_tab sy.len hr hi hj]
  have u1 : lcmAll (rowsT M z) ∣ Nat.lcm (lcmAll (rowsT M z)) x.den := Nat.dvd_lcm_left ..
  have ub : Nat.lcm (lcmAll (rowsT M z)) x.den < 2 ^ 4060 := by
    have h1 : Nat.lcm (lcmAll (rowsT M z)) x.den ≤ lcmAll (rowsT M z) * x.den := Nat.le_of_dvd (Nat.mul_pos rowsT_pos x.den_pos) (Nat.lcm_dvd (Nat.dvd_mul_right ..) (Nat.dvd_mul_left ..))
    have h2 := rowsT_le (M := M) z0
    have h3 : lcmAll (rowsT M z) * x.den < 2 ^ 60 * 2 ^ 4000 := Nat.mul_lt_mul'' (Nat.lt_of_le_of_lt h2 zb) bx.d
    rw [← Nat.pow_add] at h3
    exact Nat.lt_of_le_of_lt h1 h3
  have w := whole_tab z0 sy.len hr u1 hi hj
  have u0 : 0 < Nat.lcm (lcmAll (rowsT M z)) x.den := Nat.lcm_pos rowsT_pos x.den_pos
  obtain ⟨g1, g2⟩ := getMx sy.len hi
  have cb : ((M.getD i []).getD j 0).natAbs < 2 ^ 90 := getD_lt (sy.row _ g2).2
  generalize tabF ((rowsT M z).map (wholeRow (Nat.lcm (lcmAll (rowsT M z)) x.den : Nat))) i j = t at w ⊢
  generalize Nat.lcm (lcmAll (rowsT M z)) x.den = u at *
  have tb : t.natAbs < 2 ^ 8990 := by
    refine Nat.lt_of_le_of_lt (abs_le_mul (t := t) z0) ?_
    rw [w]
    exact Nat.lt_of_lt_of_le (mulI (natI ub) cb) (pw (by decide))
  have sb : (x.num * ((u : Int) / (x.den : Int))).natAbs < 2 ^ 8990 := by
    have h1 : ((u : Int) / (x.den : Int)).natAbs < 2 ^ 4060 := Nat.lt_of_le_of_lt (Int.natAbs_ediv_le_natAbs _ _) (natI ub)
    exact Nat.lt_of_lt_of_le (mulI bx.n h1) (pw (by decide))
  have e : (2 : Nat) ^ 9000 = 2 ^ 8990 * 1024 := by rw [show (9000 : Nat) = 8990 + 10 from rfl, Nat.pow_add]
  rw [e]
  generalize (2 : Nat) ^ 8990 = B at *
  split
  · have := Int.natAbs_add_le t (-(x.num * ((u : Int) / (x.den : Int))))
    omega
  · rw [Int.add_zero]
    omega
theorem pL_split (w : List Int) {xs : List Int} {i : Nat} (e : xs = pL w) (h0 : xs.getD i 0 ≠ 0) (hz : ∀ j, j < i → xs.getD j 0 = 0) : i = (nulI w).length := by
  obtain ⟨y, r, h, y0⟩ := (pL_counts w).2
  rw [e, h] at h0 hz
  have at_ : (List.replicate (nulI w).length 0 ++ y :: r).getD (nulI w).length 0 = y := by
    rw [List.getD_eq_getElem?_getD, List.getElem?_append_right (by rw [List.length_replicate]; omega), List.length_replicate, Nat.sub_self]
    rfl
  have low : ∀ j, j < (nulI w).length → (List.replicate (nulI w).length (0 : Int) ++ y :: r).getD j 0 = 0 := fun j hj => by
    rw [List.getD_eq_getElem?_getD, List.getElem?_append_left (by rw [List.length_replicate]; exact hj), List.getElem?_replicate, if_pos hj]
    rfl
  rcases Nat.lt_trichotomy i (nulI w).length with l | l | l
  · exact absurd (low i l) h0
  · exact l
  · exact absurd (at_.symm.trans (hz _ l)) y0
section
variable {mg : Str → Option Value} {base : Heap} {K : PySem.W.Frag} {P : Program} {w : World}
/-- a told table, whose whole one less x has the polynomial of the zeros w -/
structure PlW (K : PySem.W.Frag) (H : Hp) (v : V) (M : List (List Int)) (z : Int) (n : Nat) (x : Rat) (w : List Int) : Prop where
  dv : DpT K H v (toldP M z)
  sy : Sy n 90 M
  n1 : 1 ≤ n
  n5 : n ≤ 5
  z0 : 0 < z
  zb : z.natAbs < 2 ^ 60
  bx : Bq 4000 x
  pol : (polL n (lessW M z x) n).2.reverse = pL w
  len : w.length = n
abbrev s_root_counts : Stmt := topS 34
abbrev N_root_counts : List Str := ["table", "number", "whole", "_"]
theorem sc_root_counts : FnScope N_root_counts ["table", "number"] (defScope s_root_counts) := ⟨rfl, rfl, rfl, by decide +kernel, rfl, by decide +kernel, by decide +kernel⟩
def spRootCounts (K : PySem.W.Frag) (TT : List Addr) : Sp := fun vs H Q _ => ∃ (v u : V) (M : List (List Int)) (z : Int) (n : Nat) (x : Rat) (w : List Int), vs = [v, u] ∧ PlW K H v M z n x w ∧ DpT K H u (frd x) ∧ Tabs TT H ∧
  ∀ H' l, B3 TT H H' → Tabs TT H' → H' l = some (.tup [.int (posI w).length, .int (nulI w).length, .int ((n : Int) - (posI w).length - (nulI w).length)]) → Q (.ref l) H'
theorem ok_root_counts {Pt : Addr} {TT : List Addr} (mt : Pt ∈ TT) (D_check_table : Df P w K mg base "check_table" 7 ["table"] (spCheckTable K Pt)) (D_check_fraction : Df P w K mg base "check_fraction" 3 ["number"] (spCheck K)) (D_whole_less : Df P w K mg base "whole_less" 2 ["table", "number"] (spLess K))
    (D_polynomial_of : Df P w K mg base "polynomial_of" 4 ["table"] (spPoly K TT)) (D_counts_of : Df P w K mg base "counts_of" 3 ["numbers"] (spCountsOf K TT)) (F : At K mg "root_counts" s_root_counts) : Df P w K mg base "root_counts" 8 ["table", "number"] (spRootCounts K TT) := by
  have sc := sc_root_counts
  refine Df.mk' F sc (fun vs H Q E h => ?_) (fun _ _ _ _ _ _ us hl => match us, hl with | [_, _], _ => rfl) (fun f cdv A outer s H vs Q E hr h => ?_)
  · obtain ⟨v, u, M, z, n, x, w, rfl, _⟩ := h
    rfl
  · obtain ⟨v, u, M, z, n, x, w, rfl, pw', du, tabs, q⟩ := h
    refine ⟨_, (pss_cons (ps_expr (pe_fn D_check_table (by decide) hr (pa_cons (pv 0) pa_nil))) (pss_cons (ps_expr (pe_fn D_check_fraction (by decide) hr (pa_cons (pv 1) pa_nil))) (pss_cons (ps_asg (pe_fn D_whole_less (by decide) hr (pa_cons (pv 0) (pa_cons (pv 1) pa_nil))) (pg_tup rfl (pgs_cons (pg_name (i := 2) sc.nd rfl (.inl rfl)) (pgs_cons (pg_name (i := 3) sc.nd rfl (.inl rfl)) pgs_nil)))) (pss_one (ps_ret (pe_fn D_counts_of (by decide) hr (pa_cons (pe_fn D_polynomial_of (by decide) hr (pa_cons (pv 2) pa_nil)) pa_nil))))))), ?_⟩
    have hrow : ∀ r ∈ M, r.length = n := fun r h => (pw'.sy.row r h).1
    refine ⟨_, rfl, 0, v, .tup (toldDs M z), rfl, by rw [← conv_told]; exact DpT.an pw'.dv, told_tab pw'.sy pw'.n1 pw'.n5, tabs Pt mt, fun H1 b1 t1 => ?_⟩
    have b13 : B3 TT H H1 := b1.b3 mt
    have tabs1 := tabs.grow b1 t1
    have du1 := du.b3 b13 tabs
    refine ⟨_, rfl, u, x, rfl, du1, ?_⟩
    have dv1 := pw'.dv.b3 b13 tabs
    refine ⟨_, rfl, _, rfl, v, u, rowsT M z, (x.num, (x.den : Int)), rfl, by rw [rowsT_d]; exact dv1.dp, du1.dp, by rw [rowsT_len, pw'.sy.len]; have := pw'.n5; omega, ?_, ⟨rden_pos x, pw'.bx.n, natI pw'.bx.d⟩, ?_, ?_, ?_, fun H2 l2 D ps s2 hD mx fr hl2 => ?_⟩
    · intro r hr1
      obtain ⟨r', hr', rfl⟩ := List.mem_map.mp hr1
      refine ⟨by unfold rowT; rw [List.length_map, hrow r' hr']; have := pw'.n5; omega, fun q hq => ?_⟩
      obtain ⟨c, hc, rfl⟩ := List.mem_map.mp hq
      exact prT_sf pw'.z0 pw'.zb ((pw'.sy.row r' hr').2 c hc) (by decide)
    · exact Nat.lt_of_le_of_lt (rowsT_le pw'.z0) (Nat.lt_of_lt_of_le pw'.zb (pw (by decide)))
    · show Nat.lcm (lcmAll (rowsT M z)) x.den < 2 ^ 9000
      have h1 : Nat.lcm (lcmAll (rowsT M z)) x.den ≤ lcmAll (rowsT M z) * x.den := Nat.le_of_dvd (Nat.mul_pos rowsT_pos x.den_pos) (Nat.lcm_dvd (Nat.dvd_mul_right ..) (Nat.dvd_mul_left ..))
      have h2 := rowsT_le (M := M) pw'.z0
      have h3 : lcmAll (rowsT M z) * x.den < 2 ^ 60 * 2 ^ 4000 := Nat.mul_lt_mul'' (Nat.lt_of_le_of_lt h2 pw'.zb) pw'.bx.d
      rw [← Nat.pow_add] at h3
      exact Nat.lt_of_lt_of_le (Nat.lt_of_le_of_lt h1 h3) (pow_le_pow' (by decide))
    · intro r hr1
      obtain ⟨r', hr', rfl⟩ := List.mem_map.mp hr1
      unfold rowT
      rw [List.length_map, rowsT_len, hrow r' hr', pw'.sy.len]
    have mx2 : Mx H2 D ps (lessW M z x) := mx
    have tabs2 := tabs1.same s2
    refine ⟨l2, _, rfl, SqT.of hl2, rfl, _, _, rfl, _, _, rfl, rfl, ?_⟩
    refine ⟨_, rfl, D, ps, lessW M z x, n, 9000, rfl, mx2, lessW_sq pw'.sy.len hrow, pw'.n1, pw'.n5, lessW_bd pw'.sy pw'.z0 pw'.zb pw'.bx, by decide, by decide, tabs2, fun H3 l3 b3 t3 hl3 => ?_⟩
    rw [pw'.pol] at hl3
    have lp : (pL w).length = n + 1 := by rw [pL_len, pw'.len]
    have one : ∃ c ∈ pL w, c ≠ 0 := ⟨1, List.mem_of_getLast? (pL_last w), by decide⟩
    refine ⟨l3, pL w, rfl, hl3, by rw [lp]; have := pw'.n5; omega, t3, one, fun H4 l4 i b4 t4 il h0 hz hl4 => ?_⟩
    have ei := pL_split w rfl h0 hz
    have ev : vC (pL w) = (posI w).length := (pL_counts w).1
    refine q H4 l4 (((b13.trans (Same.b3 s2)).trans b3).trans b4) t4 ?_
    rw [hl4, ev, ei, lp]
    have e3 : (((n + 1 : Nat) : Int) - 1 - ((posI w).length : Nat) - ((nulI w).length : Nat)) = (n : Int) - ((posI w).length : Nat) - ((nulI w).length : Nat) := by omega
    rw [e3]
abbrev s_check_stretch : Stmt := topS 41
abbrev N_check_stretch : List Str := ["table", "low", "high"]
theorem sc_check_stretch : FnScope N_check_stretch ["table", "low", "high"] (defScope s_check_stretch) := ⟨rfl, rfl, rfl, by decide +kernel, rfl, by decide +kernel, by decide +kernel⟩
def spCheckSt (K : PySem.W.Frag) (TT : List Addr) : Sp := fun vs H Q _ => ∃ (v u1 u2 : V) (M : List (List Int)) (z : Int) (n : Nat) (l h : Rat), vs = [v, u1, u2] ∧ DpT K H v (toldP M z) ∧ Sy n 90 M ∧ 1 ≤ n ∧ n ≤ 5 ∧ DpT K H u1 (frd l) ∧ DpT K H u2 (frd h) ∧ Bq 4000 l ∧ Bq 4000 h ∧ l ≤ h ∧ Tabs TT H ∧ ∀ H', B3 TT H H' → Tabs TT H' → Q .non H'
theorem ok_check_stretch {Pt : Addr} {TT : List Addr} (mt : Pt ∈ TT) (D_check_table : Df P w K mg base "check_table" 7 ["table"] (spCheckTable K Pt)) (D_check_fraction : Df P w K mg base "check_fraction" 3 ["number"] (spCheck K)) (D_check_fraction_from : Df P w K mg base "check_fraction_from" 3 ["number", "least"] (spCheckFrom K))
    (F : At K mg "check_stretch" s_check_stretch) : Df P w K mg base "check_stretch" 8 ["table", "low", "high"] (spCheckSt K TT) := by
  have sc := sc_check_stretch
  refine Df.mk' F sc (fun vs H Q E h => ?_) (fun _ _ _ _ _ _ us hl => match us, hl with | [_, _, _], _ => rfl) (fun f cdv A outer s H vs Q E hr h => ?_)
  · obtain ⟨v, u1, u2, M, z, n, l, h, rfl, _⟩ := h
    rfl
  · obtain ⟨v, u1, u2, M, z, n, l, h, rfl, dv, sy, n1, n5, d1, d2, bl, bh, lh, tabs, q⟩ := h
    refine ⟨_, (pss_cons (ps_expr (pe_fn D_check_table (by decide) hr (pa_cons (pv 0) pa_nil))) (pss_cons (ps_expr (pe_fn D_check_fraction (by decide) hr (pa_cons (pv 1) pa_nil))) (pss_one (ps_expr (pe_fn D_check_fraction_from (by decide) hr (pa_cons (pv 2) (pa_cons (pv 1) pa_nil))))))), ?_⟩
    refine ⟨_, rfl, 0, v, .tup (toldDs M z), rfl, by rw [← conv_told]; exact DpT.an dv, told_tab sy n1 n5, tabs Pt mt, fun H1 b1 t1 => ?_⟩
    have b13 : B3 TT H H1 := b1.b3 mt
    have tabs1 := tabs.grow b1 t1
    refine ⟨_, rfl, u1, l, rfl, d1.b3 b13 tabs, ?_⟩
    exact ⟨_, rfl, _, rfl, u2, u1, h, l, rfl, d2.b3 b13 tabs, d1.b3 b13 tabs, bh, bl, lh, q H1 b13 tabs1⟩
abbrev s_within : Stmt := topS 42
abbrev N_within : List Str := ["table", "low", "high"]
theorem sc_within : FnScope N_within ["table", "low", "high"] (defScope s_within) := ⟨rfl, rfl, rfl, by decide +kernel, rfl, by decide +kernel, by decide +kernel⟩
def spWithin (K : PySem.W.Frag) (TT : List Addr) : Sp := fun vs H Q _ => ∃ (v u1 u2 : V) (M : List (List Int)) (z : Int) (n : Nat) (l h : Rat) (wl wh : List Int), vs = [v, u1, u2] ∧ PlW K H v M z n l wl ∧ PlW K H v M z n h wh ∧ DpT K H u1 (frd l) ∧ DpT K H u2 (frd h) ∧ l ≤ h ∧ Tabs TT H ∧
  ∀ H', B3 TT H H' → Tabs TT H' → Q (.int ((n : Int) - (posI wh).length - ((n : Int) - (posI wl).length - (nulI wl).length))) H'
theorem PlW.b3 {K : PySem.W.Frag} {T : List Addr} {H H' : Hp} {v : V} {M : List (List Int)} {z : Int} {n : Nat} {x : Rat} {w : List Int} (h : PlW K H v M z n x w) (b : B3 T H H') (t : Tabs T H) : PlW K H' v M z n x w :=
  { h with dv := h.dv.b3 b t }
theorem ok_within (T : Gs K mg) {TT : List Addr} (D_check_stretch : Df P w K mg base "check_stretch" 8 ["table", "low", "high"] (spCheckSt K TT)) (D_root_counts : Df P w K mg base "root_counts" 8 ["table", "number"] (spRootCounts K TT)) (F : At K mg "within" s_within) : Df P w K mg base "within" 9 ["table", "low", "high"] (spWithin K TT) := by
  have sc := sc_within
  refine Df.mk' F sc (fun vs H Q E h => ?_) (fun _ _ _ _ _ _ us hl => match us, hl with | [_, _, _], _ => rfl) (fun f cdv A outer s H vs Q E hr h => ?_)
  · obtain ⟨v, u1, u2, M, z, n, l, h, wl, wh, rfl, _⟩ := h
    rfl
  · obtain ⟨v, u1, u2, M, z, n, l, h, wl, wh, rfl, pl, ph, d1, d2, lh, tabs, q⟩ := h
    refine ⟨_, (pss_cons (ps_expr (pe_fn D_check_stretch (by decide) hr (pa_cons (pv 0) (pa_cons (pv 1) (pa_cons (pv 2) pa_nil))))) (pss_one (ps_ret (pe_op op_sub (pe_op op_sub (pe_callB call_len_seq (by rfl) T.len PySem.boot_len (pa_cons (pv 0) pa_nil)) (pe_ix ix_tup (pe_fn D_root_counts (by decide) hr (pa_cons (pv 0) (pa_cons (pv 2) pa_nil))) pe_int (fun _ _ => rfl))) (pe_ix ix_tup (pe_fn D_root_counts (by decide) hr (pa_cons (pv 0) (pa_cons (pv 1) pa_nil))) pe_int (fun _ _ => rfl)))))), ?_⟩
    refine ⟨_, rfl, _, rfl, _, rfl, v, u1, u2, M, z, n, l, h, rfl, pl.dv, pl.sy, pl.n1, pl.n5, d1, d2, pl.bx, ph.bx, lh, tabs, fun H1 b1 t1 => ?_⟩
    have pl1 := pl.b3 b1 tabs
    have ph1 := ph.b3 b1 tabs
    have d11 := d1.b3 b1 tabs
    have d21 := d2.b3 b1 tabs
    obtain ⟨p, xs, rfl, hp, ax⟩ := dtTup pl1.dv
    have lx := dtAll_len ax
    rw [List.length_map, pl1.sy.len] at lx
    refine ⟨_, rfl, p, _, rfl, .inr hp, ?_⟩
    rw [lx]
    refine ⟨_, rfl, _, rfl, .ref p, u2, M, z, n, h, wh, rfl, ph1, d21, t1, fun H2 l2 b2 t2 hl2 => ?_⟩
    refine ⟨_, _, _, _, rfl, rfl, SqT.of hl2, at_of (j := 0) rfl rfl, _, _, rfl, rfl, ?_⟩
    refine ⟨_, rfl, _, rfl, .ref p, u1, M, z, n, l, wl, rfl, pl1.b3 b2 t1, d11.b3 b2 t1, t2, fun H3 l3 b3 t3 hl3 => ?_⟩
    refine ⟨_, _, _, _, rfl, rfl, SqT.of hl3, at_of (j := 2) rfl rfl, _, _, rfl, rfl, ?_⟩
    exact q H3 ((b1.trans b2).trans b3) t3
abbrev s_surely_within : Stmt := topS 38
abbrev N_surely_within : List Str := ["mean", "spread", "low", "high"]
theorem sc_surely_within : FnScope N_surely_within ["mean", "spread", "low", "high"] (defScope s_surely_within) := ⟨rfl, rfl, rfl, by decide +kernel, rfl, by decide +kernel, by decide +kernel⟩
theorem ok_surely_within (D_check_told_stretch : Df P w K mg base "check_told_stretch" 5 ["mean", "spread", "low", "high"] (spCheckStretch K)) (D_is_sure : Df P w K mg base "is_sure" 3 ["mean", "spread", "low", "high"] (spSure K)) (F : At K mg "surely_within" s_surely_within) :
    Df P w K mg base "surely_within" 6 ["mean", "spread", "low", "high"] (spSure K) := by
  have sc := sc_surely_within
  refine Df.mk' F sc (fun vs H Q E h => ?_) (fun _ _ _ _ _ _ us hl => match us, hl with | [_, _, _, _], _ => rfl) (fun f cdv A outer s H vs Q E hr h => ?_)
  · obtain ⟨v1, v2, v3, v4, m, s, l, h, rfl, _⟩ := h
    rfl
  · obtain ⟨v1, v2, v3, v4, m, s, l, h, rfl, d1, d2, d3, d4, o, q⟩ := h
    refine ⟨_, (pss_cons (ps_expr (pe_fn D_check_told_stretch (by decide) hr (pa_cons (pv 0) (pa_cons (pv 1) (pa_cons (pv 2) (pa_cons (pv 3) pa_nil)))))) (pss_one (ps_ret (pe_fn D_is_sure (by decide) hr (pa_cons (pv 0) (pa_cons (pv 1) (pa_cons (pv 2) (pa_cons (pv 3) pa_nil)))))))), ?_⟩
    refine ⟨_, rfl, _, rfl, _, rfl, _, rfl, v1, v2, v3, v4, m, s, l, h, rfl, d1, d2, d3, d4, o, ?_⟩
    exact ⟨_, rfl, _, rfl, _, rfl, _, rfl, v1, v2, v3, v4, m, s, l, h, rfl, d1, d2, d3, d4, o, q⟩
end
end V3
set_option maxHeartbeats 16000000
namespace V3
open PySem.Spec PySem L2 PyProof.Rows RZ GxR
/-- all but the well and the tables stands -/
def BW (a : Addr) (TT : List Addr) (H H' : Hp) : Prop := ∀ b o, b ≠ a → b ∉ TT → H b = some o → H' b = some o
theorem BW.trans {a : Addr} {TT : List Addr} {H H1 H2 : Hp} (x : BW a TT H H1) (y : BW a TT H1 H2) : BW a TT H H2 := fun b o h1 h2 e => y b o h1 h2 (x b o h1 h2 e)
theorem But.bw {a : Addr} {TT : List Addr} {H H' : Hp} (x : But a H H') : BW a TT H H' := fun b o h1 _ e => x b o h1 e
theorem B3.bw {a : Addr} {TT : List Addr} {H H' : Hp} (x : B3 TT H H') : BW a TT H H' := fun b o _ h2 e => x b o h2 e
theorem Same.bw {a : Addr} {TT : List Addr} {H H' : Hp} (x : Same H H') : BW a TT H H' := fun b o _ _ e => x b o e
/-- the well and the tables -/
structure Sd (a : Addr) (TT : List Addr) (k : Nat) (H : Hp) : Prop where
  w : Well H a k
  t : Tabs TT H
section
variable {a : Addr} {TT : List Addr} {k k' : Nat} {H H' : Hp}
theorem Sd.same (d : Sd a TT k H) (s : Same H H') : Sd a TT k H' := ⟨d.w.same s, d.t.same s⟩
theorem Sd.na (d : Sd a TT k H) {p : Addr} (hp : p ∈ TT) : p ≠ a := fun e => by
  obtain ⟨ps, hq, _⟩ := d.t p hp
  obtain ⟨xs, hx⟩ := d.w.lst
  rw [e, hx] at hq
  cases hq
theorem Sd.but (d : Sd a TT k H) (b : But a H H') (w : Well H' a k') : Sd a TT k' H' := ⟨w, fun p hp => by
  obtain ⟨ps, hq, x⟩ := d.t p hp
  exact ⟨ps, b _ _ (d.na hp) hq, x⟩⟩
theorem Sd.b3 (d : Sd a TT k H) (b : B3 TT H H') (t : Tabs TT H') : Sd a TT k H' := ⟨by
  obtain ⟨x, y, z, e, r⟩ := d.w
  exact ⟨x, y, z, b _ _ (fun h => d.na h rfl) e, r⟩, t⟩
theorem Sd.mono (d : Sd a TT k H) (h : k ≤ k') : Sd a TT k' H := ⟨d.w.mono h, d.t⟩
/-- a place beside the well and the tables -/
structure Off (a : Addr) (TT : List Addr) (D : Addr) : Prop where
  w : D ≠ a
  t : D ∉ TT
theorem Sd.off (d : Sd a TT k H) {D : Addr} (h : H D = none) : Off a TT D := ⟨Ne.symm (d.w.ne h), fun hp => by
  obtain ⟨ps, hq, _⟩ := d.t D hp
  rw [h] at hq
  cases hq⟩
theorem BW.at (b : BW a TT H H') {D : Addr} {o : HO} (f : Off a TT D) (e : H D = some o) : H' D = some o := b D o f.w f.t e
theorem Sd.kt (d : Sd a TT k H) (b : BW a TT H H') : KeepT H H' := by
  refine ⟨fun c xs e => b c _ (fun z => ?_) (fun z => ?_) e, fun c o u e => b c _ (fun z => ?_) (fun z => ?_) e⟩
  · obtain ⟨xs, hx⟩ := d.w.lst
    rw [z, hx] at e
    cases e
  · obtain ⟨ps, hq, _⟩ := d.t c z
    rw [e] at hq
    cases hq
  · obtain ⟨xs, hx⟩ := d.w.lst
    rw [z, hx] at e
    cases e
  · obtain ⟨ps, hq, _⟩ := d.t c z
    rw [e] at hq
    cases hq
theorem Sd.offL (d : Sd a TT k H) {D : Addr} {xs : List V} (e : H D = some (.lst xs)) (n : a ≠ D) : Off a TT D := ⟨Ne.symm n, fun hp => by
  obtain ⟨ps, hq, _⟩ := d.t D hp
  rw [e] at hq
  cases hq⟩
theorem Mx.bw {p : Addr} {ps : List Addr} {M : List (List Int)} (h : Mx H p ps M) (b : BW a TT H H') (f : Off a TT p) (g : ∀ x ∈ ps, Off a TT x) : Mx H' p ps M :=
  ⟨b.at f h.at_, h.out, h.nd, h.len, fun i q r h1 h2 => b.at (g q (List.mem_of_getElem? h1)) (h.row i q r h1 h2)⟩
theorem Sd.offMx (d : Sd a TT k H) {p : Addr} {ps : List Addr} {M : List (List Int)} (h : Mx H p ps M) (n : a ≠ p) (m : ∀ x ∈ ps, a ≠ x) : Off a TT p ∧ ∀ x ∈ ps, Off a TT x := ⟨d.offL h.at_ n, fun x hx => by
  obtain ⟨i, hi⟩ := List.getElem?_of_mem hx
  have hl : i < M.length := by
    (have := (List.getElem?_eq_some_iff.mp hi).1)
    rw [h.len] at this
    exact this
  exact d.offL (h.row i x _ hi (List.getElem?_eq_getElem hl)) (m x hx)⟩
end
theorem fun_keep {K : PySem.W.Frag} {H H' : Hp} {v : V} {d : PyData} (s : Same H H') (h : DpT K H v d) : DpT K H' v d := DpT.keep (Same.kt s) h
theorem mkP {H : Hp} {p : Addr} {o : HO} (h : H p = none) : ∃ H', upd H p o = H' ∧ Same H H' ∧ H' p = some o := ⟨_, rfl, same_upd h, upd_same⟩
section
variable {mg : Str → Option Value} {base : Heap} {K : PySem.W.Frag} {P : Program} {w : World}
abbrev s__law_right : Stmt := topS 64
abbrev N__law_right : List Str := ["well", "rows", "scale", "roots", "size", "table", "parts", "mean", "spread", "turn", "low", "high", "far", "wide", "due", "inside", "root"]
theorem sc__law_right : FnScope N__law_right ["well"] (defScope s__law_right) := ⟨rfl, rfl, rfl, by decide +kernel, rfl, by decide +kernel, by decide +kernel⟩
theorem ok_right_b (T : Gs K mg) {TT : List Addr} (D__law_draw : Df P w K mg base "_law_draw" 1 ["well", "size"] spDraw) (D__law_lowest : Df P w K mg base "_law_lowest" 2 ["upper", "lower"] spFrac) (D__law_number : Df P w K mg base "_law_number" 3 ["well"] spNumber)
    (D__law_ends : Df P w K mg base "_law_ends" 4 ["well", "mean", "spread", "roots"] (spEnds K)) (D__law_surely : Df P w K mg base "_law_surely" 4 ["mean", "spread", "low", "high"] (spSure K)) (D_surely_within : Df P w K mg base "surely_within" 6 ["mean", "spread", "low", "high"] (spSure K))
    {f : Addr} {cdv : Value} {A : Around} {outer : List Env} {s0 : Shared} {H0 : Hp} {E : XK} (hr : Room 9 (A.deeper (envOfC "_law_right" (defScope s__law_right) s0.heap.objs.size f cdv))) :
    ∃ t, PSs (cxOf CX0 P w K mg base N__law_right "_law_right" (defScope s__law_right) f cdv A outer s0 H0 E).nox ((defBody s__law_right).drop 6) t ∧
      ∀ (Q : VK) (Hs : Hp) (a Dr : Addr) (us : List V) (qs : List Rat) (k : Nat) (y1 y2 y4 y5 y6 y7 y8 y9 y10 y11 y12 y13 y14 y15 y16 : Option V), Sd a TT k Hs → k ≤ 1000 → FrL K Hs Dr us qs → qs.length ≤ 5 → a ≠ Dr → (∀ H', BW a TT Hs H' → Tabs TT H' → Q (.bl true) H') →
        t { nx := fun _ H' => Q .non H', rt := Q } [some (.ref a), y1, y2, some (.ref Dr), y4, y5, y6, y7, y8, y9, y10, y11, y12, y13, y14, y15, y16] Hs := by
  have sc := sc__law_right
  refine ⟨_, (pss_cons (ps_asg (pe_fn D__law_ends (by decide) hr (pa_cons (pv 0) (pa_cons (pe_fn D__law_number (by decide) hr (pa_cons (pv 0) pa_nil)) (pa_cons (pe_tup (pa_cons pe_int (pa_cons pe_int pa_nil))) (pa_cons (pv 3) pa_nil))))) (pg_tup rfl (pgs_cons (pg_name (i := 10) sc.nd rfl (.inr rfl)) (pgs_cons (pg_name (i := 11) sc.nd rfl (.inr rfl)) pgs_nil)))) (pss_cons (ps_par (i := 12) (j := 13) rfl sc.nd rfl rfl (by decide) rfl rfl (pa_cons (pe_fn D__law_number (by decide) hr (pa_cons (pv 0) pa_nil)) (pa_cons (pe_fn D__law_lowest (by decide) hr (pa_cons (pe_fn D__law_draw (by decide) hr (pa_cons (pv 0) (pa_cons pe_int pa_nil))) (pa_cons (pe_op op_add pe_int (pe_fn D__law_draw (by decide) hr (pa_cons (pv 0) (pa_cons pe_int pa_nil)))) pa_nil))) pa_nil)) (by rfl)) (pss_one (ps_ret (pe_cmpR op_eq (pe_callB call_repr_bl (by rfl) T.repr (by decide +kernel) (pa_cons (pe_fn D_surely_within (by decide) hr (pa_cons (pv 12) (pa_cons (pv 13) (pa_cons (pv 10) (pa_cons (pv 11) pa_nil))))) pa_nil)) (pe_callB call_repr_bl (by rfl) T.repr (by decide +kernel) (pa_cons (pe_fn D__law_surely (by decide) hr (pa_cons (pv 12) (pa_cons (pv 13) (pa_cons (pv 10) (pa_cons (pv 11) pa_nil))))) pa_nil)) (nomark _)))))), ?_⟩
  intro Q Hs a Dr us qs k y1 y2 y4 y5 y6 y7 y8 y9 y10 y11 y12 y13 y14 y15 y16 sd kl fl l5 hne q
  refine ⟨_, rfl, _, rfl, a, k, rfl, sd.w, by omega, fun H1 p1 x1 b1 w1 h1 q1 => ?_⟩
  have sd1 := sd.but b1 w1
  refine ⟨by show 2 ≤ sizeLine; decide, fun p2 hp2 => ?_⟩
  obtain ⟨H2, e2, s2, a2⟩ := mkP (o := .tup [.int 1, .int 1]) hp2
  rw [e2]
  have sd2 := sd1.same s2
  have fl2 := (fl.but b1 sd.w hne).same s2
  refine ⟨_, rfl, a, Dr, _, _, us, qs, x1, 1, k + 3, rfl, sd2.w, by omega, fl2, l5, hne, fqO (s2 _ _ h1), fqI a2 rfl rfl, q1, bqOne.mono (by decide), by decide +kernel, fun H3 p3 v1 v2 l h b3 w3 h3 d1 d2 oa => ?_⟩
  have sd3 := sd2.but b3 w3
  refine ⟨p3, _, rfl, SqT.of h3, rfl, _, _, rfl, _, _, rfl, rfl, ?_⟩
  refine ⟨_, rfl, a, k + 3 + 9, rfl, sd3.w, by omega, fun H4 p4 x4 b4 w4 h4 q4 => ?_⟩
  have sd4 := sd3.but b4 w4
  refine ⟨_, rfl, a, _, _, rfl, sd4.w, by omega, by decide, by decide, fun H5 d5 b5 w5 d50 d5l => ?_⟩
  have sd5 := sd4.but b5 w5
  refine ⟨_, rfl, a, _, _, rfl, sd5.w, by omega, by decide, by decide, fun H6 d6 b6 w6 d60 d6l => ?_⟩
  have sd6 := sd5.but b6 w6
  refine ⟨_, _, rfl, rfl, _, _, rfl, by omega, lt9000 (by omega) (by omega), fun H7 p7 s7 h7 => ?_⟩
  have sd7 := sd6.same s7
  refine ⟨_, _, rfl, ?_⟩
  have bw47 : BW a TT H4 H7 := b5.bw.trans (b6.bw.trans (Same.bw s7))
  have bw37 : BW a TT H3 H7 := b4.bw.trans bw47
  have dl := DpT.keep (sd3.kt bw37) d1
  have dh := DpT.keep (sd3.kt bw37) d2
  have df := DpT.keep (sd4.kt bw47) (fqO (K := K) h4)
  have dw := fqO (K := K) h7
  have w0 : 0 ≤ Rat.divInt d5 (1 + d6) := Rat.divInt_nonneg d50 (by omega)
  have bwd : Bq 40 (Rat.divInt d5 (1 + d6)) := bq_small (by omega) (by omega) (by omega)
  have of : Oa x4 (Rat.divInt d5 (1 + d6)) l h := ⟨q4, bwd, oa.bl, oa.bh, w0, oa.lh⟩
  refine ⟨_, rfl, _, rfl, _, rfl, _, rfl, _, _, _, _, x4, _, l, h, rfl, df, dw, dl, dh, of, fun H8 s8 => ?_⟩
  refine ⟨_, rfl, ?_⟩
  refine ⟨_, rfl, _, rfl, _, rfl, _, rfl, _, _, _, _, x4, _, l, h, rfl, fqSame df s8, fqSame dw s8, fqSame dl s8, fqSame dh s8, of, fun H9 s9 => ?_⟩
  refine ⟨_, rfl, ?_⟩
  refine ⟨rfl, ?_⟩
  have sd9 := (sd7.same s8).same s9
  have fin := q H9 (b1.bw.trans ((Same.bw s2).trans (b3.bw.trans (bw37.trans ((Same.bw s8).trans (Same.bw s9)))))) sd9.t
  simpa using fin
end
end V3
namespace V3
open PySem.Spec PySem L2 PyProof.Rows RZ GxR
/-! ### four keywords, the last parameter first -/
structure DfK4 (P : Program) (w : World) (K : PySem.W.Frag) (mg : Str → Option Value) (base : Heap) (x : Str) (k : Nat) (p1 p2 p3 p4 : Str) (sp : Sp) : Prop where
  ex : ∃ (f : Addr) (fd : FuncData), mg x = some (.ref f) ∧ PySem.W.keepIn K (.ref f) = true ∧ KBinds K fd [p1, p2, p3, p4] [p4, p3, p2, p1] (fun us ws => us ++ us ++ us ++ us ++ us ++ ws.reverse) (fun us ws => us ++ us ++ us ++ us ++ us ++ ws.reverse) ∧ FnOk P w K mg base CX0 k f fd [p1, p2, p3, p4] sp
theorem Df.kw4 {P : Program} {w : World} {K : PySem.W.Frag} {mg : Str → Option Value} {base : Heap} {x p1 p2 p3 p4 : Str} {st : Stmt} {k : Nat} {sp : Sp} (D : Df P w K mg base x k [p1, p2, p3, p4] sp) (F : At K mg x st)
    (hb : ∀ (kV doc pm : Value) (an : Option Addr) (cdv ct : Value) (u1 u2 u3 u4 : Value), bindArgs (PySem.W.fnOf x x (defArgs st) (defBody st) (defScope st) .none kV doc pm an cdv ct) ⟨[], [(p4, u4), (p3, u3), (p2, u2), (p1, u1)]⟩ = pure [(p1, u1), (p2, u2), (p3, u3), (p4, u4)]) :
    DfK4 P w K mg base x k p1 p2 p3 p4 sp := by
  obtain ⟨f, fd, g, kp, b, G, oc, od, osl, lk⟩ := D.ex
  obtain ⟨f', fd', g', F'⟩ := F.ex
  rw [g] at g'
  cases g'
  obtain ⟨oc', od', kV, doc, pm, an, cdv, ct, osl', e, lk', _⟩ := F'.ex
  rw [lk] at lk'
  cases lk'
  refine ⟨f, fd, g, kp, ⟨fun s us ws hk hl => ?_, fun r1 r2 => (((((r1.append r1).append r1).append r1).append r1)).append (Vals.rev r2)⟩, G⟩
  simp only [List.length_append, List.length_reverse, List.length_cons, List.length_nil] at hl hk
  have hu : us = [] := by
    cases us with
    | nil => rfl
    | cons a r =>
      simp only [List.length_cons] at hl
      omega
  subst hu
  match ws, hl with
  | [u4, u3, u2, u1], _ =>
    subst e
    exact .of_eq (hb kV doc pm an cdv ct u1 u2 u3 u4)
theorem pe_fnK4 {X : Cx} {x p1 p2 p3 p4 : Str} {p pos : Pos} {kws : List Keyword} {tk : TA} {k k0 : Nat} {sp : Sp} (D : DfK4 X.prog X.w X.K X.mg X.base x k p1 p2 p3 p4 sp) (hk0 : k ≤ k0) (hr : Room k0 X.A) (hkw : PK X kws tk)
    (hg : Gl X x := by rfl) (hdb : (x == ("__debug__" : Str)) = false := by decide) (hall : (backToKw pos (keywordEach kws X.env)).all (·.1.isSome) = true := by rfl) (hks : (backToKw pos (keywordEach kws X.env)).filterMap (·.1) = [p4, p3, p2, p1] := by rfl)
    (plain : ((backTo pos (starEach [] X.env)).any (·.1) || (backToKw pos (keywordEach kws X.env)).any (·.1.isNone)) = false := by rfl) :
    PE X (.Call (.Name x p) [] kws pos) (tFnK sp tk) := by
  obtain ⟨f, fd, hm, hk, hb, F⟩ := D.ex
  (refine ⟨fun pins s σ H Q I h => ?_⟩)
  (refine wpAny_Call_Name_kw (ld_glob I hg hm ?_ hdb))
  refine PySem.W.callWith_KW0 (h₀ := X.base) I.ok.mod.kin hk hall (thn (hkw.run pos pins s σ H _ I h) fun ws s2 ⟨zs, H2, I2, rz, q2⟩ => ⟨I2.kIn, ?_⟩) plain
  rw [hks]
  exact run_fnk (us := []) (vs := []) F (hr.mono hk0) hb pass0 I2 .nil rz q2
theorem FrL.bw {K : PySem.W.Frag} {H H' : Hp} {a p : Addr} {TT : List Addr} {us : List V} {qs : List Rat} {k : Nat} (h : FrL K H p us qs) (d : Sd a TT k H) (b : BW a TT H H') (n : a ≠ p) : FrL K H' p us qs :=
  ⟨b.at (d.offL h.at_ n) h.at_, h.dat.keep (d.kt b), h.n1, h.n8, h.bq⟩
/-- roots from l to h, counted from both sides -/
theorem count_in {l h : Rat} (lh : l ≤ h) : ∀ qs : List Rat, (qs.filter fun r => decide (l < r)).length + (qs.filter fun r => decide (l = r)).length = (qs.filter fun r => decide (l ≤ r) && decide (r ≤ h)).length + (qs.filter fun r => decide (h < r)).length
  | [] => rfl
  | r :: qs => by
    have ih := count_in lh qs
    rw [List.filter_cons, List.filter_cons, List.filter_cons, List.filter_cons]
    by_cases c1 : l < r
    · have c2 : ¬ l = r := by grind
      have c3 : l ≤ r := by grind
      by_cases c4 : h < r
      · have c5 : ¬ r ≤ h := by grind
        simp only [c1, c2, c3, c4, c5, decide_true, decide_false, Bool.and_false, if_true, if_false, List.length_cons, Bool.false_eq_true]
        omega
      · have c5 : r ≤ h := by grind
        simp only [c1, c2, c3, c4, c5, decide_true, decide_false, Bool.and_true, if_true, if_false, List.length_cons, Bool.false_eq_true]
        omega
    · by_cases c2 : l = r
      · subst c2
        have c3 : l ≤ l := Rat.le_refl
        have c4 : ¬ h < l := by grind
        simp only [c1, c3, c4, lh, decide_true, decide_false, Bool.and_true, if_true, if_false, List.length_cons, Bool.false_eq_true]
        omega
      · have c3 : ¬ l ≤ r := by grind
        have c4 : ¬ h < r := by grind
        simp only [c1, c2, c3, c4, decide_true, decide_false, Bool.false_and, if_true, if_false, List.length_cons, Bool.false_eq_true]
        omega
section
variable {mg : Str → Option Value} {base : Heap} {K : PySem.W.Frag} {P : Program} {w : World}
theorem ok_right_c (T : Gs K mg) {TT : List Addr} (D__law_draw : Df P w K mg base "_law_draw" 1 ["well", "size"] spDraw) (D__law_lowest : Df P w K mg base "_law_lowest" 2 ["upper", "lower"] spFrac) (D__law_number : Df P w K mg base "_law_number" 3 ["well"] spNumber)
    (D__law_ends : Df P w K mg base "_law_ends" 4 ["well", "mean", "spread", "roots"] (spEnds K)) (D__law_surely : Df P w K mg base "_law_surely" 4 ["mean", "spread", "low", "high"] (spSure K)) (D__law_up_to : Df P w K mg base "_law_up_to" 1 ["one", "two"] (spR2b K fun x y => decide (x ≤ y)))
    (D_surely_within : Df P w K mg base "surely_within" 6 ["mean", "spread", "low", "high"] (spSure K)) (DK_surely_within : DfK4 P w K mg base "surely_within" 6 "mean" "spread" "low" "high" (spSure K)) (D_within : Df P w K mg base "within" 9 ["table", "low", "high"] (spWithin K TT))
    {f : Addr} {cdv : Value} {A : Around} {outer : List Env} {s0 : Shared} {H0 : Hp} {E : XK} (hr : Room 9 (A.deeper (envOfC "_law_right" (defScope s__law_right) s0.heap.objs.size f cdv))) :
    ∃ t, PSs (cxOf CX0 P w K mg base N__law_right "_law_right" (defScope s__law_right) f cdv A outer s0 H0 E).nox ((defBody s__law_right).drop 5) t ∧
      ∀ (Q : VK) (Hs : Hp) (a Dr l : Addr) (vm vs : V) (us : List V) (e roots ns : List Int) (n k : Nat) (sc2 : Int) (y1 y2 y4 y6 y9 y10 y11 y12 y13 y14 y15 y16 : Option V), Sd a TT k Hs → k ≤ 500 → FrL K Hs Dr us (roots.map fun c => Rat.divInt c sc2) → a ≠ Dr →
        e.length = n → roots.length = n → 1 ≤ n → n ≤ 5 → 0 < dotL e e → 1 ≤ sc2 → DpT K Hs (.ref l) (toldP (framedM (mirM e) (alongM roots)) (sc2 * (dotL e e * dotL e e))) → Sy n 90 (framedM (mirM e) (alongM roots)) → (sc2 * (dotL e e * dotL e e)).natAbs < 2 ^ 60 →
        ns.length = n → (∀ z ∈ ns, 0 ≤ z) → 0 < ns.sum → DpT K Hs vm (frd (shM (roots.map fun c => Rat.divInt c sc2) ns)) → DpT K Hs vs (frd (shS (roots.map fun c => Rat.divInt c sc2) ns)) → Bq 20 (shM (roots.map fun c => Rat.divInt c sc2) ns) → Bq 40 (shS (roots.map fun c => Rat.divInt c sc2) ns) → 0 ≤ shS (roots.map fun c => Rat.divInt c sc2) ns →
        (∀ H', BW a TT Hs H' → Tabs TT H' → Q (.bl true) H') →
        t { nx := fun _ H' => Q .non H', rt := Q } [some (.ref a), y1, y2, some (.ref Dr), y4, some (.ref l), y6, some vm, some vs, y9, y10, y11, y12, y13, y14, y15, y16] Hs := by
  have sc := sc__law_right
  obtain ⟨tb, pb, hb⟩ := ok_right_b T D__law_draw D__law_lowest D__law_number D__law_ends D__law_surely D_surely_within (TT := TT) (outer := outer) (H0 := H0) (E := E) hr
  refine ⟨_, (pss_cons (ps_for PassesOwn.never rfl (pi_range1 rfl T.range (pa_cons pe_int pa_nil)) (pg_name (i := 9) sc.nd rfl (.inl rfl)) (pss_cons (ps_asg (pe_fn D__law_ends (by decide) hr (pa_cons (pv 0) (pa_cons (pv 7) (pa_cons (pv 8) (pa_cons (pv 3) pa_nil))))) (pg_tup rfl (pgs_cons (pg_name (i := 10) sc.nd rfl (.inr rfl)) (pgs_cons (pg_name (i := 11) sc.nd rfl (.inr rfl)) pgs_nil)))) (pss_cons (ps_set (i := 14) sc.nd rfl (.inl rfl) (pe_fn D__law_surely (by decide) hr (pa_cons (pv 7) (pa_cons (pv 8) (pa_cons (pv 10) (pa_cons (pv 11) pa_nil)))))) (pss_cons (ps_setLc (i := 15) (own := [("root", 16)]) (g := gName 16) rfl sc.nd rfl rfl (sw_true rfl rfl rfl (by decide +kernel)) (pi_list (pv 3)) (blkOk_by (own := [("root", 16)]) (N := N__law_right) (sc := defScope s__law_right) (by decide +kernel)) (fun _ _ _ _ _ => (pg_name (i := 16) sc.nd rfl (.inl rfl))) (fun _ _ _ _ _ => (pts_one (PW.pt (pw_and (pt_val (pe_fn D__law_up_to (by decide) hr (pa_cons (pv 10) (pa_cons (pv 16) pa_nil)))) (pw_and1 (pt_val (pe_fn D__law_up_to (by decide) hr (pa_cons (pv 16) (pa_cons (pv 11) pa_nil))))))))) (fun _ _ _ _ _ => (pv 16))) (pss_cons (ps_if (PW.pt (pw_or (pt_cmpR op_ne (pe_callB call_repr_bl (by rfl) T.repr (by decide +kernel) (pa_cons (pe_fn D_surely_within (by decide) hr (pa_cons (pv 7) (pa_cons (pv 8) (pa_cons (pv 10) (pa_cons (pv 11) pa_nil))))) pa_nil)) (pe_callB call_repr_bl (by rfl) T.repr (by decide +kernel) (pa_cons (pv 14) pa_nil)) (nomark _)) (pw_or1 (PW.pt (pw_and (pt_val (pv 14)) (pw_and1 (pt_cmpR (op_eqNil hr.units) (pv 15) (pe_lst pa_nil) (nomark _)))))))) (pss_one (ps_ret pe_bl)) pss_nil) (pss_cons (ps_if (pt_cmpR op_ne (pe_callB call_repr_bl (by rfl) T.repr (by decide +kernel) (pa_cons (pe_fnK4 DK_surely_within (by decide) hr (pk_cons (pv 11) (pk_cons (pv 10) (pk_cons (pv 8) (pk_cons (pv 7) pk_nil))))) pa_nil)) (pe_callB call_repr_bl (by rfl) T.repr (by decide +kernel) (pa_cons (pv 14) pa_nil)) (nomark _)) (pss_one (ps_ret pe_bl)) pss_nil) (pss_one (ps_if (PW.pt (pw_and (pt_cmpR op_eq (pv 9) pe_int (nomark _)) (pw_and1 (pt_cmpR op_ne (pe_callB SkE.call_repr_int (by rfl) T.repr (by decide +kernel) (pa_cons (pe_fn D_within (by decide) hr (pa_cons (pv 5) (pa_cons (pv 10) (pa_cons (pv 11) pa_nil)))) pa_nil)) (pe_callB SkE.call_repr_int (by rfl) T.repr (by decide +kernel) (pa_cons (pe_callB call_len_seq (by rfl) T.len PySem.boot_len (pa_cons (pv 15) pa_nil)) pa_nil)) (nomark _))))) (pss_one (ps_ret pe_bl)) pss_nil)))))))) pb), ?_⟩
  intro Q Hs a Dr l vm vs us e roots ns n k sc2 y1 y2 y4 y6 y9 y10 y11 y12 y13 y14 y15 y16 sd kl fl hne he lr n1 n5 e0 s1 dl sy zb ln kn S0 dm ds bm bs ss0 q
  have hqs : (roots.map fun c => Rat.divInt c sc2).length = n := by rw [List.length_map, lr]
  refine ⟨_, rfl, by decide, by decide, for_range (lo := 0) (n := _) (fun i σ H' => (∃ y9 y10 y11 y12 y13 y14 y15 y16, σ = [some (.ref a), y1, y2, some (.ref Dr), y4, some (.ref l), y6, some vm, some vs, y9, y10, y11, y12, y13, y14, y15, y16]) ∧ Sd a TT (k + 9 * i) H' ∧ BW a TT Hs H') ⟨⟨_, _, _, _, _, _, _, _, rfl⟩, sd, fun _ _ _ _ h => h⟩ ?_ ?_⟩
  · rintro i σ H1 hi ⟨⟨y9, y10, y11, y12, y13, y14, y15, y16, rfl⟩, sd1, bw1⟩
    have hi3 : i < 3 := hi
    have fl1 := fl.bw sd bw1 hne
    have dm1 := DpT.keep (sd.kt bw1) dm
    have ds1 := DpT.keep (sd.kt bw1) ds
    refine ⟨_, rfl, _, rfl, _, rfl, _, rfl, a, Dr, vm, vs, us, _, _, _, k + 9 * i, rfl, sd1.w, by omega, fl1, by omega, hne, dm1, ds1, bm, bs, ss0, fun H2 p2 v1 v2 lo hi2 b2 w2 h2 d1 d2 oa => ?_⟩
    have sd2 := sd1.but b2 w2
    refine ⟨p2, _, rfl, SqT.of h2, rfl, _, _, rfl, _, _, rfl, rfl, ?_⟩
    have bw2 := bw1.trans b2.bw
    have fl2 := fl.bw sd bw2 hne
    have dm2 := DpT.keep (sd.kt bw2) dm
    have ds2 := DpT.keep (sd.kt bw2) ds
    refine ⟨_, rfl, _, rfl, _, rfl, _, rfl, _, _, _, _, _, _, lo, hi2, rfl, dm2, ds2, d1, d2, oa, fun H3 s3 => ?_⟩
    have bw3 := bw2.trans (Same.bw s3)
    have fl3 := fl2.same s3
    have d13 := fqSame d1 s3
    have d23 := fqSame d2 s3
    have bl4 : Bq 4000 lo := oa.bl.mono (by decide)
    have bh4 : Bq 4000 hi2 := oa.bh.mono (by decide)
    -- inside
    refine ⟨_, rfl, Dr, rfl, ⟨_, SqL.of fl3.at_⟩, fun D hD => lc_list (K := K) (a := Dr) (xs := us) (fun j H' => Same H3 H' ∧ ∃ xs : List V, H' D = some (.lst xs) ∧ xs.length = (((roots.map fun c => Rat.divInt c sc2).take j).filter fun r => decide (lo ≤ r) && decide (r ≤ hi2)).length)
      ⟨same_upd hD, [], upd_same, rfl⟩ (fun j H' _ h => SqL.of (h.1 _ _ fl3.at_)) ?_ ?_⟩
    · rintro j x H4 hj ⟨sm, xs, hx, lx⟩
      obtain ⟨r, hr1, dr⟩ := fqGetV fl3.dat hj
      have br : Bq 4000 r := (fl3.bq r (List.mem_of_getElem? hr1)).mono (by decide)
      have dr4 := fqSame dr sm
      have et := take_more hr1
      have lxs : xs.length ≤ 5 := by
        rw [lx]
        refine Nat.le_trans (List.length_filter_le _ _) ?_
        rw [List.length_take, hqs]
        omega
      refine ⟨rfl, ?_⟩
      refine ⟨_, rfl, _, rfl, _, _, lo, r, rfl, fqSame d13 sm, dr4, bl4, br, _, rfl, if2 (fun c => ?_) (fun c => ?_)⟩
      · have c1 : lo ≤ r := of_decide_eq_true c
        refine ⟨_, rfl, _, rfl, _, _, r, hi2, rfl, dr4, fqSame d23 sm, br, bh4, _, rfl, if2 (fun c2 => ?_) (fun c2 => ?_)⟩
        · have c3 : r ≤ hi2 := of_decide_eq_true c2
          refine ⟨_, rfl, xs, hx, small1000 (by omega), same_updN sm hD, _, upd_same, ?_⟩
          rw [et, List.filter_append, List.length_append, List.length_append, lx, List.filter_cons_of_pos (by simp [c1, c3])]
          rfl
        · have c3 : ¬ r ≤ hi2 := by simpa using c2
          refine ⟨sm, xs, hx, ?_⟩
          rw [et, List.filter_append, List.filter_cons_of_neg (by simp [c3]), List.filter_nil, List.append_nil]
          exact lx
      · have c1 : ¬ lo ≤ r := by simpa using c
        refine ifF rfl ⟨sm, xs, hx, ?_⟩
        rw [et, List.filter_append, List.filter_cons_of_neg (by simp [c1]), List.filter_nil, List.append_nil]
        exact lx
    rintro H4 ⟨sm, xs, hx, lx⟩
    have lus : us.length = n := by rw [fqLen fl.dat, hqs]
    rw [lus, List.take_of_length_le (by omega)] at lx
    have s34 := s3.trans sm
    have dm4 := fqSame dm2 s34
    have ds4 := fqSame ds2 s34
    have d14 := fqSame d1 s34
    have d24 := fqSame d2 s34
    refine ⟨_, rfl, _, rfl, _, rfl, _, rfl, vm, vs, v1, v2, _, _, lo, hi2, rfl, dm4, ds4, d14, d24, oa, fun H5 s5 => ?_⟩
    refine ⟨_, rfl, ?_⟩
    refine ⟨_, rfl, _, rfl, ?_⟩
    refine ⟨rfl, _, rfl, ifF (by simp) ?_⟩
    refine ⟨_, rfl, _, rfl, if2 (fun c => ?a) (fun c => ?b)⟩
    case' a =>
      refine ⟨_, rfl, by show 0 ≤ sizeLine; decide, fun pe hpe => ?_⟩
      obtain ⟨H6, e6, s6, a6⟩ := mkP (o := .lst []) hpe
      rw [e6]
      have nz : xs ≠ [] := fun z => by
        obtain ⟨r, hr1, c1, c2⟩ := sure_some oa.lh (by rw [hqs]; exact ln) kn S0 c
        rw [z] at lx
        have m : r ∈ (roots.map fun c => Rat.divInt c sc2).filter fun r => decide (lo ≤ r) && decide (r ≤ hi2) := List.mem_filter.mpr ⟨hr1, by simp [c1, c2]⟩
        rw [List.eq_nil_of_length_eq_zero lx.symm] at m
        cases m
      refine ⟨D, pe, xs, rfl, rfl, SqL.of (s6 _ _ (s5 _ _ hx)), SqL.of a6, _, rfl, ifF (by simp [nz]) ?_⟩
    case' b =>
      refine ifF rfl ?_
      obtain ⟨H6, e6⟩ : ∃ H6, H6 = H5 := ⟨_, rfl⟩
      have s6 : Same H5 H6 := by rw [e6]; exact Same.refl _
      rw [← e6]
    all_goals
      have s46 := s5.trans s6
      have hx6 := s46 _ _ hx
      refine ⟨_, rfl, _, rfl, _, rfl, _, rfl, vm, vs, v1, v2, _, _, lo, hi2, rfl, fqSame dm4 s46, fqSame ds4 s46, fqSame d14 s46, fqSame d24 s46, oa, fun H7 s7 => ?_⟩
      refine ⟨_, rfl, ?_⟩
      refine ⟨_, rfl, _, rfl, ?_⟩
      refine ⟨rfl, _, rfl, ifF (by simp) ?_⟩
      have s27 := s34.trans (s46.trans s7)
      have sd7 := sd2.same s27
      have bw7 := bw2.trans (Same.bw s27)
      refine ⟨_, rfl, rfl, _, rfl, if2 (fun c3 => ?_) (fun c3 => ?_)⟩
      · obtain ⟨wl, pl1, pl2, pl3, pl4⟩ := planted_w (n := n) he lr e0 (by omega : 0 < sc2) lo
        obtain ⟨wh, ph1, ph2, ph3, ph4⟩ := planted_w (n := n) he lr e0 (by omega : 0 < sc2) hi2
        have dl7 := DpT.keep (sd.kt bw7) dl
        have z0 : 0 < sc2 * (dotL e e * dotL e e) := Int.mul_pos (by omega) (Int.mul_pos e0 e0)
        refine ⟨_, rfl, _, rfl, _, rfl, .ref l, v1, v2, _, _, n, lo, hi2, wl, wh, rfl, ⟨dl7, sy, n1, n5, z0, zb, bl4, pl1, pl2⟩, ⟨dl7, sy, n1, n5, z0, zb, bh4, ph1, ph2⟩, fqSame d1 s27, fqSame d2 s27, oa.lh, sd7.t, fun H8 b8 t8 => ?_⟩
        have ev : ((n : Int) - (posI wh).length - ((n : Int) - (posI wl).length - (nulI wl).length)) = (xs.length : Int) := by
          have cc := count_in oa.lh (roots.map fun c => Rat.divInt c sc2)
          rw [pl3, pl4, ph3, lx]
          omega
        have lx5 : xs.length ≤ 5 := by
          rw [lx]
          refine Nat.le_trans (List.length_filter_le _ _) ?_
          rw [hqs]
          exact n5
        rw [ev]
        have sml : ((xs.length : Nat) : Int).natAbs.log2 < 1920 := by
          rw [Int.natAbs_natCast]
          have h1 : xs.length.log2 ≤ xs.length := Nat.log2_le_self _
          omega
        refine ⟨_, rfl, sml, ?_⟩
        refine ⟨_, rfl, D, xs, rfl, .inl (SqL.of (b8.lstS sd7.t (s7 _ _ hx6))), ?_⟩
        refine ⟨_, rfl, sml, ?_⟩
        refine ⟨rfl, _, rfl, ifF (by simp) ?_⟩
        exact ⟨⟨_, _, _, _, _, _, _, _, rfl⟩, (sd7.b3 b8 t8).mono (by omega), bw7.trans b8.bw⟩
      · exact ifF rfl ⟨⟨_, _, _, _, _, _, _, _, rfl⟩, sd7.mono (by omega), bw7⟩
  · rintro σ H1 ⟨⟨y9, y10, y11, y12, y13, y14, y15, y16, rfl⟩, sd1, bw1⟩
    exact hb Q H1 a Dr us _ _ _ _ _ _ _ _ _ _ _ _ _ _ _ _ _ sd1 (by show k + 9 * 3 ≤ 1000; omega) (fl.bw sd bw1 hne) (by omega) hne fun H' b t => q H' (bw1.trans b) t
end
end V3
namespace V3
open PySem.Spec PySem L2 PyProof.Rows RZ GxR
section
variable {mg : Str → Option Value} {base : Heap} {K : PySem.W.Frag} {P : Program} {w : World}
def spRight (TT : List Addr) : Sp := fun vs H Q _ => ∃ a : Addr, vs = [.ref a] ∧ Well H a 0 ∧ Tabs TT H ∧ ∀ H', BW a TT H H' → Tabs TT H' → Q (.bl true) H'
theorem set_sum : ∀ (ns : List Int) (i : Nat), i < ns.length → (∀ z ∈ ns, 0 ≤ z ∧ z ≤ 30) → 0 < (ns.set i 1).sum
  | [], _, h, _ => absurd h (by simp)
  | x :: r, 0, _, k => by
    have := (sum_bd30 r fun y hy => k y (List.mem_cons_of_mem _ hy)).1
    show 0 < (1 :: r).sum
    rw [List.sum_cons]
    omega
  | x :: r, i + 1, h, k => by
    have ih := set_sum r i (by simpa using h) fun y hy => k y (List.mem_cons_of_mem _ hy)
    have := (k x List.mem_cons_self).1
    show 0 < (x :: r.set i 1).sum
    rw [List.sum_cons]
    omega
theorem ok_right (T : Gs K mg) {TT : List Addr} (D__law_draw : Df P w K mg base "_law_draw" 1 ["well", "size"] spDraw) (D__law_pick : Df P w K mg base "_law_pick" 2 ["well", "some"] (spPick K)) (D__law_lowest : Df P w K mg base "_law_lowest" 2 ["upper", "lower"] spFrac) (D__law_number : Df P w K mg base "_law_number" 3 ["well"] spNumber)
    (D__law_plant : Df P w K mg base "_law_plant" 4 ["well"] (spPlant K)) (D__law_told : Df P w K mg base "_law_told" 3 ["rows", "scale"] (spTold K)) (D__law_shared : Df P w K mg base "_law_shared" 4 ["roots", "parts"] (spLSh K))
    (D__law_ends : Df P w K mg base "_law_ends" 4 ["well", "mean", "spread", "roots"] (spEnds K)) (D__law_surely : Df P w K mg base "_law_surely" 4 ["mean", "spread", "low", "high"] (spSure K)) (D__law_up_to : Df P w K mg base "_law_up_to" 1 ["one", "two"] (spR2b K fun x y => decide (x ≤ y)))
    (D_surely_within : Df P w K mg base "surely_within" 6 ["mean", "spread", "low", "high"] (spSure K)) (DK_surely_within : DfK4 P w K mg base "surely_within" 6 "mean" "spread" "low" "high" (spSure K)) (D_within : Df P w K mg base "within" 9 ["table", "low", "high"] (spWithin K TT))
    (F : At K mg "_law_right" s__law_right) : Df P w K mg base "_law_right" 10 ["well"] (spRight TT) := by
  have sc := sc__law_right
  refine Df.mk' F sc (fun vs H Q E h => ?_) (fun _ _ _ _ _ _ us hl => match us, hl with | [_], _ => rfl) (fun f cdv A outer s0 H vs Q E hr h => ?_)
  · obtain ⟨a, rfl, _⟩ := h
    rfl
  · obtain ⟨a, rfl, hw, tab, q⟩ := h
    obtain ⟨tc, pc, hc⟩ := ok_right_c T D__law_draw D__law_lowest D__law_number D__law_ends D__law_surely D__law_up_to D_surely_within DK_surely_within D_within (outer := outer) (H0 := H) (E := E) hr
    refine ⟨_, (pss_cons (ps_asg (pe_fn D__law_plant (by decide) hr (pa_cons (pv 0) pa_nil)) (pg_tup rfl (pgs_cons (pg_name (i := 1) sc.nd rfl (.inl rfl)) (pgs_cons (pg_name (i := 2) sc.nd rfl (.inl rfl)) (pgs_cons (pg_name (i := 3) sc.nd rfl (.inl rfl)) pgs_nil))))) (pss_cons (ps_par (i := 4) (j := 5) rfl sc.nd rfl rfl (by decide) rfl rfl (pa_cons (pe_callB call_len_seq (by rfl) T.len PySem.boot_len (pa_cons (pv 1) pa_nil)) (pa_cons (pe_fn D__law_told (by decide) hr (pa_cons (pv 1) (pa_cons (pv 2) pa_nil))) pa_nil)) (by rfl)) (pss_cons (ps_setLc (i := 6) (own := [("turn", 9)]) (g := gName 9) rfl sc.nd rfl rfl (sw_true rfl rfl rfl (by decide +kernel)) (pi_range1 rfl T.range (pa_cons (pv 4) pa_nil)) (blkOk_by (own := [("turn", 9)]) (N := N__law_right) (sc := defScope s__law_right) (by decide +kernel)) (fun _ _ _ _ _ => (pg_name (i := 9) sc.nd rfl (.inl rfl))) (fun _ _ _ _ _ => pts_nil) (fun _ _ _ _ _ => (pe_fn D__law_pick (by decide) hr (pa_cons (pv 0) (pa_cons (pe_lst (pa_cons pe_int (pa_cons pe_int (pa_cons pe_int (pa_cons pe_int (pa_cons pe_int (pa_cons (pe_op op_add pe_int (pe_fn D__law_draw (by decide) hr (pa_cons (pv 0) (pa_cons pe_int pa_nil)))) pa_nil))))))) pa_nil))))) (pss_cons (ps_if (pt_cmpR op_eq (pe_callB (cr_sum rfl) (by rfl) T.sum (by decide +kernel) (pa_cons (pv 6) pa_nil)) pe_int (nomark _)) (pss_one (ps_asg pe_int (pg_sub (pv 6) (pe_fn D__law_draw (by decide) hr (pa_cons (pv 0) (pa_cons (pv 4) pa_nil))) set_list))) pss_nil) (pss_cons (ps_asg (pe_fn D__law_shared (by decide) hr (pa_cons (pv 3) (pa_cons (pv 6) pa_nil))) (pg_tup rfl (pgs_cons (pg_name (i := 7) sc.nd rfl (.inl rfl)) (pgs_cons (pg_name (i := 8) sc.nd rfl (.inl rfl)) pgs_nil)))) pc))))), ?_⟩
    have sd0 : Sd a TT 0 H := ⟨hw, tab⟩
    refine ⟨_, rfl, a, 0, rfl, hw, by omega, fun H1 p1 r1 pr rs us e_ roots n z b1 w1 h1 mx1 sy n1 n5 hpr hd nepr he lr e0 bz zb kr ne1 nrs1 => ?_⟩
    have sd1 := sd0.but b1 w1
    have hqs : (roots.map fun c => Rat.divInt c z).length = n := by rw [List.length_map, lr]
    refine ⟨p1, _, rfl, SqT.of h1, rfl, _, _, rfl, _, _, rfl, _, _, rfl, rfl, ?_⟩
    have z0 : 0 < z * (dotL e_ e_ * dotL e_ e_) := Int.mul_pos (by omega) (Int.mul_pos e0 e0)
    have hn : (((rs.map V.ref).length : Nat) : Int) = n := by rw [List.length_map, mx1.len, sy.len]
    refine ⟨_, rfl, r1, _, rfl, .inl (SqL.of mx1.at_), ?_⟩
    refine ⟨_, rfl, _, rfl, r1, rs, _, _, rfl, mx1, by rw [sy.len]; omega, fun r hr1 => by rw [(sy.row r hr1).1]; omega, z0, Nat.lt_of_lt_of_le zb (pw (by decide)), fun H2 l s2 dl => ?_⟩
    refine ⟨_, _, rfl, ?_⟩
    rw [hn]
    have sd2 := sd1.same s2
    have hpr2 := s2 _ _ hpr
    have hd2 := hd.keep (Same.kt s2)
    -- parts
    refine ⟨_, rfl, _, rfl, by omega, by omega, fun D hD => lc_range (lo := 0) (n := _) (fun i H' => But a H2 H' ∧ Well H' a (30 + 2 * i) ∧ ∃ zs : List Int, H' D = some (.lst (zs.map V.int)) ∧ zs.length = i ∧ ∀ z ∈ zs, 0 ≤ z ∧ z ≤ 30)
      ⟨Same.but (same_upd hD), (sd2.w.mono (by omega)).same (same_upd hD), [], upd_same, rfl, fun z hz => by cases hz⟩ ?_ ?_⟩
    · rintro i H3 hi ⟨b3, w3, zs, hz, lz, kz⟩
      have hi5 : i < 5 := by omega
      refine ⟨rfl, yesIf ?_⟩
      refine ⟨_, rfl, ?_⟩
      refine ⟨_, rfl, a, _, 30 + 2 * i, rfl, w3, by omega, by decide, by decide, fun H4 d b4 w4 d0 dl' => ?_⟩
      refine ⟨_, _, rfl, rfl, by show 6 ≤ sizeLine; decide, fun pl hpl => ?_⟩
      have s5 : Same H4 (upd H4 pl (.lst (([0, 1, 1, 2, 5, 1 + d] : List Int).map V.int))) := same_upd hpl
      refine ⟨a, pl, ([0, 1, 1, 2, 5, 1 + d] : List Int).map V.int, _, rfl, w4.same s5, by omega, upd_same, w4.ne hpl, by show 0 < 6; decide, by show 6 ≤ 1000; decide, fun H6 j x b6 w6 hx => ?_⟩
      obtain ⟨z, rfl, hm⟩ := mem6 hx
      have bz : 0 ≤ z ∧ z ≤ 30 := by
        (simp only [List.mem_cons, List.not_mem_nil, or_false] at hm)
        omega
      have nD := Ne.symm (sd2.w.ne hD)
      have hz6 := b6 _ _ nD (s5 _ _ (b4 _ _ nD hz))
      refine ⟨_, hz6, small1000 (by rw [List.length_map]; omega), (((b3.trans b4).trans (Same.but s5)).trans b6).updN hD, (w6.mono (by omega)).upd (sd2.w.ne hD), zs ++ [z], ?_, by rw [List.length_append, lz]; rfl, fun y hy => ?_⟩
      · rw [upd_same, List.map_append]
        rfl
      · rcases List.mem_append.mp hy with h | h
        · exact kz y h
        · rw [List.mem_singleton.mp h]
          exact bz
    rintro H3 ⟨b3, w3, zs, hz, lz, kz⟩
    have lz' : zs.length = n := by omega
    have w3' : Well H3 a 40 := w3.mono (by omega)
    have sd3 : Sd a TT 40 H3 := sd2.but b3 w3'
    have sb := sum_bd30 zs kz
    refine ⟨_, rfl, D, zs, rfl, SqL.of hz, ?_⟩
    refine ⟨rfl, _, rfl, if2 (fun e => ?a) (fun e => ?b)⟩
    case' a =>
      refine ⟨_, rfl, _, rfl, _, rfl, a, _, 40, rfl, w3', by omega, by omega, by omega, fun H4 d b4 w4 d0 dl' => ?_⟩
      obtain ⟨j, rfl⟩ : ∃ j : Nat, d = j := ⟨d.toNat, by omega⟩
      have hj : j < zs.length := by omega
      have hz4 := b4 _ _ (Ne.symm (sd2.w.ne hD)) hz
      refine ⟨D, _, _, j, rfl, rfl, hz4, ixNat rfl (by rw [List.length_map]; exact hj), ?_⟩
      have hz5 : (upd H4 D (.lst ((zs.map V.int).set j (.int 1)))) D = some (.lst ((zs.set j 1).map V.int)) := by rw [upd_same, List.map_set]
      have b5 : But a H2 (upd H4 D (.lst ((zs.map V.int).set j (.int 1)))) := (b3.trans b4).updN hD
      have w5 : Well (upd H4 D (.lst ((zs.map V.int).set j (.int 1)))) a 41 := w4.upd (sd2.w.ne hD)
      have l5 : (zs.set j 1).length = n := by rw [List.length_set]; exact lz'
      have k5 : ∀ z ∈ zs.set j 1, 0 ≤ z ∧ z ≤ 30 := fun z hz' => by
        rcases List.mem_or_eq_of_mem_set hz' with h | h
        · exact kz z h
        · rw [h]
          decide
      have p5 := set_sum zs j hj kz
      generalize upd H4 D (.lst ((zs.map V.int).set j (.int 1))) = H5 at hz5 b5 w5
      generalize zs.set j 1 = z5 at hz5 l5 k5 p5
    case' b =>
      have hz5 := hz
      have b5 := b3
      have w5 : Well H3 a 41 := w3'.mono (by omega)
      have l5 := lz'
      have k5 := kz
      have p5 : 0 < zs.sum := by
        have : zs.sum ≠ 0 := by
          simpa using e
        omega
      generalize H3 = H5 at hz5 b5 w5
      generalize zs = z5 at hz5 l5 k5 p5
    all_goals
      have sd5 : Sd a TT 41 H5 := sd2.but b5 w5
      have nepr' : pr ≠ a := Ne.symm nepr
      have hpr5 := b5 _ _ nepr' hpr2
      have hd5 := hd2.keep (b5.ktW sd2.w)
      obtain ⟨sn, rfl⟩ : ∃ sn : Nat, z = sn := ⟨z.toNat, by omega⟩
      have kq : ∀ q ∈ roots.map fun c => Rat.divInt c (sn : Int), Sc sn 6 q := fun q hq => by
        obtain ⟨c, hc, rfl⟩ := List.mem_map.mp hq
        exact Sc.of.mono (kr c hc)
      refine ⟨_, rfl, _, rfl, pr, D, us, _, z5, sn, rfl, hpr5, hd5, by omega, by omega, by omega, kq, hz5, by rw [hqs]; exact l5, k5, p5, fun H6 p6 vm vs_ s6 h6 dm ds bm bs ss0 => ?_⟩
      refine ⟨p6, _, rfl, SqT.of h6, rfl, _, _, rfl, _, _, rfl, rfl, ?_⟩
      have sd6 := sd5.same s6
      have bq23 : ∀ x ∈ roots.map fun c => Rat.divInt c (sn : Int), Bq 23 x := fun x hx => (kq x hx).bq (by omega) (by omega) (by decide)
      have fl6 : FrL K H6 pr us (roots.map fun c => Rat.divInt c (sn : Int)) := ⟨s6 _ _ hpr5, hd5.keep (Same.kt s6), by omega, by omega, bq23⟩
      have bw26 : BW a TT H2 H6 := b5.bw.trans (Same.bw s6)
      have dl6 := DpT.keep (sd2.kt bw26) dl
      have bw06 : BW a TT H H6 := b1.bw.trans ((Same.bw s2).trans bw26)
      exact hc Q H6 a pr l vm vs_ us e_ roots z5 n 41 sn _ _ _ _ _ _ _ _ _ _ _ _ sd6 (by omega) fl6 nepr he lr n1 n5 e0 (by omega) dl6 sy zb l5 (fun z hz => (k5 z hz).1) p5 dm ds bm bs ss0 fun H' b t => q H' (bw06.trans b) t
end
end V3
set_option maxHeartbeats 8000000
namespace V3
open PySem.Spec PySem L2 PyProof.Rows RZ GxR
section
variable {mg : Str → Option Value} {base : Heap} {K : PySem.W.Frag} {P : Program} {w : World}
theorem isFr_of {K : PySem.W.Frag} : ∀ vs H Q E, spIsFr K vs H Q E → spFracA K vs H Q E := fun vs H Q E ⟨v, x, e, d, q⟩ => ⟨0, v, conv (frd x), e, DpT.an d, by
  have h : fracB (conv (frd x)) = true := fracB_frDD x
  rw [h]
  exact q⟩
theorem Tabs.no {TT : List Addr} {H : Hp} {p : Addr} (t : Tabs TT H) (h : H p = none) : p ∉ TT := fun hp => by
  obtain ⟨ps, hq, _⟩ := t p hp
  rw [h] at hq
  cases hq
theorem Tabs.seq {TT : List Addr} {H H' : Hp} {a : Addr} {xs : List V} (t : Tabs TT H) (b : B3 TT H H') (h : SqL K H a xs) : SqL K H' a xs := by
  (rcases h with (h | ⟨o, h⟩) | h)
  · exact .inl (.inl (b _ _ (fun hp => by
      obtain ⟨ps, hq, _⟩ := t a hp
      rw [h] at hq
      cases hq) h))
  · exact .inl (.inr ⟨o, b _ _ (fun hp => by
      obtain ⟨ps, hq, _⟩ := t a hp
      rw [h] at hq
      cases hq) h⟩)
  · exact .inr h
abbrev s_law : Stmt := topS 65
abbrev N_law : List Str := ["script", "turn"]
theorem sc_law : FnScope N_law ["script"] (defScope s_law) := ⟨rfl, rfl, rfl, by decide +kernel, rfl, by decide +kernel, by decide +kernel⟩
def spLaw (K : PySem.W.Frag) (TT : List Addr) : Sp := fun vs H Q _ => ∃ (la : Addr) (ks : List Int), vs = [.ref la] ∧ SqL K H la (ks.map V.int) ∧ Tabs TT H ∧ ∀ H1, Q (.bl true) H1
theorem ok_law (T : Gs K mg) {TT : List Addr} (D__law_well : Df P w K mg base "_law_well" 1 ["script", "turn"] (spWell K)) (D__law_right : Df P w K mg base "_law_right" 10 ["well"] (spRight TT)) (F : At K mg "law" s_law) : Df P w K mg base "law" 11 ["script"] (spLaw K TT) := by
  have sc := sc_law
  refine Df.mk' F sc (fun vs H Q E h => ?_) (fun _ _ _ _ _ _ us hl => match us, hl with | [_], _ => rfl) (fun f cdv A outer s0 H vs Q E hr h => ?_)
  · obtain ⟨a, ns, rfl, _⟩ := h
    rfl
  · obtain ⟨a, ns, rfl, ha, tab, q⟩ := h
    refine ⟨_, (pss_one (ps_ret (pe_callB (cr_all rfl) (by rfl) T.all (by decide +kernel) (pa_cons (pe_lc (own := [("turn", 1)]) (g := gName 1) rfl sc.nd (pi_range1 rfl T.range (pa_cons pe_int pa_nil)) (blkOk_by (own := [("turn", 1)]) (N := N_law) (sc := defScope s_law) (by decide +kernel)) (fun _ _ _ _ _ => (pg_name (i := 1) sc.nd rfl (.inl rfl))) (fun _ _ _ _ _ => pts_nil) (fun _ _ _ _ _ => (pe_fn D__law_right (by decide) hr (pa_cons (pe_fn D__law_well (by decide) hr (pa_cons (pv 0) (pa_cons (pv 1) pa_nil))) pa_nil)))) pa_nil)))), ?_⟩
    refine ⟨_, rfl, by decide, by decide, fun D hD => lc_range (lo := 0) (n := _) (fun i H' => B3 TT H H' ∧ Tabs TT H' ∧ ∃ bs : List Bool, H' D = some (.lst (bs.map V.bl)) ∧ bs.length = i ∧ bs.all id = true)
      ⟨Same.b3 (same_upd hD), tab.same (same_upd hD), [], upd_same, rfl, rfl⟩ ?_ ?_⟩
    · rintro i H1 hi ⟨b1, t1, bs, hbs, hbl, hba⟩
      have hi2 : i < 2 := hi
      refine ⟨rfl, yesIf ?_⟩
      refine ⟨_, rfl, _, rfl, a, ns, i, by rw [Int.zero_add], tab.seq b1 ha, fun H2 p s2 hp w2 => ?_⟩
      refine ⟨p, rfl, w2, t1.same s2, fun H3 b3 t3 => ?_⟩
      have dp : D ≠ p := fun z => by
        rw [← z, hbs] at hp
        cases hp
      have nD : D ∉ TT := tab.no hD
      have hbs3 := b3 _ _ dp nD (s2 _ _ hbs)
      refine ⟨_, hbs3, small1000 (by rw [List.length_map]; omega), ?_, fun p2 hp2 => ?_, bs ++ [true], ?_, by rw [List.length_append, hbl]; rfl, by rw [List.all_append, hba]; rfl⟩
      · intro bb o nb e
        rw [upd_ne (ne_of_none e hD)]
        have e1 := b1 _ _ nb e
        exact b3 _ _ (ne_of_none e1 hp) nb (s2 _ _ e1)
      · obtain ⟨ps, hq, x⟩ := t3 p2 hp2
        have ne : p2 ≠ D := fun z => nD (by rw [← z]; exact hp2)
        exact ⟨ps, by rw [upd_ne ne]; exact hq, x⟩
      · rw [upd_same, List.map_append]
        rfl
    · rintro H1 ⟨b1, t1, bs, hbs, hbl, hba⟩
      refine ⟨D, bs, rfl, SqL.of hbs, ?_⟩
      rw [hba]
      exact q H1
end
end V3
set_option maxHeartbeats 0
namespace V3
open PySem PySem.Spec PyProof.Rows L2 RZ GxR
def loose0 : List Str := ["RootError", "InvalidTable", "InvalidFraction", "NOUGHT", "fraction", "minus", "times", "is_above", "shared_under", "whole_rows", "whole_less", "dot", "multiplied", "unit_row", "first_place", "MOST_ROWS", "is_whole", "is_tuple_of", "is_fraction", "is_row", "first_unlike_fraction", "check_fraction", "check_fraction_from", "polynomial_of", "counts_of", "is_table", "check_table", "root_counts", "check_told", "check_told_stretch"]
def loose1 : List Str := ["surely_within", "is_sure", "check_stretch", "within", "_law_well", "_law_draw", "_law_pick", "_law_common", "_law_lowest", "_law_plus", "_law_times", "_law_dot", "_law_framed", "_law_mirror", "_law_along", "_law_told", "_law_number", "_law_plant", "_law_minus", "_law_shared", "_law_up_to", "_law_surely", "_law_quotient", "_law_ends", "_law_right"]
def loose : List Str := loose0 ++ loose1
def dN (x : Str) (st : Stmt) : He.DefD := ⟨(x, none), x, x, defArgs st, defBody st, defScope st, [], []⟩
def fn0 : List He.DefD := [dN "fraction" (topS 7), dN "minus" (topS 8), dN "times" (topS 9), dN "is_above" (topS 10), dN "shared_under" (topS 11), dN "whole_rows" (topS 12), dN "whole_less" (topS 13), dN "dot" (topS 15), dN "multiplied" (topS 16), dN "unit_row" (topS 17), dN "first_place" (topS 18), dN "is_whole" (topS 21), dN "is_tuple_of" (topS 22), dN "is_fraction" (topS 23), dN "is_row" (topS 24), dN "first_unlike_fraction" (topS 25), dN "check_fraction" (topS 26), dN "check_fraction_from" (topS 27), dN "polynomial_of" (topS 29), dN "counts_of" (topS 30), dN "is_table" (topS 32), dN "check_table" (topS 33), dN "root_counts" (topS 34), dN "check_told" (topS 36), dN "check_told_stretch" (topS 37)]
def fa0 : List He.Fa := [.glo "fraction", .glo "minus", .glo "times", .glo "is_above", .glo "shared_under", .glo "whole_rows", .glo "whole_less", .glo "dot", .glo "multiplied", .glo "unit_row", .glo "first_place", .glo "is_whole", .glo "is_tuple_of", .glo "is_fraction", .glo "is_row", .glo "first_unlike_fraction", .glo "check_fraction", .glo "check_fraction_from", .glo "polynomial_of", .glo "counts_of", .glo "is_table", .glo "check_table", .glo "root_counts", .glo "check_told", .glo "check_told_stretch"]
def fn1 : List He.DefD := [dN "surely_within" (topS 38), dN "is_sure" (topS 39), dN "check_stretch" (topS 41), dN "within" (topS 42), dN "_law_well" (topS 44), dN "_law_draw" (topS 45), dN "_law_pick" (topS 46), dN "_law_common" (topS 47), dN "_law_lowest" (topS 48), dN "_law_plus" (topS 49), dN "_law_times" (topS 50), dN "_law_dot" (topS 51), dN "_law_framed" (topS 52), dN "_law_mirror" (topS 53), dN "_law_along" (topS 54), dN "_law_told" (topS 55), dN "_law_number" (topS 56), dN "_law_plant" (topS 57), dN "_law_minus" (topS 58), dN "_law_shared" (topS 59), dN "_law_up_to" (topS 60), dN "_law_surely" (topS 61), dN "_law_quotient" (topS 62), dN "_law_ends" (topS 63), dN "_law_right" (topS 64), dN "law" (topS 65)]
def fa1 : List He.Fa := [.glo "surely_within", .glo "is_sure", .glo "check_stretch", .glo "within", .glo "_law_well", .glo "_law_draw", .glo "_law_pick", .glo "_law_common", .glo "_law_lowest", .glo "_law_plus", .glo "_law_times", .glo "_law_dot", .glo "_law_framed", .glo "_law_mirror", .glo "_law_along", .glo "_law_told", .glo "_law_number", .glo "_law_plant", .glo "_law_minus", .glo "_law_shared", .glo "_law_up_to", .glo "_law_surely", .glo "_law_quotient", .glo "_law_ends", .glo "_law_right", .glo "law"]
def fa2 : List He.Fa := [.free "type", .free "int", .free "tuple", .free "list", .free "len", .free "range", .free "enumerate", .free "zip", .free "sum", .free "abs", .free "any", .free "all", .free "repr", .free "min", .int "MOST_ROWS" 5]
def fnA : List He.DefD := fn0 ++ fn1
def faA : List He.Fa := fa0 ++ (fa1 ++ fa2)
def tfA : List He.Defn := [("is_table", none), ("dot", none), ("polynomial_of", none), ("counts_of", none), ("first_place", none)]
/-- a name of the module holds a pair of whole numbers -/
def pairIn (K : PySem.W.Frag) (p : Addr) (a b : Int) : Bool := (match K.lookup p with
  | some ⟨.type "tuple", _, .seq its _, _⟩ => (match its.toList with
    | [.int i _, .int j _] => decide (i = a) && decide (j = b)
    | _ => false)
  | _ => false)
def tupIn (K : PySem.W.Frag) (x : Str) (a b : Int) : Bool := (match PySem.W.nsIn K mainGlobals x with
  | some (some (.ref p)) => pairIn K p a b
  | _ => false)
theorem tupIn_ok {K : PySem.W.Frag} {x : Str} {a b : Int} (h : tupIn K x a b = true) : ∃ p, PySem.W.nsIn K mainGlobals x = some (some (.ref p)) ∧ ∀ H, SqT K H p [.int a, .int b] := by
  unfold tupIn at h
  split at h
  · rename_i p hp
    refine ⟨p, hp, fun H => ?_⟩
    unfold pairIn at h
    split at h
    · rename_i od its n osl hl
      split at h
      · rename_i i ti j tj hi
        obtain ⟨h1, h2⟩ := He.ba h
        have e1 : i = a := of_decide_eq_true h1
        have e2 : j = b := of_decide_eq_true h2
        subst e1 e2
        have hz : its.size = 2 := by
          have := congrArg List.length hi
          simpa using this
        refine .inr ⟨_, its, n, hl, rfl, rfl, by rw [hz]; show 2 ≤ sizeLine; decide, ?_⟩
        rw [hi]
        exact .cons ⟨ti, rfl⟩ (.cons ⟨tj, rfl⟩ .nil)
      · cases h
    · cases h
  · cases h
def exA (K : PySem.W.Frag) : Bool := (He.eqO (PySem.W.nsIn K mainGlobals "gcd") (some (some (.builtin "math.gcd"))) && (He.eqO (PySem.W.nsIn K mainGlobals "lcm") (some (some (.builtin "math.lcm"))) && (tupIn K "NOUGHT" (0) (1) && true)))
abbrev RR : PySem.W.OpenRow := PySem.W.OpenLaw.row PySem.Challenge.rw_rootsabove_k18_whole_surely_within
abbrev hkR : PySem.W.Hook := He.hookX 2 faA fnA [] tfA exA
def obR (s : PySem.W.SharedT) : He.AlX := He.obsX 2 faA fnA [] tfA exA (HandSHeadRun.getT s)
theorem obR_eq (s : PySem.W.SharedT) : obR s = hkR.obs s.abs := He.obsX_eq (HandSHeadRun.getT_eq s)
abbrev qR : Program := PySem.W.view RR.prog [0, 65]
section
open HandSHeadRun PySem.W PySem
theorem runA (w : World) : (wholeF (fun p => stepQ (denQ tabQ) p w) fenceQ 20000 RR.prog).map (fun x => (looksF RR.prog x.1.heap x.2.abs, seenQ qR loose (importedModules RR.prog.main.body) (fun s => xlAt qR [] s && recOk RR.toRowW.records s) x.2.abs)) = some (true, openGood qR loose) := by
  kernel_rfl
theorem runC (w : World) : (wholeF (fun p => stepQ (denQ tabQ) p w) fenceQ 20000 RR.prog).map (fun x => obR x.2) = some (hkR.val w) := by
  kernel_rfl
theorem runR (w : World) : RunEqI RR qR hkR obR 20000 loose w := by
  have h1 := runA w
  have h2 := runC w
  delta RunEqI
  generalize wholeF (fun p => stepQ (denQ tabQ) p w) fenceQ 20000 RR.prog = o at h1 h2 ⊢
  cases o with
  | none => cases h1
  | some x =>
    have e1 := congrArg Prod.fst (Option.some.inj h1)
    have e2 := congrArg Prod.snd (Option.some.inj h1)
    have e3 := Option.some.inj h2
    exact congrArg some (Prod.ext e1 (Prod.ext e2 e3))
end
end V3
namespace V3
open PySem PySem.Spec PyProof.Rows L2 RZ GxR
section
variable {w : World} {K : PySem.W.Frag} {h : Heap} {mg : Str → Option Value}
theorem atR (X : K.In h) (G : h.Ns mainGlobals mg) (c : He.SaysD faA fnA K) (i : Nat) (x : Str) (st : Stmt) (h1 : fnA[i]? = some (dN x st)) (h2 : faA[i]? = some (.glo x)) : At K mg x st := by
  obtain ⟨fd, F⟩ := c.def_ i (d := dN x st) h1
  have g := He.glo_ok X G (c.fact i (f := .glo x) h2)
  obtain ⟨oc, od, dV, kV, doc, pm, an, cdv, ct, osl, e, lk, cd, dv, kv⟩ := F.ex
  rcases dv with ⟨_, e2⟩ | ⟨e2, _⟩
  · subst e2
    exact ⟨⟨_, _, g, ⟨⟨oc, od, kV, doc, pm, an, cdv, ct, osl, e, lk, cd⟩, F.kp⟩⟩⟩
  · exact absurd rfl e2
theorem atCR (X : K.In h) (G : h.Ns mainGlobals mg) (c : He.SaysD faA fnA K) (i : Nat) (x : Str) (st : Stmt) (h1 : fnA[i]? = some (dN x st)) (h2 : faA[i]? = some (.glo x)) : AtC K mg x st (He.cT K (x, none)).1 := by
  obtain ⟨fd, F⟩ := c.def_ i (d := dN x st) h1
  have g := He.glo_ok X G (c.fact i (f := .glo x) h2)
  obtain ⟨oc, od, dV, kV, doc, pm, an, cdv, ct, osl, e, lk, cd, dv, kv⟩ := F.ex
  obtain ⟨cc, rfl⟩ := He.codeIn_ref cd
  have ec : He.codeOf K (x, none) = cc := He.codeOf_eq lk (by rw [e])
  rcases dv with ⟨_, e2⟩ | ⟨e2, _⟩
  · subst e2
    subst e
    have e3 : (He.cT K (x, none)).1 = cc := ec
    rw [e3]
    exact ⟨⟨_, oc, od, kV, doc, pm, an, ct, osl, g, lk, cd, F.kp⟩⟩
  · exact absurd rfl e2
theorem gsR (X : K.In h) (G : h.Ns mainGlobals mg) (c : He.SaysD faA fnA K) (ex : exA K = true) : Gs K mg := by
  obtain ⟨e1, ex⟩ := He.ba ex
  obtain ⟨e2, ex⟩ := He.ba ex
  obtain ⟨e3, ex⟩ := He.ba ex
  obtain ⟨p1, g1, t1⟩ := tupIn_ok e3
  refine ⟨PySem.W.mg_of X G (He.eqO_ok e1), PySem.W.mg_of X G (He.eqO_ok e2), ⟨p1, PySem.W.mg_of X G g1, t1⟩, He.int_ok X G (c.fact 65 (f := .int "MOST_ROWS" 5) rfl), He.free_ok X G (c.fact 51 (f := .free "type") rfl), He.free_ok X G (c.fact 52 (f := .free "int") rfl), He.free_ok X G (c.fact 53 (f := .free "tuple") rfl), He.free_ok X G (c.fact 54 (f := .free "list") rfl), He.free_ok X G (c.fact 55 (f := .free "len") rfl), He.free_ok X G (c.fact 56 (f := .free "range") rfl), He.free_ok X G (c.fact 57 (f := .free "enumerate") rfl), He.free_ok X G (c.fact 58 (f := .free "zip") rfl), He.free_ok X G (c.fact 59 (f := .free "sum") rfl), He.free_ok X G (c.fact 60 (f := .free "abs") rfl), He.free_ok X G (c.fact 61 (f := .free "any") rfl), He.free_ok X G (c.fact 62 (f := .free "all") rfl), He.free_ok X G (c.fact 63 (f := .free "repr") rfl), He.free_ok X G (c.fact 64 (f := .free "min") rfl)⟩
end
def tabsA (K : PySem.W.Frag) : List Addr := (tfA.map (He.cT K)).map Prod.snd
theorem lawR {P : Program} {w : World} {K : PySem.W.Frag} {h base : Heap} {mg : Str → Option Value} (X : K.In h) (G : h.Ns mainGlobals mg) (c : He.SaysD faA fnA K) (ex : exA K = true)
    (TB : ∀ p ∈ tfA.map (He.cT K), TabB base mg p.1 p.2) : Df P w K mg base "law" 11 ["script"] (spLaw K (tabsA K)) := by
  have T := gsR X G c ex
  have TB1 : TabB base mg (He.cT K ("is_table", none)).1 (He.cT K ("is_table", none)).2 := TB _ List.mem_cons_self
  have m1 : (He.cT K ("is_table", none)).2 ∈ tabsA K := List.mem_cons_self
  have TB2 : TabB base mg (He.cT K ("dot", none)).1 (He.cT K ("dot", none)).2 := TB _ (List.mem_cons_of_mem _ List.mem_cons_self)
  have m2 : (He.cT K ("dot", none)).2 ∈ tabsA K := (List.mem_cons_of_mem _ List.mem_cons_self)
  have TB3 : TabB base mg (He.cT K ("polynomial_of", none)).1 (He.cT K ("polynomial_of", none)).2 := TB _ (List.mem_cons_of_mem _ (List.mem_cons_of_mem _ List.mem_cons_self))
  have m3 : (He.cT K ("polynomial_of", none)).2 ∈ tabsA K := (List.mem_cons_of_mem _ (List.mem_cons_of_mem _ List.mem_cons_self))
  have TB4 : TabB base mg (He.cT K ("counts_of", none)).1 (He.cT K ("counts_of", none)).2 := TB _ (List.mem_cons_of_mem _ (List.mem_cons_of_mem _ (List.mem_cons_of_mem _ List.mem_cons_self)))
  have m4 : (He.cT K ("counts_of", none)).2 ∈ tabsA K := (List.mem_cons_of_mem _ (List.mem_cons_of_mem _ (List.mem_cons_of_mem _ List.mem_cons_self)))
  have TB5 : TabB base mg (He.cT K ("first_place", none)).1 (He.cT K ("first_place", none)).2 := TB _ (List.mem_cons_of_mem _ (List.mem_cons_of_mem _ (List.mem_cons_of_mem _ (List.mem_cons_of_mem _ List.mem_cons_self))))
  have m5 : (He.cT K ("first_place", none)).2 ∈ tabsA K := (List.mem_cons_of_mem _ (List.mem_cons_of_mem _ (List.mem_cons_of_mem _ (List.mem_cons_of_mem _ List.mem_cons_self))))
  have d_is_whole := ok_is_whole (P := P) (w := w) (base := base) (K := K) T (atR X G c 11 "is_whole" (topS 21) rfl rfl)
  have d_is_tuple_of := ok_is_tuple_of (P := P) (w := w) (base := base) (K := K) T (atR X G c 12 "is_tuple_of" (topS 22) rfl rfl)
  have x_is_fraction := ok_is_fraction (P := P) (w := w) (base := base) (K := K) T d_is_whole d_is_tuple_of (atR X G c 13 "is_fraction" (topS 23) rfl rfl)
  have d_is_fraction := x_is_fraction.imp isFr_of
  have d_first_unlike_fraction := ok_first (P := P) (w := w) (base := base) (K := K) T x_is_fraction (atR X G c 15 "first_unlike_fraction" (topS 25) rfl rfl)
  have d_is_row := ok_is_row (P := P) (w := w) (base := base) (K := K) d_is_tuple_of d_first_unlike_fraction (atR X G c 14 "is_row" (topS 24) rfl rfl)
  have d_is_table := ok_is_table (P := P) (w := w) (base := base) (K := K) T TB1 d_is_row (atCR X G c 20 "is_table" (topS 32) rfl rfl)
  have d_check_table := ok_check_table (P := P) (w := w) (base := base) (K := K) d_is_table (atR X G c 21 "check_table" (topS 33) rfl rfl)
  have d_fraction := ok_fraction (P := P) (w := w) (base := base) (K := K) T (atR X G c 0 "fraction" (topS 7) rfl rfl)
  have d_minus := ok_minus (P := P) (w := w) (base := base) (K := K) d_fraction (atR X G c 1 "minus" (topS 8) rfl rfl)
  have d_times := ok_times (P := P) (w := w) (base := base) (K := K) d_fraction (atR X G c 2 "times" (topS 9) rfl rfl)
  have d_is_above := ok_is_above (P := P) (w := w) (base := base) (K := K)  (atR X G c 3 "is_above" (topS 10) rfl rfl)
  have d_check_fraction := ok_check_fraction (P := P) (w := w) (base := base) (K := K) d_is_fraction (atR X G c 16 "check_fraction" (topS 26) rfl rfl)
  have d_check_fraction_from := ok_check_fraction_from (P := P) (w := w) (base := base) (K := K) d_is_fraction d_is_above (atR X G c 17 "check_fraction_from" (topS 27) rfl rfl)
  have d_check_told := ok_check_told (P := P) (w := w) (base := base) (K := K) T d_check_fraction d_check_fraction_from (atR X G c 23 "check_told" (topS 36) rfl rfl)
  have d_check_told_stretch := ok_check_told_stretch (P := P) (w := w) (base := base) (K := K) d_check_told d_check_fraction d_check_fraction_from (atR X G c 24 "check_told_stretch" (topS 37) rfl rfl)
  have d_is_sure := ok_is_sure (P := P) (w := w) (base := base) (K := K) d_is_above d_times d_minus (atR X G c 26 "is_sure" (topS 39) rfl rfl)
  have d_surely_within := ok_surely_within (P := P) (w := w) (base := base) (K := K) d_check_told_stretch d_is_sure (atR X G c 25 "surely_within" (topS 38) rfl rfl)
  have k_surely_within := d_surely_within.kw4 (atR X G c 25 "surely_within" (topS 38) rfl rfl) (fun _ _ _ _ _ _ _ _ _ _ => rfl)
  have d_shared_under := ok_shared (P := P) (w := w) (base := base) (K := K) T (atR X G c 4 "shared_under" (topS 11) rfl rfl)
  have d_whole_rows := ok_whole_mx (P := P) (w := w) (base := base) (K := K) T (atR X G c 5 "whole_rows" (topS 12) rfl rfl)
  have d_whole_less := ok_whole_less (P := P) (w := w) (base := base) (K := K) T d_shared_under d_whole_rows (atR X G c 6 "whole_less" (topS 13) rfl rfl)
  have d_unit_row := ok_unit_row (P := P) (w := w) (base := base) (K := K) T (atR X G c 9 "unit_row" (topS 17) rfl rfl)
  have d_dot := ok_dotK (P := P) (w := w) (base := base) (K := K) T TB2 (atCR X G c 7 "dot" (topS 15) rfl rfl)
  have d_multiplied := ok_multiplied (P := P) (w := w) (base := base) (K := K) T d_dot (atR X G c 8 "multiplied" (topS 16) rfl rfl)
  have d_polynomial_of := ok_polynomial_of (P := P) (w := w) (base := base) (K := K) T m3 m2 TB3 d_unit_row d_multiplied (atCR X G c 18 "polynomial_of" (topS 29) rfl rfl)
  have d_first_place := ok_first_place (P := P) (w := w) (base := base) (K := K) T TB5 (atCR X G c 10 "first_place" (topS 18) rfl rfl)
  have d_counts_of := ok_counts_of (P := P) (w := w) (base := base) (K := K) T m4 m5 TB4 d_first_place (atCR X G c 19 "counts_of" (topS 30) rfl rfl)
  have d_root_counts := ok_root_counts (P := P) (w := w) (base := base) (K := K) m1 d_check_table d_check_fraction d_whole_less d_polynomial_of d_counts_of (atR X G c 22 "root_counts" (topS 34) rfl rfl)
  have d_check_stretch := ok_check_stretch (P := P) (w := w) (base := base) (K := K) m1 d_check_table d_check_fraction d_check_fraction_from (atR X G c 27 "check_stretch" (topS 41) rfl rfl)
  have d_within := ok_within (P := P) (w := w) (base := base) (K := K) T d_check_stretch d_root_counts (atR X G c 28 "within" (topS 42) rfl rfl)
  have d__law_draw := ok_draw (P := P) (w := w) (base := base) (K := K) T (atR X G c 30 "_law_draw" (topS 45) rfl rfl)
  have d__law_well := ok_well (P := P) (w := w) (base := base) (K := K) T (atR X G c 29 "_law_well" (topS 44) rfl rfl)
  have d__law_pick := ok_pick (P := P) (w := w) (base := base) (K := K) T d__law_draw (atR X G c 31 "_law_pick" (topS 46) rfl rfl)
  have d__law_common := ok_common (P := P) (w := w) (base := base) (K := K) T (atR X G c 32 "_law_common" (topS 47) rfl rfl)
  have d__law_lowest := ok_lowest (P := P) (w := w) (base := base) (K := K) T d__law_common (atR X G c 33 "_law_lowest" (topS 48) rfl rfl)
  have d__law_plus := ok_law_plus (P := P) (w := w) (base := base) (K := K) d__law_lowest (atR X G c 34 "_law_plus" (topS 49) rfl rfl)
  have d__law_minus := ok_law_minus (P := P) (w := w) (base := base) (K := K) d__law_lowest (atR X G c 43 "_law_minus" (topS 58) rfl rfl)
  have d__law_times := ok_law_times (P := P) (w := w) (base := base) (K := K) d__law_lowest (atR X G c 35 "_law_times" (topS 50) rfl rfl)
  have d__law_quotient := ok_law_quotient (P := P) (w := w) (base := base) (K := K) d__law_lowest (atR X G c 47 "_law_quotient" (topS 62) rfl rfl)
  have d__law_up_to := ok_law_up_to (P := P) (w := w) (base := base) (K := K)  (atR X G c 45 "_law_up_to" (topS 60) rfl rfl)
  have d__law_dot := ok_dot (P := P) (w := w) (base := base) (K := K) T (atR X G c 36 "_law_dot" (topS 51) rfl rfl)
  have d__law_along := ok_along (P := P) (w := w) (base := base) (K := K) T (atR X G c 39 "_law_along" (topS 54) rfl rfl)
  have d__law_mirror := ok_mirror (P := P) (w := w) (base := base) (K := K) T d__law_pick d__law_dot (atR X G c 38 "_law_mirror" (topS 53) rfl rfl)
  have d__law_framed := ok_framed (P := P) (w := w) (base := base) (K := K) T d__law_dot (atR X G c 37 "_law_framed" (topS 52) rfl rfl)
  have d__law_plant := ok_plant (P := P) (w := w) (base := base) (K := K) T d__law_draw d__law_pick d__law_lowest d__law_mirror d__law_framed d__law_along (atR X G c 42 "_law_plant" (topS 57) rfl rfl)
  have d__law_told := ok_told (P := P) (w := w) (base := base) (K := K) T d__law_lowest (atR X G c 40 "_law_told" (topS 55) rfl rfl)
  have d__law_number := ok_number (P := P) (w := w) (base := base) (K := K) T d__law_draw d__law_pick d__law_lowest (atR X G c 41 "_law_number" (topS 56) rfl rfl)
  have d__law_shared := ok_lshared (P := P) (w := w) (base := base) (K := K) T d__law_lowest d__law_plus d__law_minus d__law_times (atR X G c 44 "_law_shared" (topS 59) rfl rfl)
  have d__law_surely := ok_surely (P := P) (w := w) (base := base) (K := K) d__law_up_to d__law_times d__law_minus (atR X G c 46 "_law_surely" (topS 61) rfl rfl)
  have d__law_ends := ok_ends (P := P) (w := w) (base := base) (K := K) T d__law_draw d__law_pick d__law_lowest d__law_plus d__law_minus d__law_quotient d__law_up_to (atR X G c 48 "_law_ends" (topS 63) rfl rfl)
  have d__law_right := ok_right (P := P) (w := w) (base := base) (K := K) T d__law_draw d__law_pick d__law_lowest d__law_number d__law_plant d__law_told d__law_shared d__law_ends d__law_surely d__law_up_to d_surely_within k_surely_within d_within (atR X G c 49 "_law_right" (topS 64) rfl rfl)
  exact ok_law T d__law_well d__law_right (atR X G c 50 "law" (topS 65) rfl rfl)
theorem factsR {w : World} {K : PySem.W.Frag} {h : Heap} {mg : Str → Option Value} {fa : Addr} (X : K.In h) (G : h.Ns mainGlobals mg) (hfa : mg ("law" : Str) = some (.ref fa)) (c : He.SaysX faA fnA [] tfA exA w h K) :
    LamX.LawAtS PySem.Challenge.rw_rootsabove_k18_whole_surely_within w K CX0 11 63 "script" mg fa h := by
  have cd := c.t.d
  have aL := atR X G cd 50 "law" (topS 65) rfl rfl
  obtain ⟨f, fd, g, F⟩ := aL.ex
  rw [hfa] at g
  cases g
  obtain ⟨oc, od, kV, doc, pm, an, cdv, ct, osl, e, lk, _⟩ := id F.ex
  refine ⟨fd, tfA.map (He.cT K), spLaw K (tabsA K), fun p hp => ?_, fun p hp => ?_, fun p hp => ?_, fun s u => ?_, fun H a ns hl _ hT hS => ?_, fun base kb gb TB => ?_⟩
  · obtain ⟨d, hd, rfl⟩ := List.mem_map.mp hp
    exact c.empty d hd
  · obtain ⟨d, hd, rfl⟩ := List.mem_map.mp hp
    exact c.out d hd
  · obtain ⟨d, hd, rfl⟩ := List.mem_map.mp hp
    exact PySem.W.codeHd_of_K X (c.hd d hd)
  · subst e
    exact .of_eq rfl
  · refine ⟨a, ns, rfl, hS, fun p hp => ?_, fun _ => rfl⟩
    obtain ⟨d, hd, rfl⟩ := List.mem_map.mp hp
    exact ⟨#[], hT d hd, trivial⟩
  · obtain ⟨f', fd', g', kp, b, G', oc', od', osl', lk'⟩ := (lawR (P := PySem.Challenge.rw_rootsabove_k18_whole_surely_within.prog) (w := w) (base := base) X G cd c.more (fun p hp => ⟨(TB p hp).code, (TB p hp).bm, (TB p hp).gP⟩)).ex
    rw [hfa] at g'
    cases g'
    rw [lk] at lk'
    cases lk'
    exact G'
end V3
open PySem.W PySem PyProof.Rows PySem.Calls
theorem PySem.Challenge.cw_rootsabove_k18_whole_surely_within_holds : PySem.Challenge.rw_rootsabove_k18_whole_surely_within.Holds := by
  w_on; o_law
  refine HandSHeadRun.head_imp (r := V3.RR) (q := V3.qR) (H := V3.hkR) (ob := V3.obR) (M := 20000) (loose := V3.loose) (d := HandSHeadRun.topDef V3.RR.prog 65) (kwd := []) V3.obR_eq V3.runR (by kernel_rfl) (by kernel_rfl) (by kernel_rfl) (by rfl) (by first | assumption | decide +kernel) (by decide +kernel) ⟨rfl, rfl, rfl, rfl, rfl, by decide +kernel⟩ ?hw ?hc
  case hw => w_witness2
  case hc =>
    refine LamX.walk_ofTsE (l := PySem.Challenge.rw_rootsabove_k18_whole_surely_within) (n := 63) (k := 11) (x := "script") (CX := fun _ => L2.CX0) rfl (by decide) (by kernel_rfl) ⟨rfl, by decide, by decide⟩ ?F (fun _ _ _ _ _ z => z)
    intro w mg fa h Y G hmg0
    obtain ⟨K, KX, c⟩ := Y
    have hlaw : mg ("law" : PySem.Str) = some (.ref fa) := by
      have e : (HandSHeadRun.topDef V3.RR.prog 65).name = ("law" : PySem.Str) := by kernel_rfl
      rw [← e]
      exact hmg0
    exact ⟨K, KX, V3.factsR KX G hlaw c⟩
