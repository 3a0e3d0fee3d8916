import PyProof.Rows.All
import Wide.All
import OpenK.AllK
import Wide.FinOn
import KE.KIsAll
import KE.KExcIs
import HandS.ForMost
import HandS.ForExc
import HandS.TryMany
import HandS.ExcInit
import HandS.ExcValue
import HandS.ExcField
import HandS.IsInst
import HandS.ExcIs
import HandS.Small
import HandS.Wide
import HandS.Flow
import HandS.Evl
import HandS.Conv
import HandS.Walk
import KE.KDictKeyed
import KE.KDictList
import KE.KDictDisplayH
import HandS.SetKeys
import HandS.DictComp
import HandS.NoneIn
import HandS.SortInts
import HandS.SortOrd
import HandS.TupAny
import HandS.ListItems
import HandS.SortRule
import HandS.Defaults
import HandS.Gcd
import KE.KMathGC
import PySem.Challenge.RW_peermend_k03_counts
set_option Elab.async false
set_option linter.all false
set_option maxRecDepth 100000
set_option maxHeartbeats 4000000
namespace L2
open PySem PySem.Spec PyProof.Rows

/-- an error object held as a value: without a dict, or with one that holds fields -/
def ErrT (H : Hp) (a C : Addr) : Prop := H a = some (ExO (.ref C) a) ∨ ∃ (dx : Addr) (fs : List (Str × V)), H a = some (exo a C (some dx)) ∧ H dx = some (exd dx fs)
/-- isinstance of such a value -/
def rIsX (K : PySem.W.Frag) : List V → Hp → VK → Prop := fun xs H Q => ∃ (a C : Addr) (c : V) (u : Value) (b : Bool), xs = [.ref a, c] ∧ ErrT H a C ∧ ExcC K C ∧ ClsV c u ∧ PySem.W.kitOne K (.ref C) u = some b ∧ Q (.bl b) H
theorem clsIn_some {K : PySem.W.Frag} {C : Addr} (h : PySem.W.hasDictIn K C = true) : (PySem.W.clsIn K C).isSome = true := by
  obtain ⟨cd, hc, _⟩ := PySem.W.any_some h
  rw [hc]
  rfl
theorem kitX_err {K : PySem.W.Frag} {C a : Addr} {oe : Obj} {od : Option Obj} (D : ExcC K C) : PySem.W.KitX K (.ref a) (.ref C) (fun h => PySem.W.InstAt h a oe C od) :=
  PySem.W.kitx_exc (clsIn_some D.hd) D.hg D.hk D.hs D.ha D.hn D.ht D.hm
theorem call_isX {X : Cx} : CallR X (.builtin "isinstance") (rIsX X.K) := by
  intro pins s σ H xs us Q I r h
  obtain ⟨a, C, c, u, b, rfl, T, D, k, e, q⟩ := h
  obtain ⟨u1, u2, rfl, r1, r2⟩ := vals2 r
  have e2 := k.eq r2
  subst e2
  cases (show u1 = Value.ref a from r1)
  rcases T with ea | ⟨dx, fs, ea, ed⟩
  · have x : ObjOk X.prog X.w H s.heap a (ExO (.ref C) a) := I.hok a _ ea
    obtain ⟨⟨oe, vs, ho, hz, hd, _⟩, _, _⟩ := x
    obtain ⟨oc, odi, oda, osl⟩ := oe
    obtain ⟨h1, h2⟩ := hz
    dsimp only at h1 h2 hd
    subst h1 h2 hd
    exact PySem.W.kia_one (kitX_err (od := none) D) I.kIn ⟨ho, rfl, rfl, trivial⟩ e (fun z => nomatch z) fun tk => ⟨.bl b, H, I.tok tk, rfl, q⟩
  · obtain ⟨t1, ho⟩ := exo_at I.hok ea
    obtain ⟨mA, hns, _⟩ := exd_at I.hok ed
    obtain ⟨od, ho2, _⟩ := lookIn_ns hns
    exact PySem.W.kia_one (kitX_err (od := some od) D) I.kIn ⟨ho, rfl, rfl, ho2⟩ e (fun z => nomatch z) fun tk => ⟨.bl b, H, I.tok tk, rfl, q⟩
/-- isinstance(e, c), e the exception that the suite holds, with its dict -/
def rIsS (K : PySem.W.Frag) (a : Addr) (cls : Value) (d : Option Addr) : List V → Hp → VK → Prop := fun xs H Q => ∃ (C dd : Addr) (fs : List (Str × V)) (c : V) (u : Value) (b : Bool), xs = [.ref a, c] ∧ cls = .ref C ∧ d = some dd ∧ H dd = some (.xd fs) ∧
  ExcC K C ∧ ClsV c u ∧ PySem.W.kitOne K (.ref C) u = some b ∧ Q (.bl b) H
theorem call_isS {X : Cx} {K : PySem.W.Frag} {a : Addr} {cls : Value} {d : Option Addr} {oe : Obj} {pn : List (Addr × Obj)} (hK : X.K = K) (hz : Zc cls d oe) (hf : ∃ vs, oe.data = .fields vs) : CallR (X.suite a ((a, oe) :: pn)) (.builtin "isinstance") (rIsS K a cls d) := by
  subst hK
  intro pins s σ H xs us Q I r h
  obtain ⟨C, dd, fs, c, u, b, rfl, rfl, rfl, ea, D, k, e, q⟩ := h
  obtain ⟨u1, u2, rfl, r1, r2⟩ := vals2 r
  have e2 := k.eq r2
  subst e2
  cases (show u1 = Value.ref a from r1)
  obtain ⟨hget, _⟩ := I.pin (a, oe) (List.mem_append.mpr (.inl List.mem_cons_self))
  obtain ⟨vs, hv⟩ := hf
  have hx : ObjOk X.prog X.w H s.heap dd (.xd fs) := I.hok dd _ ea
  obtain ⟨mA, hns, hr⟩ := hx
  obtain ⟨od, ho, hl⟩ := lookIn_ns hns
  have J : PySem.W.InstAt s.heap a oe C (some od) := ⟨hget, hz.1, by unfold PySem.W.notCls; rw [hv] <;> rfl, by rw [hz.2]; exact ho⟩
  exact PySem.W.kia_one (kitX_err D) I.kIn J e (fun z => nomatch z) fun tk => ⟨.bl b, H, I.kept (t' := tk) fun _ _ z => z, rfl, q⟩

section
variable {X : Cx} {C : Addr} {bmB : List Value} {B newId initId : String} {x : Str} {p pos : Pos}
/-- X(), raised: an own exception class without own __init__ -/
theorem pmk_own0 (F : ExcBaseFacts B newId initId bmB) (q : PySem.W.excIn X.K C bmB newId = true) (gC : X.mg x = some (.ref C)) (kC : PySem.W.keepIn X.K (.ref C) = true) (r : Raises X (.ref C)) (hg : Gl X x)
    (hdb : (x == ("__debug__" : Str)) = false := by decide) : PMk X (.Call (.Name x p) [] [] pos) (fun _ H Q => Q (.ref C) none H) := by
  intro pins s σ H Q I h
  refine wpAny_Call_Name_kw (ld_glob I hg gC ?_ hdb)
  refine PySem.W.callWith_K0 I.kIn kC ?_
  obtain ⟨bm, N, nm, qn, bs, hdct, sn, sub, ab, col, dd, k0, k1, k2, k3, k5, mN, hC, hN, hni, T⟩ := exc_obj I.kIn q
  refine wpAny_call_exc_subT F T hC hN hni (fun h' e hm => ?_) (Nat.zero_le _)
  exact mk_of I hm r h (I.hok.gone hm.new)
/-- X(), as a value -/
theorem pe_exc0 (F : ExcBaseFacts B newId initId bmB) (q : PySem.W.excIn X.K C bmB newId = true) (gC : X.mg x = some (.ref C)) (kC : PySem.W.keepIn X.K (.ref C) = true) (hg : Gl X x)
    (hdb : (x == ("__debug__" : Str)) = false := by decide) : PE X (.Call (.Name x p) [] [] pos) (fun _ H Q => ∀ a, H a = none → Q (.ref a) (upd H a (ExO (.ref C) a))) := by
  refine ⟨fun pins s σ H Q I h => ?_⟩
  refine wpAny_Call_Name_kw (ld_glob I hg gC ?_ hdb)
  refine PySem.W.callWith_K0 I.kIn kC ?_
  obtain ⟨bm, N, nm, qn, bs, hdct, sn, sub, ab, col, dd, k0, k1, k2, k3, k5, mN, hC, hN, hni, T⟩ := exc_obj I.kIn q
  refine wpAny_call_exc_subT F T hC hN hni (fun h' a hm => ?_) (Nat.zero_le _)
  have hn : H a = none := I.hok.gone hm.new
  obtain ⟨t, ht, _, _⟩ := hm.there
  exact ⟨.ref a, upd H a (ExO (.ref C) a), I.laidN hm.keeps hm.new hn (exO_ok ht ⟨rfl, rfl⟩ rfl rfl rfl (show 4 < 6 by decide)), rfl, h a hn⟩
end
/-- X(e, ..) as a value, its own __init__ keeping sp -/
def tMkV (C : Addr) (sp : Sp) (ta : TA) : TE := fun σ H Q => ta σ H fun vs H1 => vs.length ≤ 1000 ∧ ∀ a, H1 a = none → sp (.ref a :: vs) (upd H1 a (exo a C none)) (fun v H2 => v = .non ∧ Q (.ref a) H2) (fun _ _ _ => False)
section
variable {X : Cx} {e : Expr} {es : List Expr} {ta : TA} {p pos : Pos}
theorem pe_oexV {CX : CXT} {x : Str} {C fI : Addr} {k : Nat} {fd : FuncData} {ps : List Str} {sp : Sp} (T : OexC X.K C) (iC : PySem.W.findIn X.K (.ref C) "__init__" = some (some (.ref fI))) (tI : PySem.W.typeIn X.K (.ref fI) = some (.type "function"))
    (F1 : FnOk X.prog X.w X.K X.mg X.base CX k fI fd ps sp) (hr : Room (k + 1) X.A) (hb : Binds X.K fd ps []) (hx : Passes CX X (fun _ _ _ => False)) (hg : Gl X x) (hm : X.mg x = some (.ref C)) (ha : PA X (e :: es) ta)
    (hdb : (x == ("__debug__" : Str)) = false := by decide) (he : starEach (e :: es) X.env = (false, eval e X.env) :: starEach es X.env := by rfl) (hpl : (backTo pos (starEach es X.env)).any (·.1) = false := by rfl) :
    PE X (.Call (.Name x p) (e :: es) [] pos) (tMkV C sp ta) := by
  refine ⟨fun pins s σ H Q I h => ?_⟩
  obtain ⟨nm, q, N, bs, bm, sn, sub, ab, col, dd, k0, k1, k2, k3, k5, hC, hmro⟩ := T.cls
  refine wpAny_Call_Name_kw (ld_glob I hg hm ?_ hdb)
  refine PySem.W.callWith_K (h₀ := X.base) I.ok.mod.kin T.kC (thn (ha.run pos pins s σ H _ I h) fun us s1 ⟨vs, H1, I1, r1, hz, q1⟩ => ⟨I1.kIn, ?_⟩) he hpl
  show wpAny _ _ (call (.ref C) us) _ _ _
  obtain ⟨hh, g, dw, tc, ow⟩ := s1
  have hgt : hh.objs.size ≤ hh.objs.size + 1 := Nat.le_succ _
  have fr1 : H1 (hh.objs.size + 1) = none := I1.hok.fresh hgt
  have pr1 := q1 (hh.objs.size + 1) fr1
  have kp1 : ∀ b o, hh.get? b = some o → ((hh.push (PySem.W.kdv_tup us)).push (PySem.HandSPX.excO C hh.objs.size)).get? b = some o := fun b o e => Heap.get?_push_of_some _ (Heap.get?_push_of_some _ e)
  have ob1 : ((hh.push (PySem.W.kdv_tup us)).push (PySem.HandSPX.excO C hh.objs.size)).get? (hh.objs.size + 1) = some (PySem.HandSPX.excO C hh.objs.size) := by heap_get
  have Iv2 : Inv X pins σ (upd H1 (hh.objs.size + 1) (exo (hh.objs.size + 1) C none)) ⟨(hh.push (PySem.W.kdv_tup us)).push (PySem.HandSPX.excO C hh.objs.size), g, dw, tc, ow⟩ :=
    I1.laid (t' := tc) (a := hh.objs.size + 1) (o := exo (hh.objs.size + 1) C none) (h' := (hh.push (PySem.W.kdv_tup us)).push (PySem.HandSPX.excO C hh.objs.size)) kp1 hgt (exo_ok ob1)
  have rl2 : Vals (V.ref (hh.objs.size + 1) :: vs) (Value.ref (hh.objs.size + 1) :: us) := .cons rfl r1
  have ln1 : (Value.ref (hh.objs.size + 1) :: us).length = ps.length := by
    have e := rl2.length
    rw [F1.len _ _ _ _ pr1] at e
    exact e.symm
  have ln2 : us.length ≤ sizeLine := by
    rw [← Paired.length r1, sizeLine_eq]
    omega
  have b0 := hb ⟨(hh.push (PySem.W.kdv_tup us)).push (PySem.HandSPX.excO C hh.objs.size), g, dw, tc, ow⟩ (Value.ref (hh.objs.size + 1) :: us) Iv2.kIn (by rw [List.append_nil]; exact ln1)
  rw [List.append_nil] at b0
  refine wpAny_call (PySem.HandSPX.call_own F.excBase_ValueError (fun Y => PySem.HandSPX.refsVE_contains Y bm hmro) (I1.kIn _ _ hC) (PySem.W.looks_findIn I1.kIn iC) (fun self => PySem.W.bind_fn I1.kIn self tI) ln2
    (codeAny_mono (F1.run _ X.stack _ _ ⟨Value.ref (hh.objs.size + 1) :: us, []⟩ (Value.ref (hh.objs.size + 1) :: us) _ _ (fun _ _ _ => False) (hr.make C us []) (Iv2.env0.make C us []) b0 rl2 pr1) fun r s' hq' => ?_))
  cases r with
  | error er => exact hx pins σ _ _ er s' Iv2 hq'
  | ok fl =>
    cases fl with
    | ret u =>
      obtain ⟨v, H2, os2, bare2, un2, hok2, rv, ev, q2⟩ := hq'
      subst ev
      exact ⟨rv, .ref (hh.objs.size + 1), H2, Iv2.call' (ch := []) os2 un2 hok2 bare2 (fun b z => absurd z (by simp)), rfl, q2⟩
    | next => exact False.elim hq'
    | brk => exact False.elim hq'
    | cont => exact False.elim hq'
/-- err.f, err an error held as a value -/
def tXa (K : PySem.W.Frag) (f : Str) (te : TE) : TE := fun σ H Q => te σ H fun x H1 => ∃ (a C dx : Addr) (fs : List (Str × V)) (v : V), x = .ref a ∧ H1 a = some (exo a C (some dx)) ∧ H1 dx = some (exd dx fs) ∧ XfC K C ∧ PySem.W.findIn K (.ref C) f = some none ∧ fs.lookup f = some v ∧ Q v H1
theorem pe_xa {te : TE} {n : Str} (he : PE X e te) (hb : attributeBase e n X.env (eval e X.env) = eval e X.env := by rfl) : PE X (.Attribute e n pos) (tXa X.K n te) := by
  refine ⟨fun pins s σ H Q I h => ?_⟩
  refine attr_of hb (thn (he.run pins s σ H _ I h) fun u s1 hh => ?_)
  obtain ⟨x, H1, I1, rx, a, C, dx, fs, v, ex, ea, ed, T, hno, l, q⟩ := hh
  subst ex
  obtain rfl : u = Value.ref a := rx
  obtain ⟨t1, ho⟩ := exo_at I1.hok ea
  obtain ⟨mA, hns, hr⟩ := exd_at I1.hok ed
  obtain ⟨od, ho2, ln1⟩ := lookIn_ns hns
  obtain ⟨u, hu, ru⟩ := RelO.some_of (v := v) (o := mA n) (by rw [← l]; exact hr n)
  have J : PySem.W.InstAt s1.heap a _ C (some od) := ⟨ho, rfl, rfl, ho2⟩
  exact HandSPX.exc_get I1.kIn J T.ga T.gg T.exC (PySem.W.findObj_own T.hdC hno rfl (by rw [ln1, hu])) (handed_of ru) ⟨v, H1, I1.tok _, ru, q⟩
end
theorem ix_listK {X : Cx} {K : PySem.W.Frag} (h : X.K = K) : IxR X (rIxL K) := by
  subst h
  exact ix_list
theorem ix_tupK {X : Cx} {K : PySem.W.Frag} (h : X.K = K) : IxR X (rIxT K) := by
  subst h
  exact ix_tup
/-! several except clauses, some with names -/
/-- what is behind a suite with (slot i) or without a name -/
def goneD (oi : Option Nat) (D : Ends) : Ends := match oi with
  | none => D
  | some i => { nx := fun σ' H' => D.nx (σ'.set i none) H', rt := D.rt, bk := fun σ' H' => D.bk (σ'.set i none) H', ct := fun σ' H' => D.ct (σ'.set i none) H' }
def hadS (oi : Option Nat) (a : Addr) (σ : St) : St := match oi with
  | none => σ
  | some i => σ.set i (some (.ref a))
def wManyN (K : PySem.W.Frag) (Wout : WX) (D : Ends) : List (Value × Option Nat × (Addr → Value → Option Addr → TS)) → WX
  | [] => Wout
  | (c, oi, ts) :: r => fun cls d σ H => ∃ b, PySem.W.exmOne K cls c = some b ∧ (b = true → ∀ a, H a = none → ts a cls d (goneD oi D) (hadS oi a σ) H) ∧ (b = false → wManyN K Wout D r cls d σ H)
inductive HdsN (X : Cx) : List ExceptHandler → List (Value × Option Nat × (Addr → Value → Option Addr → TS)) → Prop
  | nil : HdsN X [] []
  | cons {x : Str} {c : Value} {ts : Addr → Value → Option Addr → TS} {b₀ : Stmt} {suite : List Stmt} {np pos' : Pos} {hds : List ExceptHandler} {l : List (Value × Option Nat × (Addr → Value → Option Addr → TS))} (hc : Names X x c)
      (hsu : ∀ (a : Addr) (oe : Obj) (cls : Value) (d : Option Addr) (pn : List (Addr × Obj)), Zc cls d oe → (∃ vs, oe.data = .fields vs) → PSs (X.suite a ((a, oe) :: pn)) (b₀ :: suite) (ts a cls d)) (r : HdsN X hds l) :
      HdsN X (.ExceptHandler (some (.Name x np)) none (b₀ :: suite) pos' :: hds) ((c, none, ts) :: l)
  | consN {x n : Str} {i : Nat} {c : Value} {ts : Addr → Value → Option Addr → TS} {b₀ : Stmt} {suite : List Stmt} {np pos' : Pos} {hds : List ExceptHandler} {l : List (Value × Option Nat × (Addr → Value → Option Addr → TS))} (hN : X.N.Nodup) (hi : X.N[i]? = some n) (hln : X.env.kindOf n = some .local) (hc : Names X x c)
      (hsu : ∀ (a : Addr) (oe : Obj) (cls : Value) (d : Option Addr) (pn : List (Addr × Obj)), Zc cls d oe → (∃ vs, oe.data = .fields vs) → PSs (X.suite a ((a, oe) :: pn)) (b₀ :: suite) (ts a cls d)) (r : HdsN X hds l) :
      HdsN X (.ExceptHandler (some (.Name x np)) (some n) (b₀ :: suite) pos' :: hds) ((c, some i, ts) :: l)
section
variable {X : Cx} {body : List Stmt} {h₀ : ExceptHandler} {hds : List ExceptHandler} {l : List (Value × Option Nat × (Addr → Value → Option Addr → TS))} {pos : Pos} {tb : WX → TS} {Wout : WX}
theorem ps_try_manyN (hs : X.stack = X.env :: X.outer) (hf : X.env.frame = some X.env.locals) (tk : Takes X Wout)
    (hb : ∀ (W : WX) (pn : List (Addr × Obj)) (xe : Value → Shared → Prop), Takes (X.tr pn xe) W → PassesOwn (model X.prog X.w) X.A X.env xe → PSs (X.tr pn xe) body (tb W))
    (hh : HdsN X (h₀ :: hds) l) : PS X (.Try body (h₀ :: hds) [] [] pos) (fun D σ H => tb (wManyN X.K Wout D l) D σ H) := by
  refine ⟨fun pins s σ H D I h => ?_⟩
  have ok := I.ok
  have frA : X.A.frames = some (X.env :: X.outer) := by rw [ok.frames, hs]
  refine wpAny_Try_except ?_
  refine wpAny_mono ((hb (wManyN X.K Wout D l) (X.pn ++ pins) (fun e s₁ => wpAny (model X.prog X.w) X.A (noteFrame e X.env) (fun _ s₂ => wpAny (model X.prog X.w) X.A (setFlight e none) (fun _ s₃ =>
    wpAny (model X.prog X.w) X.A (handleBy e X.env (h₀ :: hds)) (SP X pins D) X.xe s₃) X.xe s₂) X.xe s₁) (fun u s' xx => ?_) PassesOwn.looking).run [] s σ H D (I.toTry _) h) (fun f s1 back => ?_) (fun e s1 he => he)
  · -- the catch
    obtain ⟨a, B, sI, pins', σ', H', cls, d, rfl, J', nb, up, sky, na, os, ag, w⟩ := xx
    have J : Inv X pins σ' H' sI := J'.ofTry ok
    have skyE : Sky B (X.env :: X.outer) a (Zc cls d) X.env.locals s'.heap := by rw [← hs]; exact sky
    show wpAny (model X.prog X.w) X.A (noteFrame (.ref a) X.env) _ _ _
    refine Sky.land Zc.steady frA hf skyE fun h3 fz3 ut3 => ?_
    have Jn3 : Inv X pins σ' H' { s' with heap := h3 } := J.landed nb fz3.1 (up.trans ut3) os ag
    obtain ⟨ox3, xs3, ob3, zc3, dt3⟩ := fz3.there
    have aside : ∀ {h : Heap} {o : Obj} {vs : Array Value}, h.FunFrames B (X.env :: X.outer) → h.get? a = some o → o.data = .fields vs → a ∉ frs (X.env :: X.outer) := fun {h o vs} ff e dd hm => by
      obtain ⟨_, o', e', hnf⟩ := ff.mem hm
      rw [e] at e'; cases e'
      exact hnf _ dd
    have offF := aside fz3.2.2.1 ob3 dt3
    have offL : a ≠ X.env.locals := fun z => offF (List.mem_filterMap.mpr ⟨X.env, List.mem_cons_self, by rw [hf, z]⟩)
    have offS : a ∉ X.fs := fun hm => by
      obtain ⟨e, he, q⟩ := List.mem_filterMap.mp hm
      exact offF (List.mem_filterMap.mpr ⟨e, List.mem_cons_of_mem _ he, q⟩)
    have In3 := Jn3.suite ob3 dt3 na offL offS
    have go : ∀ {hds' : List ExceptHandler} {l' : List (Value × Option Nat × (Addr → Value → Option Addr → TS))}, HdsN X hds' l' → wManyN X.K Wout D l' cls d σ' H' →
        wpAny (model X.prog X.w) X.A (handleBy (.ref a) X.env hds') (SP X pins D) X.xe { s' with heap := h3 } := by
      intro hds' l' hk
      induction hk with
      | nil =>
        intro w
        refine wpAny_handleBy_nil ?_
        obtain ⟨k1, k2, k3, oe, vs, T, oT, ts', he, hz, hd, h1, hr⟩ := id fz3
        unfold PySem.passOn
        refine wpAny_bind (wpAny_field he hd h1 ?_)
        rw [if_neg (show ¬ ((Value.ref T == Value.none) = true) from by simp)]
        have fin : wpAny (model X.prog X.w) X.A (setFlight (.ref a) X.env.frame) (fun _ s4 => wpAny (model X.prog X.w) X.A (throw (.ref a) : Sem Flow) (SP X pins D) X.xe s4) X.xe { s' with heap := h3 } := by
          rw [hf]
          refine HandSPX.setFlight_upZ fz3 fun h4 hh4 ut4 => wpAny_throw (tk _ _ ?_)
          exact ⟨a, B, sI, pins, σ', H', cls, d, rfl, J, nb, (up.trans ut3).trans ut4, .inr (.inr (by rw [hs]; exact hh4)), na, os, ag, w⟩
        first
          | exact wpAny_bind (wpAny_pure (wpAny_bind fin))
          | exact wpAny_bind fin
      | @cons x c ts b₀ suite np pos' hds2 l2 hc hsu r ih =>
        intro w
        obtain ⟨b, hx1, yes, nay⟩ := w
        refine wpAny_handleBy_cons (codeAny_handlers_test ?_) (by intro q; cases q)
        have lkT : PySem.W.Looks (model X.prog X.w) h3 (typeOf (.ref a)) cls := fun A Q E s k q => wpAny_typeOf_ref (k _ _ ob3) (by rw [zc3.1]; exact q)
        have lkM := PySem.W.exm_one (M := model X.prog X.w) (Jn3.kIn) lkT hx1
        have test : ∀ {Q : Value → Shared → Prop} {E : Value → Shared → Prop}, Q c { s' with heap := h3 } → wpAny (model X.prog X.w) (X.A.mark (some (.ref a))) (eval (.Name x np) X.env) Q E { s' with heap := h3 } := fun {Q E} q => by
          obtain ⟨hg, hdbg, hm | ⟨hm, hv, hnn⟩⟩ := hc
          · exact ld_glob (X := X.suite a ((a, ox3) :: (X.pn ++ pins))) In3 hg hm q hdbg
          · exact ld_blt (X := X.suite a ((a, ox3) :: (X.pn ++ pins))) In3 hg hm hv q hnn hdbg
        refine test (lkM.here ?_)
        cases b with
        | true =>
          refine codeAny_handlers_suite ?_
          refine HandSPX.lands_againZ fz3 fun h4 fz4 ut4 => ?_
          have Jn4 : Inv X pins σ' H' { s' with heap := h4 } := J.landed nb fz4.1 ((up.trans ut3).trans ut4) os ag
          obtain ⟨ox4, xs4, ob4, zc4, dt4⟩ := fz4.there
          have In4 := Jn4.suite ob4 dt4 na offL offS
          refine wpAny_mono ((hsu a ox4 cls d (X.pn ++ pins) zc4 ⟨_, dt4⟩).run [] _ _ H' _ In4 (yes rfl a na)) (fun f t6 back => ?_) (fun _ _ z => False.elim z)
          cases f with
          | next =>
            obtain ⟨σb, Hb, Inb, qb⟩ := back
            exact ⟨_, _, Inb.unsuite ok, qb⟩
          | brk =>
            obtain ⟨σb, Hb, Inb, qb⟩ := back
            exact ⟨_, _, Inb.unsuite ok, qb⟩
          | cont =>
            obtain ⟨σb, Hb, Inb, qb⟩ := back
            exact ⟨_, _, Inb.unsuite ok, qb⟩
          | ret u =>
            obtain ⟨vb, σb, Hb, Inb, rb, qb⟩ := back
            exact ⟨_, _, _, Inb.unsuite ok, rb, qb⟩
        | false =>
          show wpAny _ X.A (handleBy (.ref a) X.env hds2) _ _ _
          exact ih (nay rfl)
      | @consN x n i c ts b₀ suite np pos' hds2 l2 hN hi hln hc hsu r ih =>
        intro w
        obtain ⟨b, hx1, yes, nay⟩ := w
        have hloc : Loc X.env.scope n := .inl hln
        refine wpAny_handleBy_cons (codeAny_handlers_test ?_) (by intro q; cases q)
        have lkT : PySem.W.Looks (model X.prog X.w) h3 (typeOf (.ref a)) cls := fun A Q E s k q => wpAny_typeOf_ref (k _ _ ob3) (by rw [zc3.1]; exact q)
        have lkM := PySem.W.exm_one (M := model X.prog X.w) (Jn3.kIn) lkT hx1
        have test : ∀ {Q : Value → Shared → Prop} {E : Value → Shared → Prop}, Q c { s' with heap := h3 } → wpAny (model X.prog X.w) (X.A.mark (some (.ref a))) (eval (.Name x np) X.env) Q E { s' with heap := h3 } := fun {Q E} q => by
          obtain ⟨hg, hdbg, hm | ⟨hm, hv, hnn⟩⟩ := hc
          · exact ld_glob (X := X.suite a ((a, ox3) :: (X.pn ++ pins))) In3 hg hm q hdbg
          · exact ld_blt (X := X.suite a ((a, ox3) :: (X.pn ++ pins))) In3 hg hm hv q hnn hdbg
        refine test (lkM.here ?_)
        cases b with
        | true =>
          refine codeAny_handlers_suite_as ?_
          refine HandSPX.lands_againZ fz3 fun h4 fz4 ut4 => ?_
          have Jn4 : Inv X pins σ' H' { s' with heap := h4 } := J.landed nb fz4.1 ((up.trans ut3).trans ut4) os ag
          obtain ⟨ox4, xs4, ob4, zc4, dt4⟩ := fz4.there
          have In4 := Jn4.suite ob4 dt4 na offL offS
          refine store_ok (X := X.suite a ((a, ox4) :: (X.pn ++ pins))) (v := .ref a) In4 hN hi hloc rfl (fun t5 In5 => ?_) (.inr hln)
          refine wpAny_mono ((hsu a ox4 cls d (X.pn ++ pins) zc4 ⟨_, dt4⟩).run [] t5 _ H' _ In5 (yes rfl a na)) (fun f t6 back => ?_) (fun _ _ z => False.elim z)
          have gone : ∀ {σb : St} {Hb : Hp} {Q : Shared → Prop}, Inv (X.suite a ((a, ox4) :: (X.pn ++ pins))) [] σb Hb t6 → (∀ s7, Inv X pins (σb.set i none) Hb s7 → Q s7) →
              wpAny (model X.prog X.w) X.A (do bindName X.env n .none; unbindBehindTheSuite X.env n pos') (fun _ s7 => Q s7) X.xe t6 := fun {σb Hb Q} Inb hq => gone_ok (Inb.unsuite ok) hN hi hln hq
          cases f with
          | next =>
            obtain ⟨σb, Hb, Inb, qb⟩ := back
            exact gone Inb fun s7 J7 => ⟨_, _, J7, qb⟩
          | brk =>
            obtain ⟨σb, Hb, Inb, qb⟩ := back
            exact gone Inb fun s7 J7 => ⟨_, _, J7, qb⟩
          | cont =>
            obtain ⟨σb, Hb, Inb, qb⟩ := back
            exact gone Inb fun s7 J7 => ⟨_, _, J7, qb⟩
          | ret u =>
            obtain ⟨vb, σb, Hb, Inb, rb, qb⟩ := back
            exact gone Inb fun s7 J7 => ⟨_, _, _, J7, rb, qb⟩
        | false =>
          show wpAny _ X.A (handleBy (.ref a) X.env hds2) _ _ _
          exact ih (nay rfl)
    exact go hh w
  · cases f with
    | next =>
      obtain ⟨σ', H', J', q⟩ := back
      exact wpAny_execs_nil ⟨σ', H', J'.ofTry ok, q⟩
    | brk =>
      obtain ⟨σ', H', J', q⟩ := back
      exact ⟨σ', H', J'.ofTry ok, q⟩
    | cont =>
      obtain ⟨σ', H', J', q⟩ := back
      exact ⟨σ', H', J'.ofTry ok, q⟩
    | ret u =>
      obtain ⟨v, σ', H', J', r, q⟩ := back
      exact ⟨v, σ', H', J'.ofTry ok, r, q⟩
end
end L2

namespace Pm
/-! ### forms and blocks -/
def form : Nat → List Nat
  | 0 => [0] | 1 => [1, 0] | 2 => [1, 1] | 3 => [1, 2, 1] | 4 => [1, 2, 2] | 5 => [1, 2, 1, 2] | 6 => [1, 2, 3, 2] | _ => [1, 2, 3, 0]
abbrev Bk := Nat × List Nat
structure Blk (ys : List Nat) (b : Bk) : Prop where
  w : b.1 < 8
  len : b.2.length = (form b.1).length
  sh : ∀ k, k < b.2.length → ys.getD (b.2.getD k 0) 0 = b.2.getD ((form b.1).getD k 0) 0
structure Built (ys : List Nat) (bs : List Bk) : Prop where
  blk : ∀ b ∈ bs, Blk ys b
  perm : (bs.flatMap (·.2)).Perm (List.range ys.length)
theorem form_len (w : Nat) : 0 < (form w).length := by
  unfold form
  split <;> decide
theorem form_lt (w k : Nat) (h : k < (form w).length) : (form w).getD k 0 < (form w).length := by
  unfold form at h ⊢
  split at h <;> (simp at h ⊢; rcases k with _ | _ | _ | _ | k <;> simp at h ⊢ <;> omega)
/-- the least of a list -/
def mn : List Nat → Nat
  | [] => 0
  | [a] => a
  | a :: b :: l => min a (mn (b :: l))
theorem mn_mem : ∀ {l : List Nat}, l ≠ [] → mn l ∈ l
  | [], h => absurd rfl h
  | [a], _ => by simp [mn]
  | a :: b :: l, _ => by
    have ih := mn_mem (l := b :: l) (by simp)
    unfold mn
    by_cases h : a ≤ mn (b :: l)
    · rw [Nat.min_eq_left h]; exact List.mem_cons_self ..
    · rw [Nat.min_eq_right (by omega)]; exact List.mem_cons_of_mem _ ih
theorem mn_le : ∀ {l : List Nat} {x : Nat}, x ∈ l → mn l ≤ x
  | [a], x, h => by
    rw [List.mem_singleton.mp h]
    exact Nat.le_refl _
  | a :: b :: l, x, h => by
    unfold mn
    rcases List.mem_cons.mp h with e | h
    · rw [e]; exact Nat.min_le_left _ _
    · exact Nat.le_trans (Nat.min_le_right _ _) (mn_le h)
theorem uniq : ∀ {bs : List Bk} {b c : Bk} {x : Nat}, (bs.flatMap (·.2)).Nodup → b ∈ bs → c ∈ bs → x ∈ b.2 → x ∈ c.2 → b = c
  | a :: bs, b, c, x, nd, hb, hc, xb, xc => by
    rw [List.flatMap_cons, List.nodup_append] at nd
    rcases List.mem_cons.mp hb with e1 | hb
    · rcases List.mem_cons.mp hc with e2 | hc
      · rw [e1, e2]
      · exact absurd rfl (nd.2.2 x (e1 ▸ xb) x (List.mem_flatMap.mpr ⟨c, hc, xc⟩))
    · rcases List.mem_cons.mp hc with e2 | hc
      · exact absurd rfl (nd.2.2 x (e2 ▸ xc) x (List.mem_flatMap.mpr ⟨b, hb, xb⟩))
      · exact uniq nd.2.1 hb hc xb xc
theorem nd_of : ∀ {bs : List Bk} {b : Bk}, (bs.flatMap (·.2)).Nodup → b ∈ bs → b.2.Nodup
  | a :: bs, b, nd, hb => by
    rw [List.flatMap_cons, List.nodup_append] at nd
    rcases List.mem_cons.mp hb with e1 | hb
    · rw [e1]; exact nd.1
    · exact nd_of nd.2.1 hb
def beta (bs : List Bk) (x : Nat) : Nat := match bs.find? (fun b => b.2.contains x) with
  | some b => mn b.2
  | none => x
section
variable {ys : List Nat} {bs : List Bk}
theorem Built.nd (B : Built ys bs) : (bs.flatMap (·.2)).Nodup := B.perm.nodup_iff.mpr List.nodup_range
theorem Built.lt (B : Built ys bs) {b : Bk} (hb : b ∈ bs) {x : Nat} (hx : x ∈ b.2) : x < ys.length :=
  List.mem_range.mp (B.perm.mem_iff.mp (List.mem_flatMap.mpr ⟨b, hb, hx⟩))
theorem Built.of (B : Built ys bs) {x : Nat} (hx : x < ys.length) : ∃ b ∈ bs, x ∈ b.2 := by
  obtain ⟨b, hb, h⟩ := List.mem_flatMap.mp (B.perm.mem_iff.mpr (List.mem_range.mpr hx))
  exact ⟨b, hb, h⟩
theorem Built.beta_of (B : Built ys bs) {b : Bk} (hb : b ∈ bs) {x : Nat} (hx : x ∈ b.2) : beta bs x = mn b.2 := by
  unfold beta
  cases h : bs.find? (fun b => b.2.contains x) with
  | none =>
    have := List.find?_eq_none.mp h b hb
    simp [hx] at this
  | some c =>
    have h1 := List.mem_of_find?_eq_some h
    have h2 := List.find?_some h
    have h3 : x ∈ c.2 := by simpa using h2
    rw [uniq B.nd hb h1 hx h3]
theorem Built.ne (B : Built ys bs) {b : Bk} (hb : b ∈ bs) : b.2 ≠ [] := fun z => by
  have h := (B.blk b hb).len
  have := form_len b.1
  rw [z] at h
  simp at h
  omega
theorem Built.mn_beta (B : Built ys bs) {b : Bk} (hb : b ∈ bs) : beta bs (mn b.2) = mn b.2 := B.beta_of hb (mn_mem (B.ne hb))
theorem Built.beta_le (B : Built ys bs) {x : Nat} (hx : x < ys.length) : beta bs x ≤ x := by
  obtain ⟨b, hb, h⟩ := B.of hx
  rw [B.beta_of hb h]
  exact mn_le h
theorem getD_mem {l : List Nat} {k : Nat} (h : k < l.length) : l.getD k 0 ∈ l := by
  rw [List.getD_eq_getElem?_getD, List.getElem?_eq_getElem h]
  exact List.getElem_mem h
theorem mem_getD {l : List Nat} {x : Nat} (h : x ∈ l) : ∃ k, k < l.length ∧ l.getD k 0 = x := by
  obtain ⟨k, hk, e⟩ := List.getElem_of_mem h
  exact ⟨k, hk, by rw [List.getD_eq_getElem?_getD, List.getElem?_eq_getElem hk]; exact e⟩
/-- what a record shows is of its block -/
theorem Built.shown (B : Built ys bs) {b : Bk} (hb : b ∈ bs) {x : Nat} (hx : x ∈ b.2) : ys.getD x 0 ∈ b.2 := by
  obtain ⟨k, hk, rfl⟩ := mem_getD hx
  have Q := B.blk b hb
  rw [Q.sh k hk]
  exact getD_mem (by rw [Q.len]; exact form_lt _ _ (by rw [← Q.len]; exact hk))
theorem Built.edge (B : Built ys bs) {x : Nat} (hx : x < ys.length) : ys.getD x 0 < ys.length ∧ beta bs (ys.getD x 0) = beta bs x := by
  obtain ⟨b, hb, h⟩ := B.of hx
  have h2 := B.shown hb h
  exact ⟨B.lt hb h2, by rw [B.beta_of hb h, B.beta_of hb h2]⟩
end
/-! ### the labels -/
def stepL (L : List Nat) (r nm : Nat) : List Nat := if min (L.getD r 0) (L.getD nm 0) = max (L.getD r 0) (L.getD nm 0) then L else L.map fun o => if o = max (L.getD r 0) (L.getD nm 0) then min (L.getD r 0) (L.getD nm 0) else o
def lab (ys : List Nat) : Nat → List Nat
  | 0 => List.range ys.length
  | i + 1 => stepL (lab ys i) i (ys.getD i 0)
structure Lab (ys : List Nat) (bs : List Bk) (i : Nat) (L : List Nat) : Prop where
  len : L.length = ys.length
  le : ∀ x, x < ys.length → L.getD x 0 ≤ x
  fx : ∀ x, x < ys.length → L.getD (L.getD x 0) 0 = L.getD x 0
  bl : ∀ x, x < ys.length → beta bs (L.getD x 0) = beta bs x
  ed : ∀ r, r < i → r < ys.length → L.getD r 0 = L.getD (ys.getD r 0) 0
theorem getD_map {L : List Nat} {f : Nat → Nat} {x : Nat} (h : x < L.length) : (L.map f).getD x 0 = f (L.getD x 0) := by
  rw [List.getD_eq_getElem?_getD, List.getElem?_map, List.getD_eq_getElem?_getD, List.getElem?_eq_getElem h]
  rfl
theorem getD_range {n x : Nat} (h : x < n) : (List.range n).getD x 0 = x := by
  rw [List.getD_eq_getElem?_getD, List.getElem?_range h]
  rfl
theorem lab_ok {ys : List Nat} {bs : List Bk} (B : Built ys bs) : ∀ i, i ≤ ys.length → Lab ys bs i (lab ys i)
  | 0, _ => ⟨List.length_range, fun x hx => by show (List.range _).getD x 0 ≤ x; rw [getD_range hx]; exact Nat.le_refl _,
      fun x hx => by show (List.range _).getD ((List.range _).getD x 0) 0 = (List.range _).getD x 0; rw [getD_range hx, getD_range hx],
      fun x hx => by show beta bs ((List.range _).getD x 0) = _; rw [getD_range hx], fun r h => absurd h (Nat.not_lt_zero _)⟩
  | i + 1, hi => by
    have ih := lab_ok B i (by omega)
    have hin : i < ys.length := by omega
    obtain ⟨hnm, hbe⟩ := B.edge hin
    show Lab ys bs (i + 1) (stepL (lab ys i) i (ys.getD i 0))
    generalize lab ys i = L at ih
    generalize hnmE : ys.getD i 0 = nm at hnm hbe
    unfold stepL
    have a1 := ih.fx i hin
    have b1 := ih.fx nm hnm
    have a2 := ih.le i hin
    have b2 := ih.le nm hnm
    have a3 := ih.bl i hin
    have b3 := ih.bl nm hnm
    generalize ha : L.getD i 0 = a at *
    generalize hb : L.getD nm 0 = b at *
    by_cases heq : min a b = max a b
    · rw [if_pos heq]
      refine ⟨ih.len, ih.le, ih.fx, ih.bl, fun r hr hrn => ?_⟩
      by_cases h : r = i
      · rw [h, ha, hnmE, hb]
        omega
      · exact ih.ed r (by omega) hrn
    · rw [if_neg heq]
      have hlow : L.getD (min a b) 0 = min a b := by
        by_cases h : a ≤ b
        · rw [Nat.min_eq_left h]; exact a1
        · rw [Nat.min_eq_right (by omega)]; exact b1
      have hbl : beta bs (min a b) = beta bs (max a b) := by
        by_cases h : a ≤ b
        · rw [Nat.min_eq_left h, Nat.max_eq_right h, a3, b3, hbe]
        · rw [Nat.min_eq_right (by omega), Nat.max_eq_left (by omega), a3, b3, hbe]
      have at_ : ∀ x, x < ys.length → (L.map fun o => if o = max a b then min a b else o).getD x 0 = if L.getD x 0 = max a b then min a b else L.getD x 0 := fun x hx => getD_map (by rw [ih.len]; exact hx)
      have hminlt : min a b < ys.length := by omega
      refine ⟨by rw [List.length_map]; exact ih.len, fun x hx => ?_, fun x hx => ?_, fun x hx => ?_, fun r hr hrn => ?_⟩
      · rw [at_ x hx]
        have := ih.le x hx
        split <;> omega
      · rw [at_ x hx]
        by_cases h : L.getD x 0 = max a b
        · rw [if_pos h, at_ _ hminlt, hlow, if_neg heq]
        · rw [if_neg h]
          have hl := ih.le x hx
          rw [at_ _ (by omega), ih.fx x hx, if_neg h]
      · rw [at_ x hx]
        by_cases h : L.getD x 0 = max a b
        · rw [if_pos h, hbl, ← h]; exact ih.bl x hx
        · rw [if_neg h]; exact ih.bl x hx
      · rw [at_ r hrn, at_ _ (B.edge hrn).1]
        by_cases h : r = i
        · rw [h, ha, hnmE, hb]
          by_cases hab : a ≤ b
          · rw [Nat.min_eq_left hab, Nat.max_eq_right hab]
            by_cases hq : a = b <;> simp [hq]
          · rw [Nat.min_eq_right (by omega), Nat.max_eq_left (by omega)]
            by_cases hq : b = a <;> simp [hq]
        · rw [ih.ed r (by omega) hrn]
theorem conn {w : Nat} {ms : List Nat} {f : Nat → Nat} (hl : ms.length = (form w).length) (h : ∀ k, k < ms.length → f (ms.getD k 0) = f (ms.getD ((form w).getD k 0) 0)) : ∀ k, k < ms.length → f (ms.getD k 0) = f (ms.getD 0 0) := by
  unfold form at hl h
  split at hl
  all_goals (simp only [List.length_cons, List.length_nil] at hl; intro k hk)
  all_goals (have h0 := h 0 (by omega); try have h1 := h 1 (by omega))
  all_goals (try have h2 := h 2 (by omega))
  all_goals (try have h3 := h 3 (by omega))
  all_goals (rcases k with _ | _ | _ | _ | k)
  all_goals first | omega | rfl | (simp at h0 h1 h2 h3 ⊢; omega) | (simp at h0 h1 h2 ⊢; omega) | (simp at h0 h1 ⊢; omega) | (simp at h0 ⊢; omega)
end Pm

namespace Pm
inductive Cs (g : Nat → Nat) : Nat → List Nat → Prop
  | free (a) : g a = a → Cs g 0 [a]
  | pair (a b) : g a = b → g b = a → Cs g 1 [a, b]
  | claim (a b) : g a = b → g b = b → Cs g 2 [a, b]
  | hook (c a b) : g c = a → g a = b → g b = a → Cs g 3 [c, a, b]
  | relay (c a b) : g c = a → g a = b → g b = b → Cs g 4 [c, a, b]
  | clamp (d a b c) : g d = a → g a = b → g b = a → g c = b → Cs g 5 [d, a, b, c]
  | trail (d c a b) : g d = c → g c = a → g a = b → g b = a → Cs g 6 [d, c, a, b]
  | wheel (a b c d) : g a = b → g b = c → g c = d → g d = a → Cs g 7 [a, b, c, d]
theorem Blk.cs {ys : List Nat} {b : Bk} (Q : Blk ys b) : Cs (fun x => ys.getD x 0) b.1 b.2 := by
  obtain ⟨w, ms⟩ := b
  obtain ⟨hw, hl, h⟩ := Q
  dsimp only at hw hl h
  match w, hw with
  | 0, _ => match ms, hl with | [a], _ => exact .free a (by simpa [form] using h 0 (by simp))
  | 1, _ => match ms, hl with | [a, b], _ => exact .pair a b (by simpa [form] using h 0 (by simp)) (by simpa [form] using h 1 (by simp))
  | 2, _ => match ms, hl with | [a, b], _ => exact .claim a b (by simpa [form] using h 0 (by simp)) (by simpa [form] using h 1 (by simp))
  | 3, _ => match ms, hl with | [a, b, c], _ => exact .hook a b c (by simpa [form] using h 0 (by simp)) (by simpa [form] using h 1 (by simp)) (by simpa [form] using h 2 (by simp))
  | 4, _ => match ms, hl with | [a, b, c], _ => exact .relay a b c (by simpa [form] using h 0 (by simp)) (by simpa [form] using h 1 (by simp)) (by simpa [form] using h 2 (by simp))
  | 5, _ => match ms, hl with | [a, b, c, d], _ => exact .clamp a b c d (by simpa [form] using h 0 (by simp)) (by simpa [form] using h 1 (by simp)) (by simpa [form] using h 2 (by simp)) (by simpa [form] using h 3 (by simp))
  | 6, _ => match ms, hl with | [a, b, c, d], _ => exact .trail a b c d (by simpa [form] using h 0 (by simp)) (by simpa [form] using h 1 (by simp)) (by simpa [form] using h 2 (by simp)) (by simpa [form] using h 3 (by simp))
  | 7, _ => match ms, hl with | [a, b, c, d], _ => exact .wheel a b c d (by simpa [form] using h 0 (by simp)) (by simpa [form] using h 1 (by simp)) (by simpa [form] using h 2 (by simp)) (by simpa [form] using h 3 (by simp))
structure Canon (b : Bk) : Prop where
  pair : b.1 = 1 → b.2.getD 0 0 < b.2.getD 1 0
  clamp : b.1 = 5 → b.2.getD 0 0 < b.2.getD 3 0
  wheel : b.1 = 7 → b.2.getD 0 0 = mn b.2
section
variable {ys : List Nat} {bs : List Bk}
theorem lab_end (B : Built ys bs) {x : Nat} (hx : x < ys.length) : (lab ys ys.length).getD x 0 = beta bs x := by
  have Q := lab_ok B ys.length (Nat.le_refl _)
  generalize lab ys ys.length = L at Q ⊢
  obtain ⟨b, hb, hxb⟩ := B.of hx
  have P := B.blk b hb
  have cn := conn (f := fun x => L.getD x 0) P.len fun k hk => by
    show L.getD (b.2.getD k 0) 0 = _
    have hm := B.lt hb (getD_mem hk)
    rw [Q.ed _ hm hm, P.sh k hk]
  have h0 : 0 < b.2.length := List.length_pos_iff.mpr (B.ne hb)
  have same : ∀ y, y ∈ b.2 → L.getD y 0 = L.getD (b.2.getD 0 0) 0 := fun y hy => by
    obtain ⟨k, hk, rfl⟩ := mem_getD hy
    exact cn k hk
  have hmn := mn_mem (B.ne hb)
  have e1 : L.getD x 0 = L.getD (mn b.2) 0 := by rw [same x hxb, same _ hmn]
  have h1 := Q.le (mn b.2) (B.lt hb hmn)
  have h2 := Q.bl x hx
  have h3 := Q.le x hx
  have h4 := B.beta_le (x := L.getD x 0) (by omega)
  have h5 := B.beta_of hb hxb
  omega
def grp (bs : List Bk) (n m : Nat) : List Nat := (List.range n).filter fun x => decide (beta bs x = m)
def roots (bs : List Bk) (n : Nat) : List Nat := (List.range n).filter fun x => decide (beta bs x = x)
theorem nodup_filter {l : List Nat} (p : Nat → Bool) (h : l.Nodup) : (l.filter p).Nodup := h.sublist List.filter_sublist
theorem grp_nd {n m : Nat} : (grp bs n m).Nodup := nodup_filter _ List.nodup_range
theorem grp_lt {n m : Nat} : (grp bs n m).Pairwise (· < ·) := List.Pairwise.filter _ List.pairwise_lt_range
theorem Built.mem_grp (B : Built ys bs) {b : Bk} (hb : b ∈ bs) {x : Nat} : x ∈ grp bs ys.length (mn b.2) ↔ x ∈ b.2 := by
  unfold grp
  rw [List.mem_filter, List.mem_range, decide_eq_true_eq]
  constructor
  · rintro ⟨h1, h2⟩
    obtain ⟨c, hc, hx⟩ := B.of h1
    rw [B.beta_of hc hx] at h2
    have e := uniq B.nd hc hb (x := mn b.2) (by rw [← h2]; exact mn_mem (B.ne hc)) (mn_mem (B.ne hb))
    exact e ▸ hx
  · exact fun h => ⟨B.lt hb h, B.beta_of hb h⟩
theorem Built.grp_perm (B : Built ys bs) {b : Bk} (hb : b ∈ bs) : (grp bs ys.length (mn b.2)).Perm b.2 :=
  (List.perm_ext_iff_of_nodup grp_nd (nd_of B.nd hb)).mpr fun x => B.mem_grp hb
theorem Built.roots_eq (B : Built ys bs) (hs : bs.Pairwise fun a b => mn a.2 < mn b.2) : roots bs ys.length = bs.map fun b => mn b.2 := by
  have s1 : (roots bs ys.length).Pairwise (· < ·) := List.Pairwise.filter _ List.pairwise_lt_range
  have s2 : (bs.map fun b => mn b.2).Pairwise (· < ·) := List.pairwise_map.mpr hs
  refine List.Perm.eq_of_pairwise (le := (· < ·)) (fun a b _ _ h1 h2 => by omega) s1 s2 ?_
  refine (List.perm_ext_iff_of_nodup (s1.imp fun h => by omega) (s2.imp fun h => by omega)).mpr fun x => ?_
  unfold roots
  rw [List.mem_filter, List.mem_range, decide_eq_true_eq, List.mem_map]
  constructor
  · rintro ⟨h1, h2⟩
    obtain ⟨b, hb, hx⟩ := B.of h1
    exact ⟨b, hb, by rw [← h2, B.beta_of hb hx]⟩
  · rintro ⟨b, hb, rfl⟩
    exact ⟨B.lt hb (mn_mem (B.ne hb)), B.mn_beta hb⟩
/-! ### one group's row -/
def path (b : Bk) : List Nat := if b.1 = 5 then b.2.take 3 else b.2
theorem filter_one {l : List Nat} {q : Nat → Bool} {x : Nat} (nd : l.Nodup) (hx : x ∈ l) (h1 : q x = true) (h2 : ∀ y ∈ l, q y = true → y = x) : l.filter q = [x] := by
  have nd2 := nodup_filter q nd
  have m : ∀ y, y ∈ l.filter q ↔ y = x := fun y => by
    rw [List.mem_filter]
    exact ⟨fun h => h2 y h.1 h.2, fun h => by rw [h]; exact ⟨hx, h1⟩⟩
  match hl : l.filter q with
  | [] => exact absurd ((m x).mpr rfl) (by rw [hl]; simp)
  | [a] => rw [(m a).mp (by rw [hl]; simp)]
  | a :: b :: r =>
    rw [hl] at nd2 m
    have ea := (m a).mp (by simp)
    have eb := (m b).mp (by simp)
    simp [ea, eb] at nd2
theorem mn_sing {a : Nat} : mn [a] = a := rfl
/-- the walk of a form -/
structure Walks (g : Nat → Nat) (p : List Nat) : Prop where
  pos : 0 < p.length
  nd : p.Nodup
  next : ∀ j, j + 1 < p.length → g (p.getD j 0) = p.getD (j + 1) 0
  back : g (p.getD (p.length - 1) 0) ∈ p
theorem Built.walks (B : Built ys bs) {b : Bk} (hb : b ∈ bs) : Walks (fun x => ys.getD x 0) (path b) := by
  have nd := nd_of B.nd hb
  have C := (B.blk b hb).cs
  obtain ⟨w, ms⟩ := b
  dsimp only at C nd
  unfold path
  dsimp only
  generalize (fun x => ys.getD x 0) = g at C
  cases C
  all_goals (simp at nd ⊢)
  all_goals (refine ⟨by simp, by simp; try simp [nd], fun j hj => ?_, by simp [*]⟩)
  all_goals (rcases j with _ | _ | _ | _ | j)
  all_goals first | (simp at hj; done) | (simp [*]; done) | (simp at hj ⊢; omega) | skip
theorem Built.left (B : Built ys bs) {b : Bk} (hb : b ∈ bs) : path b ++ (grp bs ys.length (mn b.2)).filter (fun x => !(path b).contains x) = b.2 := by
  have nd := nd_of B.nd hb
  have C := (B.blk b hb).cs
  have M : ∀ x, x ∈ grp bs ys.length (mn b.2) ↔ x ∈ b.2 := fun x => B.mem_grp hb
  have N : (grp bs ys.length (mn b.2)).Nodup := grp_nd
  generalize grp bs ys.length (mn b.2) = l at M N
  by_cases h5 : b.1 = 5
  · obtain ⟨w, ms⟩ := b
    dsimp only at h5 C nd M ⊢
    subst h5
    cases C
    rename_i d a b c h1 h2 h3 h4
    unfold path
    simp at nd ⊢
    rw [filter_one (x := c) N (by rw [M]; simp) (by simp; omega) fun y hy hq => ?_]
    rw [M] at hy
    simp at hy hq
    omega
  · unfold path
    rw [if_neg h5]
    have e : l.filter (fun x => !b.2.contains x) = [] := by
      rw [List.filter_eq_nil_iff]
      intro x hx
      have := (M x).mp hx
      simp [this]
    rw [e, List.append_nil]
/-- where the walk starts: at the first record that no other of the group shows, or at the first one -/
theorem Built.start (B : Built ys bs) {b : Bk} (hb : b ∈ bs) (K : Canon b) (T : List Nat)
    (hT : T = (grp bs ys.length (mn b.2)).filter (fun x => !((grp bs ys.length (mn b.2)).map fun y => ys.getD y 0).contains x)) :
    (T = [] → (grp bs ys.length (mn b.2)).head? = some (b.2.getD 0 0)) ∧ (T ≠ [] → T.head? = some (b.2.getD 0 0)) := by
  have nd := nd_of B.nd hb
  have C := (B.blk b hb).cs
  have M : ∀ x, x ∈ grp bs ys.length (mn b.2) ↔ x ∈ b.2 := fun x => B.mem_grp hb
  have sh : ∀ x, ((grp bs ys.length (mn b.2)).map fun y => ys.getD y 0).contains x = (b.2.map fun y => ys.getD y 0).contains x := fun x => by
    rw [Bool.eq_iff_iff, List.contains_iff_mem, List.contains_iff_mem, List.mem_map, List.mem_map]
    exact ⟨fun ⟨y, hy, e⟩ => ⟨y, (M y).mp hy, e⟩, fun ⟨y, hy, e⟩ => ⟨y, (M y).mpr hy, e⟩⟩
  have hT2 : T = (List.range ys.length).filter fun x => decide (beta bs x = mn b.2) && !(b.2.map fun y => ys.getD y 0).contains x := by
    rw [hT]
    unfold grp
    rw [List.filter_filter]
    refine List.filter_congr fun x hx => ?_
    have := sh x
    unfold grp at this
    rw [this, Bool.and_comm]
  have inB : ∀ x, x < ys.length → (decide (beta bs x = mn b.2) = true ↔ x ∈ b.2) := fun x hx => by
    rw [← M x]
    unfold grp
    rw [List.mem_filter, List.mem_range]
    exact ⟨fun h => ⟨hx, h⟩, fun h => h.2⟩
  have root : b.2.getD 0 0 = mn b.2 → (grp bs ys.length (mn b.2)).head? = some (b.2.getD 0 0) := fun e => by
    unfold grp
    rw [List.head?_filter, List.find?_range_eq_some, e]
    refine ⟨by rw [decide_eq_true_eq]; exact B.mn_beta hb, List.mem_range.mpr (B.lt hb (mn_mem (B.ne hb))), fun j hj => ?_⟩
    have hjn : j < ys.length := Nat.lt_trans hj (B.lt hb (mn_mem (B.ne hb)))
    have := B.beta_le hjn
    simp
    omega
  have tail : ∀ m0 : Nat, m0 ∈ b.2 → (b.2.map fun y => ys.getD y 0).contains m0 = false → (∀ j, j < m0 → j ∈ b.2 → (b.2.map fun y => ys.getD y 0).contains j = true) → T.head? = some m0 := fun m0 h1 h2 h3 => by
    rw [hT2, List.head?_filter, List.find?_range_eq_some]
    refine ⟨by rw [h2, (inB m0 (B.lt hb h1)).mpr h1]; rfl, List.mem_range.mpr (B.lt hb h1), fun j hj => ?_⟩
    have hjn : j < ys.length := Nat.lt_trans hj (B.lt hb h1)
    by_cases hjb : j ∈ b.2
    · rw [h3 j hj hjb]
      simp
    · have : decide (beta bs j = mn b.2) = false := by
        cases h : decide (beta bs j = mn b.2) with
        | false => rfl
        | true => exact absurd ((inB j hjn).mp h) hjb
      rw [this]
      rfl
  have none : (∀ x ∈ b.2, (b.2.map fun y => ys.getD y 0).contains x = true) → T = [] := fun h => by
    rw [hT2, List.filter_eq_nil_iff]
    intro x hx
    have hxn := List.mem_range.mp hx
    by_cases hxb : x ∈ b.2
    · rw [h x hxb]
      simp
    · intro z
      rw [Bool.and_eq_true] at z
      exact hxb ((inB x hxn).mp z.1)
  obtain ⟨w, ms⟩ := b
  dsimp only at *
  generalize hg : (fun y => ys.getD y 0) = g at C tail none
  clear hT hT2 sh
  cases C with
  | free a h1 =>
    have t := none (by simp [h1])
    exact ⟨fun _ => root rfl, fun h => absurd t h⟩
  | pair a b h1 h2 =>
    have t := none (by simp [h1, h2])
    have := K.pair rfl
    simp at this
    exact ⟨fun _ => root (by simp [mn]; omega), fun h => absurd t h⟩
  | wheel a b c d h1 h2 h3 h4 =>
    have t := none (by simp [h1, h2, h3, h4])
    exact ⟨fun _ => root (K.wheel rfl), fun h => absurd t h⟩
  | claim a b h1 h2 =>
    simp at nd
    have t := tail a (by simp) (by simp [h1, h2]; omega) (fun j hj hm => by simp at hm; simp [h1, h2]; omega)
    exact ⟨fun h => (by rw [h] at t; simp at t), fun _ => t⟩
  | hook c a b h1 h2 h3 =>
    simp at nd
    have t := tail c (by simp) (by simp [h1, h2, h3]; omega) (fun j hj hm => by simp at hm; simp [h1, h2, h3]; omega)
    exact ⟨fun h => (by rw [h] at t; simp at t), fun _ => t⟩
  | relay c a b h1 h2 h3 =>
    simp at nd
    have t := tail c (by simp) (by simp [h1, h2, h3]; omega) (fun j hj hm => by simp at hm; simp [h1, h2, h3]; omega)
    exact ⟨fun h => (by rw [h] at t; simp at t), fun _ => t⟩
  | clamp d a b c h1 h2 h3 h4 =>
    simp at nd
    have kk := K.clamp rfl
    simp at kk
    have t := tail d (by simp) (by simp [h1, h2, h3, h4]; omega) (fun j hj hm => by simp at hm; simp [h1, h2, h3, h4]; omega)
    exact ⟨fun h => (by rw [h] at t; simp at t), fun _ => t⟩
  | trail d c a b h1 h2 h3 h4 =>
    simp at nd
    have t := tail d (by simp) (by simp [h1, h2, h3, h4]; omega) (fun j hj hm => by simp at hm; simp [h1, h2, h3, h4]; omega)
    exact ⟨fun h => (by rw [h] at t; simp at t), fun _ => t⟩
end
end Pm

namespace L2
open PySem PySem.Spec PyProof.Rows
/-! ### a table of the text keyed by tuples of ints -/
def numK (ks : List Nat) : NestedKey := .tup (ks.map fun k : Nat => NestedKey.num (k : Int))
/-- at a, in the written part: a table of the given keys and texts -/
def TabK (P : Program) (w : World) (K : PySem.W.Frag) (a : Addr) (kvs : List (List Nat × Str)) : Prop := (a == sysModules) = false ∧
  ∃ ts : List Tok, ∀ h : Heap, K.In h → h.DictKeyed (nestedKind P w) a ((kvs.zip ts).map fun x => (numK x.1.1, Value.str x.1.2 x.2)) ∧ ts.length = kvs.length
theorem numK_depth : ∀ ks : List Nat, (numK ks).depth ≤ 8 := fun ks => by
  have h : ∀ l : List Nat, NestedKey.depthAll (l.map fun k : Nat => NestedKey.num (k : Int)) ≤ 1 := fun l => by
    induction l with
    | nil => simp [NestedKey.depthAll]
    | cons a l ih =>
      simp only [List.map_cons, NestedKey.depthAll, NestedKey.depth]
      omega
  have := h ks
  unfold numK
  simp only [NestedKey.depth]
  omega
theorem numAll_of {h : Heap} : ∀ {ks : List Nat} {us : List Value}, Vals (ks.map fun k : Nat => V.int (k : Int)) us → NestedAll h (ks.map fun k : Nat => NestedKey.num (k : Int)) us
  | [], _, r => by cases r; exact .nil
  | k :: ks, _, r => by
    cases r with
    | cons r1 r2 =>
      obtain ⟨t, e⟩ := r1
      rw [e]
      exact .cons (.int _ t) (numAll_of r2)
/-- d.get(t) of such a table, the key there -/
def tTabGet (P : Program) (w : World) (K : PySem.W.Frag) (td te : TE) : TE := fun σ H Q => td σ H fun x H1 => ∃ (a : Addr) (kvs : List (List Nat × Str)), x = .ref a ∧ TabK P w K a kvs ∧ te σ H1 fun y H2 => ∃ (p : Addr) (ks : List Nat) (z : Str), y = .ref p ∧ H2 p = some (.tup (ks.map fun k : Nat => V.int (k : Int))) ∧
  (∃ i, kvs[i]? = some (ks, z) ∧ ∀ (j : Nat) (q : List Nat × Str), j < i → kvs[j]? = some q → q.1 ≠ ks) ∧ Q (.str z) H2
theorem numK_inj {a b : List Nat} (h : numK a = numK b) : a = b := by
  unfold numK at h
  injection h with h
  have g : ∀ {l m : List Nat}, (l.map fun k : Nat => NestedKey.num (k : Int)) = (m.map fun k : Nat => NestedKey.num (k : Int)) → l = m := by
    intro l
    induction l with
    | nil =>
      intro m e
      cases m with
      | nil => rfl
      | cons _ _ => cases e
    | cons a l ih =>
      intro m e
      cases m with
      | nil => cases e
      | cons b m =>
        rw [List.map_cons, List.map_cons] at e
        injection e with e1 e2
        injection e1 with e1
        have : a = b := by omega
        rw [this, ih e2]
  exact g h
theorem tab_find {ks : List Nat} {z : Str} : ∀ {kvs : List (List Nat × Str)} {ts : List Tok} {i : Nat}, ts.length = kvs.length → kvs[i]? = some (ks, z) → (∀ (j : Nat) (q : List Nat × Str), j < i → kvs[j]? = some q → q.1 ≠ ks) →
    ∃ t : Tok, valueAt ((kvs.zip ts).map fun x => (numK x.1.1, Value.str x.1.2 x.2)) (numK ks) = some (Value.str z t)
  | [], _, i, _, h, _ => by simp at h
  | _ :: _, [], _, hl, _, _ => by simp at hl
  | (k0, z0) :: kvs, t0 :: ts, 0, _, h, _ => by
    have e := Option.some.inj h
    cases e
    exact ⟨t0, by simp [valueAt]⟩
  | (k0, z0) :: kvs, t0 :: ts, i + 1, hl, h, hn => by
    have ne : k0 ≠ ks := hn 0 (k0, z0) (Nat.succ_pos _) rfl
    have ne2 : ¬ numK k0 = numK ks := fun e => ne (numK_inj e)
    obtain ⟨t, e⟩ := tab_find (ks := ks) (z := z) (kvs := kvs) (ts := ts) (i := i) (by simpa using hl) (by simpa using h) fun j q hj hq => hn (j + 1) q (by omega) (by simpa using hq)
    refine ⟨t, ?_⟩
    unfold valueAt at e ⊢
    rw [List.zip_cons_cons, List.map_cons, List.find?_cons_of_neg (by simpa using ne2)]
    exact e
theorem pe_tabGet {X : Cx} {o e : Expr} {td te : TE} {apos cpos : Pos} (hu : X.A.units + 64 < cLine) (ho : PE X o td) (he : PE X e te) (m : M1 X o "get" apos e cpos) : PE X (.Call (.Attribute o "get" apos) [e] [] cpos) (tTabGet X.prog X.w X.K td te) := by
  refine ⟨fun pins s σ H Q I h => ?_⟩
  refine wpAny_Call_method m.base m.few m.line PySem.F.plainAttrs_dict PySem.F.slot_dict_get PySem.F.type_dict_get (thn (ho.run pins s σ H _ I h) fun u s1 ⟨x, H1, I1, rx, a, kvs, ex, ⟨hsm, ts, hT⟩, q1⟩ => ?_)
  subst ex
  obtain rfl : u = Value.ref a := rx
  obtain ⟨hD, _⟩ := hT _ I1.kIn
  have hD' := hD
  obtain ⟨xs, ⟨ob, es, ep, hob, hcl, hdat, _⟩, _⟩ := hD'
  refine ⟨hD.typeIs, fun b q => by cases q; exact ⟨ob, hob, hcl.2.1⟩, ?_⟩
  rw [m.trees]
  refine Calls.callWith_builtin rfl (Calls.evalArgs_plain (Calls.spliced_cons (thn (he.run pins s1 σ H1 _ I1 q1) fun iv s2 ⟨y, H2, I2, ry, p, ks, z, ey, hp, ⟨i, hi, hlt⟩, q2⟩ => Calls.spliced_nil ?_)))
  subst ey
  obtain rfl : iv = Value.ref p := ry
  obtain ⟨_, its, rv, ot, h1, h2, n, h3⟩ := (show ObjOk X.prog X.w H2 s2.heap p (.tup (ks.map fun k : Nat => V.int (k : Int))) from I2.hok p _ hp)
  obtain ⟨hD2, hlen⟩ := hT _ I2.kIn
  obtain ⟨t, ht⟩ := tab_find hlen hi hlt
  have hk : (nestedKind X.prog X.w).is s2.heap (numK ks) p := ⟨.tup h1 h2 h3 (by simpa using numAll_of (h := s2.heap) rv), numK_depth ks⟩
  refine get_keyed (knd := nestedKind X.prog X.w) (show X.A.in1.units + 8 < cLine by show X.A.units + 1 + 8 < cLine; omega) hk hsm hD2 ?_
  rw [ht]
  exact ⟨.str z, H2, I2.tok _, ⟨t, rfl⟩, q2⟩
/-! ### list(d.values()), list(d.keys()) -/
def tListVals (te : TE) : TE := fun σ H Q => te σ H fun x H1 => ∃ (d : Addr) (kvs : List (Key × V)), x = .ref d ∧ H1 d = some (.dK kvs) ∧ ∀ p, H1 p = none → Q (.ref p) (upd H1 p (.lst (kvs.map (·.2))))
def tListKeys (te : TE) : TE := fun σ H Q => te σ H fun x H1 => ∃ (d : Addr) (kvs : List (Key × V)), x = .ref d ∧ H1 d = some (.dK kvs) ∧ ∀ p, H1 p = none → Q (.ref p) (upd H1 p (.lst (kvs.map fun kv => kV kv.1)))
theorem vals_items {P : Nat → Value → Prop} : ∀ {xs : List V} {us : List Value} (k : Nat), us.length = xs.length → (∀ j v, us[j]? = some v → P (k + j) v) → (∀ j x v, xs[j]? = some x → P (k + j) v → RelV x v) → Vals xs us
  | [], [], _, _, _, _ => .nil
  | [], _ :: _, _, h, _, _ => by simp at h
  | _ :: _, [], _, h, _, _ => by simp at h
  | x :: xs, u :: us, k, h, h1, h2 => .cons (h2 0 x u rfl (h1 0 u rfl)) (vals_items (P := P) (k + 1) (by simpa using h) (fun j v e => by
      have := h1 (j + 1) v (by simpa using e)
      rw [show k + (j + 1) = k + 1 + j by omega] at this
      exact this) fun j y v e p => h2 (j + 1) y v (by simpa using e) (by rw [show k + (j + 1) = k + 1 + j by omega]; exact p))
section
variable {X : Cx} {e : Expr} {te : TE} {p apos cpos pos : Pos}
theorem pe_listVals (hc : X.calm = true) (he : PE X e te) (hg : Gl X "list") (hm : X.mg "list" = none) (hbase : attributeBase e "values" X.env (eval e X.env) = eval e X.env := by rfl) (hline : (apos.endLine == cpos.line) = true := by rfl)
    (hs : starEach [.Call (.Attribute e "values" apos) [] [] cpos] X.env = (false, eval (.Call (.Attribute e "values" apos) [] [] cpos) X.env) :: starEach [] X.env := by rfl) :
    PE X (.Call (.Name "list" p) [.Call (.Attribute e "values" apos) [] [] cpos] [] pos) (tListVals te) := by
  refine ⟨fun pins s σ H Q I hq => ?_⟩
  refine wpAny_Call_Name_kw (ld_blt I hg hm (by decide +kernel : bootBuiltins "list" = some (.type "list")) ?_)
  refine PyProof.Rows.callWith_type1 ?_ hs rfl
  rw [hs]
  show wpAny _ _ (spliced ((false, eval (.Call (.Attribute e "values" apos) [] [] cpos) X.env) :: backTo pos (starEach [] X.env))) _ _ s
  refine Calls.spliced_cons ?_
  refine wpAny_Call_method (T := "dict") (id := "dict.values") hbase rfl hline F.plainAttrs_dict F.slot_dict_values F.type_dict_values (thn (he.run pins s σ H _ I hq) fun u s1 ⟨x, H1, I1, rx, d, kvs, ex, hd, q⟩ => ?_)
  subst ex
  obtain rfl : u = Value.ref d := rx
  obtain ⟨hz, hs0, vs, kv, hdo⟩ := I1.hok d _ hd
  obtain ⟨ep, hat⟩ := hdo.dictAt
  have lk : kvs.length = vs.length := Paired.length kv
  refine ⟨hdo.typeIs, hdo.mapOf.noDict, ?_⟩
  show wpAny _ _ (callWith cpos (.builtin "dict.values") [.ref d] [] []) _ X.xe s1
  refine method_meetsIn F.slot_dict_values F.entry_dict_values rfl (PySem.evalArgs_none ⟨rfl, hdo.typeIs, F.args_dict_values_1 _, _, meets_dict_values (mixKind X.prog X.w) d hs0, ⟨vs, hdo⟩, ?_⟩)
  refine Calls.spliced_nil ?_
  refine PySem.W.kdl_call (PySem.W.kdl_values (knd := mixKind X.prog X.w) (kvs := vs) (ep := ep) (r := s1.heap.objs.size)) (I1.ok.hd hc) ⟨⟨_, Heap.get?_push_size _ rfl, rfl, rfl⟩, hat.push _⟩ (by omega) fun h' tk acc c hk hS hI => ?_
  have keep : ∀ b o, s1.heap.get? b = some o → h'.get? b = some o := fun b o z => hk b o (Heap.get?_push_of_some _ z)
  have hl : acc.toList.length = (kvs.map (·.2)).length := by rw [Array.length_toList, List.length_map, hI.1]; omega
  have rv : Vals (kvs.map (·.2)) acc.toList := vals_items (P := fun i v => ∃ k, vs[i]? = some (k, v)) 0 hl (fun j v z => by rw [Nat.zero_add]; exact hI.2 j v (by rw [← Array.getElem?_toList]; exact z)) fun j y v z ⟨k, w'⟩ => by
    rw [Nat.zero_add] at w'
    obtain ⟨q0, g1, g2⟩ : ∃ q0, kvs[j]? = some q0 ∧ y = q0.2 := by
      rw [List.getElem?_map] at z
      cases h : kvs[j]? with
      | none => rw [h] at z; cases z
      | some q0 => rw [h] at z; exact ⟨q0, rfl, (Option.some.inj z).symm⟩
    obtain ⟨pk, e2, e3⟩ := LiI.paired_get kv g1
    rw [w'] at e2
    cases e2
    rw [g2]
    exact e3.2
  refine ⟨.ref _, upd H1 _ (.lst (kvs.map (·.2))), I1.laid (t' := tk) keep (Nat.le_succ _ |> fun z => by rw [Heap.size_push]; exact z) ⟨by rw [List.length_map]; omega, acc.toList, c, rv, by simpa using hS⟩, rfl, q _ (I1.hok.fresh (by rw [Heap.size_push]; exact Nat.le_succ _))⟩
theorem pe_listKeys (hc : X.calm = true) (he : PE X e te) (hg : Gl X "list") (hm : X.mg "list" = none) (hbase : attributeBase e "keys" X.env (eval e X.env) = eval e X.env := by rfl) (hline : (apos.endLine == cpos.line) = true := by rfl)
    (hs : starEach [.Call (.Attribute e "keys" apos) [] [] cpos] X.env = (false, eval (.Call (.Attribute e "keys" apos) [] [] cpos) X.env) :: starEach [] X.env := by rfl) :
    PE X (.Call (.Name "list" p) [.Call (.Attribute e "keys" apos) [] [] cpos] [] pos) (tListKeys te) := by
  refine ⟨fun pins s σ H Q I hq => ?_⟩
  refine wpAny_Call_Name_kw (ld_blt I hg hm (by decide +kernel : bootBuiltins "list" = some (.type "list")) ?_)
  refine PyProof.Rows.callWith_type1 ?_ hs rfl
  rw [hs]
  show wpAny _ _ (spliced ((false, eval (.Call (.Attribute e "keys" apos) [] [] cpos) X.env) :: backTo pos (starEach [] X.env))) _ _ s
  refine Calls.spliced_cons ?_
  refine wpAny_Call_method (T := "dict") (id := "dict.keys") hbase rfl hline F.plainAttrs_dict F.slot_dict_keys F.type_dict_keys (thn (he.run pins s σ H _ I hq) fun u s1 ⟨x, H1, I1, rx, d, kvs, ex, hd, q⟩ => ?_)
  subst ex
  obtain rfl : u = Value.ref d := rx
  obtain ⟨hz, hs0, vs, kv, hdo⟩ := I1.hok d _ hd
  obtain ⟨ep, hat⟩ := hdo.dictAt
  have lk : kvs.length = vs.length := Paired.length kv
  refine ⟨hdo.typeIs, hdo.mapOf.noDict, ?_⟩
  show wpAny _ _ (callWith cpos (.builtin "dict.keys") [.ref d] [] []) _ X.xe s1
  refine method_meetsIn F.slot_dict_keys F.entry_dict_keys rfl (PySem.evalArgs_none ⟨rfl, hdo.typeIs, F.args_dict_keys_1 _, _, PySem.W.kdl_meets_keys (mixKind X.prog X.w) d hs0, ⟨vs, hdo⟩, ?_⟩)
  refine Calls.spliced_nil ?_
  refine PySem.W.kdl_call (PySem.W.kdl_keys (knd := mixKind X.prog X.w) (kvs := vs) (ep := ep) (r := s1.heap.objs.size)) (I1.ok.hd hc) ⟨⟨_, Heap.get?_push_size _ rfl, rfl, rfl⟩, hat.push _⟩ (by omega) fun h' tk acc c hk hS hI => ?_
  have keep : ∀ b o, s1.heap.get? b = some o → h'.get? b = some o := fun b o z => hk b o (Heap.get?_push_of_some _ z)
  have hl : acc.toList.length = (kvs.map fun kv => kV kv.1).length := by rw [Array.length_toList, List.length_map, hI.1]; omega
  have rv : Vals (kvs.map fun kv => kV kv.1) acc.toList := vals_items (P := fun i v => ∃ k x, vs[i]? = some (k, x) ∧ (mixKind X.prog X.w).is k v = true) 0 hl (fun j v z => by rw [Nat.zero_add]; exact hI.2 j v (by rw [← Array.getElem?_toList]; exact z)) fun j y v z ⟨k, x, w', w2⟩ => by
    rw [Nat.zero_add] at w'
    obtain ⟨q0, g1, g2⟩ : ∃ q0, kvs[j]? = some q0 ∧ y = kV q0.1 := by
      rw [List.getElem?_map] at z
      cases h : kvs[j]? with
      | none => rw [h] at z; cases z
      | some q0 => rw [h] at z; exact ⟨q0, rfl, (Option.some.inj z).symm⟩
    obtain ⟨pk, e2, e3⟩ := LiI.paired_get kv g1
    rw [w'] at e2
    cases e2
    rw [g2]
    rw [e3.1]
    exact relV_key (show keyIs k v = true from w2)
  refine ⟨.ref _, upd H1 _ (.lst (kvs.map fun kv => kV kv.1)), I1.laid (t' := tk) keep (Nat.le_succ _ |> fun z => by rw [Heap.size_push]; exact z) ⟨by rw [List.length_map]; omega, acc.toList, c, rv, by simpa using hS⟩, rfl, q _ (I1.hok.fresh (by rw [Heap.size_push]; exact Nat.le_succ _))⟩
end
end L2

namespace SrtO
open PySem PyProof.Rows PySem.W
/-- a tuple of two ints and an object -/
def IsRow (h : Heap) (v : Value) (x : Int) : Prop := ∃ a o t y u c n, v = .ref a ∧ h.get? a = some o ∧ o.cls = .type "tuple" ∧ o.data = .seq #[.int x t, .int y u, .ref c] n
theorem IsRow.keeps {h h' : Heap} {v : Value} {x : Int} (p : IsRow h v x) (k : ∀ b o, h.get? b = some o → o.cls = .type "tuple" → h'.get? b = some o) : IsRow h' v x := by
  obtain ⟨a, o, t, y, u, c, n, e, ho, hc, hd⟩ := p
  exact ⟨a, o, t, y, u, c, n, e, k _ _ ho hc, hc, hd⟩
theorem row_firsts {h : Heap} : ∀ {vs : List Value}, (∀ v ∈ vs, ∃ x, IsRow h v x) → ∃ fs : List Value, PySem.W.KatTups h vs fs ∧ fs.length = vs.length ∧ ∀ f ∈ fs, ∃ x t, f = Value.int x t
  | [], _ => ⟨[], PySem.W.KatTups.nil, rfl, fun _ hm => by simp at hm⟩
  | v :: vs, hv => by
    obtain ⟨fs, h1, h2, h3⟩ := row_firsts (h := h) (vs := vs) fun w hw => hv w (List.mem_cons_of_mem _ hw)
    obtain ⟨x, a, o, t, y, u, c, n, e, ho, hc, hd⟩ := hv v List.mem_cons_self
    subst e
    refine ⟨.int x t :: fs, .cons ho hc hd rfl h1, by simp [h2], fun f hf => ?_⟩
    rcases List.mem_cons.mp hf with e | hf
    · exact ⟨x, t, e⟩
    · exact h3 f hf
theorem swo_key (k : Value → Int) : Swo fun v u => decide (k v < k u) := by
  refine ⟨fun x y h => ?_, fun x y z h1 h2 => ?_⟩
  · have a := of_decide_eq_true h
    exact decide_eq_false (by omega)
  · have a := of_decide_eq_false h1
    have b := of_decide_eq_false h2
    exact decide_eq_false (by omega)
section
variable {prog : Program} {w : World} {A : Around} {E : Value → Shared → Prop} {s : Shared}
theorem row_cmp {vs : List Value} {k : Value → Int} (hp : ∀ v ∈ vs, IsRow s.heap v (k v)) (hi : ∀ v ∈ vs, ∀ u ∈ vs, k v = k u → v = u) : Cmp prog w A s (tuples' true) (fun p => p.1 ∈ vs) (lt2 fun v u => decide (k v < k u)) := by
  intro p q hm hm'
  have h1 := hp _ hm
  have h2 := hp _ hm'
  have h3 := hi _ hm _ hm'
  show wpAny (model prog w) A (keyLt' (tuples' true) p.1 q.1) (fun r s' => s' = s ∧ r = decide (k p.1 < k q.1)) (fun _ _ => False) s
  generalize k p.1 = x at h1 h3 ⊢
  generalize k q.1 = x' at h2 h3 ⊢
  obtain ⟨a, o, t, y, u, c, n, e, ho, hc, hd⟩ := h1
  obtain ⟨a', o', t', y', u', c', n', e', ho', hc', hd'⟩ := h2
  rw [e, e'] at h3 ⊢
  refine PySem.W.kat_lt ho hd ho' hd' ?_
  show PySem.W.KatLex prog w A true (decide (3 < 3)) _ [(.int x t, .int x' t'), (.int y u, .int y' u'), (.ref c, .ref c')] 0 s
  refine PySem.W.kat_cons (SeqAt.EqAt.int_int x t x' t' prog w _ _ ?_)
  refine PySem.W.kat_go (fun e1 => ?_) (fun e1 => ?_)
  · have ex : x = x' := by simpa using e1
    have ea : a = a' := Value.ref.inj (h3 ex)
    subst ea
    rw [ho] at ho'
    have eo := Option.some.inj ho'
    subst eo
    rw [hd] at hd'
    injection hd' with ed _
    have ey : y = y' := by
      have z := congrArg (fun a : Array Value => a[1]?) ed
      simp at z
      exact z.1
    have ec : c = c' := by
      have z := congrArg (fun a : Array Value => a[2]?) ed
      simpa using z
    subst ec
    refine PySem.W.kat_yes (PySem.W.kat_cons (SeqAt.EqAt.int_int y u y' u' prog w _ _ ?_))
    refine PySem.W.kat_go (fun e2 => ?_) (fun e2 => ?_)
    · refine PySem.W.kat_yes (PySem.W.kat_cons (SeqAt.EqAt.same (.ref c) prog w _ _ ?_))
      refine PySem.W.kat_go (fun _ => ?_) (fun z => nomatch z)
      refine PySem.W.kat_yes (PySem.W.kat_nil ⟨rfl, ?_⟩)
      rw [ex]
      exact (decide_eq_false (by omega)).symm
    · exact absurd ey (by simpa using e2)
  · have ex : ¬ x = x' := by simpa using e1
    exact PySem.W.kat_no (oneLt_int ⟨rfl, rfl⟩)
theorem rows_sortableO {a : Addr} {vs : List Value} {k : Value → Int} (h0 : 0 < vs.length) (hp : ∀ v ∈ vs, IsRow s.heap v (k v)) (hi : ∀ v ∈ vs, ∀ u ∈ vs, k v = k u → v = u) (ha : ∀ o, s.heap.get? a = some o → o.cls ≠ .type "tuple") : SortableO prog w A s a vs fun v u => decide (k v < k u) := by
  intro h' keep
  have hp' : ∀ v ∈ vs, IsRow h' v (k v) := fun v hm => (hp v hm).keeps fun b o e c => keep b o (fun z => by subst z; exact ha o e c) e
  obtain ⟨fs, h1, h2, h3⟩ := row_firsts fun v hm => ⟨_, hp' v hm⟩
  refine ⟨tuples' true, fun Q E hq => ?_, row_cmp hp' hi⟩
  refine PySem.W.kat_kind (T := .type "int") h1 (by omega) (fun f hm => ?_) (by rfl) ?_
  · obtain ⟨x, t, rfl⟩ := h3 f hm
    exact PySem.W.Looks.now
  · have e : (Value.type "int" != Value.type "tuple") = true := by first | decide +kernel | rfl | decide
    rw [e]
    exact hq
theorem sorted_rowsO {l : Addr} {vs : List Value} {k : Value → Int} {Q : Value → Shared → Prop} (hl : s.heap.IsList l vs.toArray) (hz : vs.length ≤ sizeLine) (hp : ∀ v ∈ vs, IsRow s.heap v (k v)) (hi : ∀ v ∈ vs, ∀ u ∈ vs, k v = k u → v = u)
    (h : ∀ (h' : Heap) (d : Addr) (out : List Value), Srtd (fun v u => decide (k v < k u)) out → Stb (fun v u => decide (k v < k u)) out vs → (∀ b o, s.heap.get? b = some o → h'.get? b = some o) → s.heap.objs.size ≤ d → (∃ n, h'.get? d = some (seqObj "list" out.toArray n)) → Q (.ref d) { s with heap := h' }) :
    wpAny (model prog w) A (call (.builtin "sorted") [.ref l]) Q E s := by
  refine sorted_ord (swo_key k) hl hz (fun h2 h₁ a ha kk => ?_) fun out hs hb => ?_
  · refine rows_sortableO (s := { s with heap := h₁ }) (by omega) (fun v hm => (hp v hm).keeps fun b o e _ => (kk b o e).2) hi fun o e => ?_
    have e' : some o = some (seqObj "list" vs.toArray 0) := e.symm.trans ha
    cases e'
    intro c
    exact absurd (Value.type.inj c) (by decide)
  · exact h _ _ out hs hb (fun b o e => sortedAll_old e) (Nat.le_succ _) (sortedAll_at s.heap vs out.toArray)
end
end SrtO
namespace L2
open PySem PySem.Spec PyProof.Rows
def rSortedR (K : PySem.W.Frag) : List V → Hp → VK → Prop := fun vs H Q => ∃ (a : Addr) (rs : List Addr) (k : Addr → Int), vs = [V.ref a] ∧ SqL K H a (rs.map V.ref) ∧ (∀ r ∈ rs, ∃ (y : Int) (c : Addr), H r = some (.tup [.int (k r), .int y, .ref c])) ∧
  (∀ r ∈ rs, ∀ r' ∈ rs, k r = k r' → r = r') ∧ ∀ (rs' : List Addr) (p : Addr), rs'.Perm rs → rs'.Pairwise (fun a b => k a ≤ k b) → H p = none → Q (.ref p) (upd H p (.lst (rs'.map V.ref)))
theorem vals_refs_eq : ∀ {rs : List Addr} {us : List Value}, Vals (rs.map V.ref) us → us = rs.map Value.ref
  | [], _, r => by cases r; rfl
  | a :: rs, _, r => by
    cases r with
    | cons r1 r2 =>
      rw [vals_refs_eq r2]
      cases r1
      rfl
def addrV : Value → Addr
  | .ref a => a
  | _ => 0
theorem cr_sortedR {X : Cx} : CallR X (.builtin "sorted") (rSortedR X.K) := by
  intro pins s σ H vs us Q I r h
  obtain ⟨a, rs, k, rfl, hs, hx, hi, q⟩ := h
  obtain ⟨its, rv, hl, hz⟩ := I.list hs
  obtain ⟨u, rfl, ru⟩ := vals1 r
  obtain rfl : u = Value.ref a := ru
  have ei := vals_refs_eq rv
  subst ei
  refine SrtO.sorted_rowsO (k := fun u => k (addrV u)) hl.isList (by rw [List.length_map] at *; exact hz) (fun v hv => ?_) (fun v hv u hu e => ?_) fun h' d out h1 h2 kp hd hn => ?_
  · obtain ⟨t, ht, rfl⟩ := List.mem_map.mp hv
    obtain ⟨y, c, e⟩ := hx t ht
    obtain ⟨_, its2, r2, o, ho, hc, n, hdt⟩ := (show ObjOk X.prog X.w H s.heap t (.tup [.int (k t), .int y, .ref c]) from I.hok _ _ e)
    cases r2 with
    | cons a1 r2 =>
      cases r2 with
      | cons a2 r2 =>
        cases r2 with
        | cons a3 r2 =>
          cases r2
          obtain ⟨t1, rfl⟩ := a1
          obtain ⟨t2, rfl⟩ := a2
          cases a3
          exact ⟨t, o, t1, y, t2, c, n, rfl, ho, hc, hdt⟩
  · obtain ⟨t, ht, rfl⟩ := List.mem_map.mp hv
    obtain ⟨t', ht', rfl⟩ := List.mem_map.mp hu
    rw [hi t ht t' ht' e]
  · obtain ⟨n, hn⟩ := hn
    have hp := h2.perm
    have eo : out = (out.map addrV).map Value.ref := by
      rw [List.map_map]
      have : ∀ u ∈ out, Value.ref (addrV u) = u := fun u hu => by
        obtain ⟨t, _, rfl⟩ := List.mem_map.mp (hp.mem_iff.mp hu)
        rfl
      conv => lhs; rw [← List.map_id out]
      exact List.map_congr_left fun u hu => (this u hu).symm
    have hp2 : (out.map addrV).Perm rs := by
      have z := hp.map addrV
      rw [List.map_map] at z
      have id : (rs.map (addrV ∘ Value.ref)) = rs := by
        conv => rhs; rw [← List.map_id rs]
        rfl
      rw [id] at z
      exact z
    have hs2 : (out.map addrV).Pairwise (fun a b => k a ≤ k b) := by
      rw [List.pairwise_map]
      refine List.Pairwise.imp (fun {a b} h => ?_) h1
      have := of_decide_eq_false h
      omega
    refine ⟨.ref d, upd H d (.lst ((out.map addrV).map V.ref)), I.laid (t' := s.toks) kp hd ⟨?_, out, n, ?_, hn⟩, rfl, q _ d hp2 hs2 (I.hok.fresh hd)⟩
    · rw [List.length_map, hp2.length_eq]
      rw [List.length_map] at hz
      exact hz
    · rw [eo]
      have g : ∀ l : List Addr, Vals (l.map V.ref) (l.map Value.ref) := fun l => by
        induction l with
        | nil => exact .nil
        | cons a l ih => exact .cons rfl ih
      rw [← eo]
      conv => arg 2; rw [eo]
      exact g _
/-- list.index within a comprehension -/
theorem pe_indexK {X : Cx} {K : PySem.W.Frag} (h : X.K = K) {o e : Expr} {to te : TE} {apos cpos : Pos} (p : PE X (.Call (.Attribute o "index" apos) [e] [] cpos) (tBM X.K "list" (rIndex X.K) to (tCons te tNil))) : PE X (.Call (.Attribute o "index" apos) [e] [] cpos) (tBM K "list" (rIndex K) to (tCons te tNil)) := by
  subst h
  exact p
theorem op_notInK {X : Cx} {K : PySem.W.Frag} (h : X.K = K) : OpR X (compareOp .NotIn) (rIn K true) := by
  subst h
  exact op_notIn_seq
end L2

namespace L2
open PySem PySem.Spec PyProof.Rows
section
variable {X : Cx}
/-- a name of the def's own, on the line of the comprehension: stored within its frame -/
theorem swd_true {kx vx : Expr} {gs : List Comprehension} {scope : Scope} {pos py : Pos} {y : Str} {l : Nat} {env : Env} (e1 : env.scope.kind = .function) (e2 : env.scope.names.lookup y = some .local) (e3 : (py.line == pos.line) = true)
    (e4 : (scope.names.any fun (n, k) => n == y && (k == .local || k == .cell)) = false) : swapsWith (.DictComp kx vx gs scope pos) (some (.Name y py)) l env = pure true := by
  have a1 : env.kindOf y = some .local := e2
  have a2 : env.blockKind = .function := (by unfold Env.blockKind; rw [e1]; rfl)
  unfold swapsWith
  simp only [a2, a1, e4, Expr.pos, e3]
  rfl
/-- y = {k: v for x in xs} -/
theorem ps_setDc {i : Nat} {y : Str} {py pos spos : Pos} {kx vx tg iter : Expr} {ifs : List Expr} {scope : Scope} {own : List (Str × Nat)} {wi : TI} {g : TG} {tt : TT} {tk tv : TE} (calm : X.calm = true) (nd : X.N.Nodup) (at_y : X.N[i]? = some y) (loc : X.env.scope.names.lookup y = some .local)
    (sw : swapsWith (.DictComp kx vx [⟨tg, iter, ifs, 0⟩] scope pos) (some (.Name y py)) spos.line X.env = pure true) (walk : PI X tg iter wi) (ok : BlkOk X.N X.env.scope scope own)
    (rg : ∀ (s : Shared) (H : Hp) (C : Addr) (cl : List (Str × Addr)) (fp : List Addr), PG (X.blk s H scope (compEnvC scope cl C X.env) fp) tg g)
    (rt : ∀ (s : Shared) (H : Hp) (C : Addr) (cl : List (Str × Addr)) (fp : List Addr), PTs (X.blk s H scope (compEnvC scope cl C X.env) fp) ifs tt)
    (rk : ∀ (s : Shared) (H : Hp) (C : Addr) (cl : List (Str × Addr)) (fp : List Addr), PE (X.blk s H scope (compEnvC scope cl C X.env) fp) kx tk)
    (rv : ∀ (s : Shared) (H : Hp) (C : Addr) (cl : List (Str × Addr)) (fp : List Addr), PE (X.blk s H scope (compEnvC scope cl C X.env) fp) vx tv)
    (fold : ∀ x, foldedSetIterable iter X.env x = pure x := by intro _; rfl) :
    PS X (.Assign [.Name y py] (.DictComp kx vx [⟨tg, iter, ifs, 0⟩] scope pos) spos) (tAsg (tDc wi g tt tk tv (own.map (·.2))) (gName i)) := by
  constructor
  intro pins s σ H D I q
  have q : tDc wi g tt tk tv (own.map (·.2)) σ H (fun x H1 => gName i x σ H1 D.nx) := q
  rw [exec_Assign_Name_used _ _ _ _ sw]
  apply wpAny_bind
  apply wpAny_standAt
  apply wpAny_bind
  show wpAny _ X.A (do let _ ← comprehension (.DictComp kx vx [⟨tg, iter, ifs, 0⟩] scope pos) scope X.env (firstIterPos [⟨tg, iter, ifs, 0⟩] pos) newDict false (eval iter X.env) (some (assign (.Name y py) X.env))) _ _ s
  apply wpAny_bind
  refine thn (dc_core (Qf := fun _ s' => SP X pins D .next s') calm nd I walk ok rg rt rk rv fold q ?_) fun _ _ z => wpAny_pure (wpAny_pure z)
  intro d c t n H2 J nx ns fr
  show wpAny _ _ (assign (.Name y py) X.env (.ref d)) _ _ _
  refine wpAny_assign_Name (store_ok2 (v := V.ref d) J nd at_y (.inl loc) rfl ?_ (.inr loc))
  rintro u JU ⟨b, same, which⟩
  obtain ⟨r0, r1, r2, r3, r4, r5⟩ := fr
  have far : c ≠ b := by
    cases which with
    | inl z => exact z ▸ r1
    | inr z => exact fun e => r4 y b z e.symm
  exact ⟨n, ns.sameBut same far, fun _ rest => ⟨_, H2, JU.turned (t' := u.toks) (fun a o ha e => (rest.2 a ha).trans e) r0 r1 r3 r4 r5, nx⟩⟩
end
end L2

namespace Pv
open PySem L2
/-- a def with its promise: how it binds, too -/
def Okd (P : Program) (w : World) (K : PySem.W.Frag) (mg : Str → Option Value) (base : Heap) (CX : CXT) (k : Nat) (f : Addr) (ps : List Str) (sp : Sp) : Prop := ∃ fd, FnOk P w K mg base CX k f fd ps sp ∧ Binds K fd ps []
def top (i : Nat) : Stmt := PySem.Challenge.pw_peermend_k03_counts.main.body.getD i (.Pass ⟨0, 0, 0, 0⟩)
abbrev s_count_images : Stmt := top 2
abbrev s_count_states : Stmt := top 3
abbrev s_torn_rows : Stmt := top 4
abbrev s_recurrence : Stmt := top 5
abbrev s_entry : Stmt := top 6
abbrev s_law_bag : Stmt := top 8
abbrev s_law_take : Stmt := top 9
abbrev s_law_is : Stmt := top 10
abbrev s_law_factorials : Stmt := top 11
abbrev s_law_powers : Stmt := top 12
abbrev s_law_with_torn : Stmt := top 13
abbrev s_law_in_all : Stmt := top 14
abbrev s_law : Stmt := top 15
structure Ad where
  count_images : Addr
  count_states : Addr
  torn_rows : Addr
  recurrence : Addr
  entry : Addr
  law_bag : Addr
  law_take : Addr
  law_is : Addr
  law_factorials : Addr
  law_powers : Addr
  law_with_torn : Addr
  law_in_all : Addr
  law : Addr
abbrev N_count_images : List Str := ["size", "torn", "rows", "many"]
abbrev P_count_images : List Str := ["size", "torn"]
theorem sc_count_images : FnScope N_count_images P_count_images (defScope s_count_images) := ⟨rfl, rfl, rfl, by decide +kernel, rfl, by decide +kernel, by decide +kernel⟩
abbrev N_count_states : List Str := ["size"]
abbrev P_count_states : List Str := ["size"]
theorem sc_count_states : FnScope N_count_states P_count_states (defScope s_count_states) := ⟨rfl, rfl, rfl, by decide +kernel, rfl, by decide +kernel, by decide +kernel⟩
abbrev N_torn_rows : List Str := ["size", "rows", "many", "torn"]
abbrev P_torn_rows : List Str := ["size"]
theorem sc_torn_rows : FnScope N_torn_rows P_torn_rows (defScope s_torn_rows) := ⟨rfl, rfl, rfl, by decide +kernel, rfl, by decide +kernel, by decide +kernel⟩
abbrev N_recurrence : List Str := ["rows", "size", "torn", "alone", "twos", "threes", "fours"]
abbrev P_recurrence : List Str := ["rows", "size", "torn"]
theorem sc_recurrence : FnScope N_recurrence P_recurrence (defScope s_recurrence) := ⟨rfl, rfl, rfl, by decide +kernel, rfl, by decide +kernel, by decide +kernel⟩
abbrev N_entry : List Str := ["rows", "size", "torn"]
abbrev P_entry : List Str := ["rows", "size", "torn"]
theorem sc_entry : FnScope N_entry P_entry (defScope s_entry) := ⟨rfl, rfl, rfl, by decide +kernel, rfl, by decide +kernel, by decide +kernel⟩
abbrev N_law_bag : List Str := ["script", "great", "first", "second", "cell"]
abbrev P_law_bag : List Str := ["script"]
theorem sc_law_bag : FnScope N_law_bag P_law_bag (defScope s_law_bag) := ⟨rfl, rfl, rfl, by decide +kernel, rfl, by decide +kernel, by decide +kernel⟩
abbrev N_law_take : List Str := ["bag", "size", "digit"]
abbrev P_law_take : List Str := ["bag", "size"]
theorem sc_law_take : FnScope N_law_take P_law_take (defScope s_law_take) := ⟨rfl, rfl, rfl, by decide +kernel, rfl, by decide +kernel, by decide +kernel⟩
abbrev N_law_is : List Str := ["told", "due"]
abbrev P_law_is : List Str := ["told", "due"]
theorem sc_law_is : FnScope N_law_is P_law_is (defScope s_law_is) := ⟨rfl, rfl, rfl, by decide +kernel, rfl, by decide +kernel, by decide +kernel⟩
abbrev N_law_factorials : List Str := ["most", "row", "k"]
abbrev P_law_factorials : List Str := ["most"]
theorem sc_law_factorials : FnScope N_law_factorials P_law_factorials (defScope s_law_factorials) := ⟨rfl, rfl, rfl, by decide +kernel, rfl, by decide +kernel, by decide +kernel⟩
abbrev N_law_powers : List Str := ["base", "most", "row", "k"]
abbrev P_law_powers : List Str := ["base", "most"]
theorem sc_law_powers : FnScope N_law_powers P_law_powers (defScope s_law_powers) := ⟨rfl, rfl, rfl, by decide +kernel, rfl, by decide +kernel, by decide +kernel⟩
abbrev N_law_with_torn : List Str := ["size", "many", "facts", "halves", "sixths", "parts_of_four", "threefold", "fourfold", "total", "four", "three", "two", "spare", "pairs", "alike"]
abbrev P_law_with_torn : List Str := ["size", "many"]
theorem sc_law_with_torn : FnScope N_law_with_torn P_law_with_torn (defScope s_law_with_torn) := ⟨rfl, rfl, rfl, by decide +kernel, rfl, by decide +kernel, by decide +kernel⟩
abbrev N_law_in_all : List Str := ["size", "totals", "n", "many"]
abbrev P_law_in_all : List Str := ["size"]
theorem sc_law_in_all : FnScope N_law_in_all P_law_in_all (defScope s_law_in_all) := ⟨rfl, rfl, rfl, by decide +kernel, rfl, by decide +kernel, by decide +kernel⟩
abbrev N_law : List Str := ["script", "bag", "size", "many", "due", "settled", "total"]
abbrev P_law : List Str := ["script"]
theorem sc_law : FnScope N_law P_law (defScope s_law) := ⟨rfl, rfl, rfl, by decide +kernel, rfl, by decide +kernel, by decide +kernel⟩
structure Txt (K : PySem.W.Frag) (mg : Str → Option Value) (A : Ad) : Prop where
  g_count_images : mg "count_images" = some (.ref A.count_images)
  k_count_images : PySem.W.keepIn K (.ref A.count_images) = true
  g_count_states : mg "count_states" = some (.ref A.count_states)
  k_count_states : PySem.W.keepIn K (.ref A.count_states) = true
  d_count_states : ∃ fd, Fun K "count_states" "count_states" s_count_states A.count_states fd
  g_torn_rows : mg "_torn_rows" = some (.ref A.torn_rows)
  k_torn_rows : PySem.W.keepIn K (.ref A.torn_rows) = true
  d_torn_rows : ∃ fd, Fun K "_torn_rows" "_torn_rows" s_torn_rows A.torn_rows fd
  g_recurrence : mg "_recurrence" = some (.ref A.recurrence)
  k_recurrence : PySem.W.keepIn K (.ref A.recurrence) = true
  d_recurrence : ∃ fd, Fun K "_recurrence" "_recurrence" s_recurrence A.recurrence fd
  g_entry : mg "_entry" = some (.ref A.entry)
  k_entry : PySem.W.keepIn K (.ref A.entry) = true
  d_entry : ∃ fd, Fun K "_entry" "_entry" s_entry A.entry fd
  g_law_bag : mg "_law_bag" = some (.ref A.law_bag)
  k_law_bag : PySem.W.keepIn K (.ref A.law_bag) = true
  d_law_bag : ∃ fd, Fun K "_law_bag" "_law_bag" s_law_bag A.law_bag fd
  g_law_take : mg "_law_take" = some (.ref A.law_take)
  k_law_take : PySem.W.keepIn K (.ref A.law_take) = true
  d_law_take : ∃ fd, Fun K "_law_take" "_law_take" s_law_take A.law_take fd
  g_law_is : mg "_law_is" = some (.ref A.law_is)
  k_law_is : PySem.W.keepIn K (.ref A.law_is) = true
  d_law_is : ∃ fd, Fun K "_law_is" "_law_is" s_law_is A.law_is fd
  g_law_factorials : mg "_law_factorials" = some (.ref A.law_factorials)
  k_law_factorials : PySem.W.keepIn K (.ref A.law_factorials) = true
  d_law_factorials : ∃ fd, Fun K "_law_factorials" "_law_factorials" s_law_factorials A.law_factorials fd
  g_law_powers : mg "_law_powers" = some (.ref A.law_powers)
  k_law_powers : PySem.W.keepIn K (.ref A.law_powers) = true
  d_law_powers : ∃ fd, Fun K "_law_powers" "_law_powers" s_law_powers A.law_powers fd
  g_law_with_torn : mg "_law_with_torn" = some (.ref A.law_with_torn)
  k_law_with_torn : PySem.W.keepIn K (.ref A.law_with_torn) = true
  d_law_with_torn : ∃ fd, Fun K "_law_with_torn" "_law_with_torn" s_law_with_torn A.law_with_torn fd
  g_law_in_all : mg "_law_in_all" = some (.ref A.law_in_all)
  k_law_in_all : PySem.W.keepIn K (.ref A.law_in_all) = true
  d_law_in_all : ∃ fd, Fun K "_law_in_all" "_law_in_all" s_law_in_all A.law_in_all fd
  g_law : mg "law" = some (.ref A.law)
  k_law : PySem.W.keepIn K (.ref A.law) = true
  d_law : ∃ fd, Fun K "law" "law" s_law A.law fd
  d_count_images : ∃ fd, FunD K "count_images" "count_images" (defArgs s_count_images) (defBody s_count_images) (defScope s_count_images) [] [("torn", .non)] A.count_images fd
  g_comb : mg "comb" = some (.builtin "math.comb")
  n_int : mg "int" = none
  n_bool : mg "bool" = none
  n_list : mg "list" = none
  n_len : mg "len" = none
  n_range : mg "range" = none
  n_isinstance : mg "isinstance" = none
  n_sum : mg "sum" = none
end Pv

namespace L2
open PySem PySem.Spec PyProof.Rows
section
variable {X : Cx}
def rComb : List V → Hp → VK → Prop := fun vs H Q => ∃ a b : Int, vs = [.int a, .int b] ∧ 0 ≤ a ∧ 0 ≤ b ∧ a < 18000 ∧ Q (.int (PySem.W.mcComb a b)) H
theorem cr_comb : CallR X (.builtin "math.comb") rComb := by
  intro pins s σ H vs us Q I r h
  obtain ⟨a, b, rfl, h0, h1, h2, q⟩ := h
  obtain ⟨t, u, rfl⟩ := Vals.int2 r
  exact PySem.W.mc_comb h0 h1 (by omega) (.inr (by omega)) fun _ => ⟨.int _, H, I.tok _, ⟨_, rfl⟩, q⟩
variable {K : PySem.W.Frag} {x qual : Str} {params : Arguments} {body : List Stmt} {scope : Scope} {kws : List (Str × V)} {f : Addr} {fd : FuncData} {ps : List Str}
/-- f(e, .., k = v, ..), no defaults but keyword-only ones, all of them written -/
theorem FunD.kbinds0 (F : FunD K x qual params body scope [] kws f fd) (n : Nat) (ks : List Str)
    (h : ∀ (kV doc pm : Value) (an : Option Addr) (cdv ct : Value) (us ws : List Value), us.length = n → ws.length = ks.length → bindArgs (PySem.W.fnOf x qual params body scope .none kV doc pm an cdv ct) ⟨us, ks.zip ws⟩ = pure (ps.zip (us ++ ws))) :
    KBn K fd ps n ks (fun us ws => us ++ ws) (fun vs zs => vs ++ zs) := by
  obtain ⟨oc, od, dV, kV, doc, pm, an, cdv, ct, osl, rfl, lk, hcd, hD, hK⟩ := F.ex
  rcases hD with ⟨_, rfl⟩ | ⟨e, _⟩
  · exact ⟨fun s us ws X l1 l2 => .of_eq (h kV doc pm an cdv ct us ws l1 l2), fun r1 r2 => r1.append r2⟩
  · exact absurd rfl e
end
end L2
namespace Pv
open PySem L2
/-- a def f(a, *, torn=None) with its promise, called as f(a) and as f(a, torn=b) -/
def OkdD (P : Program) (w : World) (K : PySem.W.Frag) (mg : Str → Option Value) (base : Heap) (CX : CXT) (k : Nat) (f : Addr) (ps : List Str) (sp : Sp) : Prop :=
  ∃ fd, FnOk P w K mg base CX k f fd ps sp ∧ (∃ ds, Vals [V.non] ds ∧ Binds K fd ps ds) ∧ KBn K fd ps 1 ["torn"] (fun us ws => us ++ ws) (fun vs zs => vs ++ zs)
theorem two_ways {K : PySem.W.Frag} {f : Addr} {fd : FuncData} (F : FunD K "count_images" "count_images" (defArgs s_count_images) (defBody s_count_images) (defScope s_count_images) [] [("torn", V.non)] f fd) :
    (∃ ds, Vals [V.non] ds ∧ Binds K fd ["size", "torn"] ds) ∧ KBn K fd ["size", "torn"] 1 ["torn"] (fun us ws => us ++ ws) (fun vs zs => vs ++ zs) := by
  refine ⟨F.binds0 1 (by simp) rfl ?_, F.kbinds0 1 ["torn"] ?_⟩
  · intro D doc pm an cdv ct us ks l1 l2
    match us, l1, ks, l2 with
    | [u], _, [v], _ => exact ⟨_, _, _, _, _, _, rfl, rfl, rfl⟩
  · intro kV doc pm an cdv ct us ws l1 l2
    match us, l1, ws, l2 with
    | [u], _, [v], _ => rfl
end Pv

namespace Pv
open PySem L2
/-- all but what stands at b is as it was -/
def Mut (b : Addr) (H H' : Hp) : Prop := ∀ a o, a ≠ b → H a = some o → H' a = some o
theorem Mut.refl (b : Addr) (H : Hp) : Mut b H H := fun _ _ _ e => e
theorem Mut.trans {b : Addr} {H H1 H2 : Hp} (x : Mut b H H1) (y : Mut b H1 H2) : Mut b H H2 := fun a o n e => y a o n (x a o n e)
theorem Mut.upd {b : Addr} {H H1 : Hp} {o : HO} (x : Mut b H H1) : Mut b H (L2.upd H1 b o) := fun a u n e => by
  rw [upd_ne n]
  exact x a u n e
theorem Mut.new {b p : Addr} {H H1 : Hp} {o : HO} (x : Mut b H H1) (hp : H1 p = none) : Mut b H (L2.upd H1 p o) := fun a u n e => by
  have e1 := x a u n e
  rw [upd_ne (ne_of_none e1 hp)]
  exact e1
theorem Mut.free {b p : Addr} {H H1 : Hp} (x : Mut b H H1) (h : p ≠ b) (hp : H1 p = none) : H p = none := by
  cases e : H p with
  | none => rfl
  | some o =>
    rw [x p o h e] at hp
    cases hp
/-- the bag of the draws -/
def bagL (g f s : Int) : List V := [.int g, .int f, .int s]
structure BagOk (g f s : Int) : Prop where
  g0 : 0 ≤ g
  f0 : 0 ≤ f
  f1 : f < 2147483647
  s0 : 0 ≤ s
  s1 : s < 2147483647
def Bag (H : Hp) (b : Addr) : Prop := ∃ g f s : Int, H b = some (.lst (bagL g f s)) ∧ BagOk g f s
def spBag (K : PySem.W.Frag) : Sp := fun vs H Q _ => ∃ (a : Addr) (ns : List Int), vs = [.ref a] ∧ SqL K H a (ns.map V.int) ∧ ∀ b g f s, H b = none → BagOk g f s → Q (.ref b) (upd H b (.lst (bagL g f s)))
def spTake : Sp := fun vs H Q _ => ∃ (b : Addr) (n : Int), vs = [.ref b, .int n] ∧ 0 < n ∧ n < 1152921504606846976 ∧ Bag H b ∧ ∀ d H', 0 ≤ d → d < n → Bag H' b → Mut b H H' → Q (.int d) H'
/-- ints from 0 to below n -/
def Below (n : Int) (xs : List Int) : Prop := ∀ x ∈ xs, 0 ≤ x ∧ x < n
def ListI (H : Hp) (p : Addr) (xs : List Int) : Prop := H p = some (.lst (xs.map V.int))
def spOrder : Sp := fun vs H Q _ => ∃ (b : Addr) (n : Nat), vs = [.ref b, .int (n : Int)] ∧ n ≤ 64 ∧ Bag H b ∧ ∀ p xs H', H p = none → p ≠ b → xs.length = n → Below n xs → ListI H' p xs → Bag H' b → Mut b H H' → Q (.ref p) H'
def spSize : Sp := fun vs H Q _ => ∃ b : Addr, vs = [.ref b] ∧ Bag H b ∧ ∀ (d : Int) H', 0 ≤ d → d ≤ 64 → Bag H' b → Mut b H H' → Q (.int d) H'
def spEntry : Sp := fun vs H Q _ => ∃ (b : Addr) (n : Nat), vs = [.ref b, .int (n : Int)] ∧ 0 < n ∧ n ≤ 64 ∧ Bag H b ∧ ∀ (d : Int) H', Bag H' b → Mut b H H' → Q (.int d) H'
def spDrawn : Sp := fun vs H Q _ => ∃ (b : Addr) (n : Nat), vs = [.ref b, .int (n : Int)] ∧ n ≤ 64 ∧ Bag H b ∧ ∀ p xs H', H p = none → p ≠ b → xs.length = n → ListI H' p xs → Bag H' b → Mut b H H' → Q (.ref p) H'
theorem Bag.ne {H : Hp} {b p : Addr} (B : Bag H b) (h : H p = none) : p ≠ b := fun e => by
  obtain ⟨g, f, s, hb, _⟩ := B
  rw [e, hb] at h
  cases h
theorem Bag.keep {H H' : Hp} {b : Addr} (B : Bag H b) (h : ∀ o, H b = some o → H' b = some o) : Bag H' b := by
  obtain ⟨g, f, s, hb, ok⟩ := B
  exact ⟨g, f, s, h _ hb, ok⟩
theorem map_erase {α β : Type} (f : α → β) : ∀ (l : List α) (i : Nat), (l.map f).eraseIdx i = (l.eraseIdx i).map f
  | [], _ => rfl
  | _ :: _, 0 => rfl
  | a :: l, i + 1 => by
    show f a :: (l.map f).eraseIdx i = f a :: (l.eraseIdx i).map f
    rw [map_erase f l i]
theorem rgV_map (n : Nat) : rgV 0 (n : Int) = ((List.range n).map fun i : Nat => (i : Int)).map V.int := by
  unfold rgV
  have e : ((n : Int) - 0).toNat = n := by omega
  rw [e, List.map_map]
  refine List.map_congr_left fun i _ => ?_
  show V.int (0 + (i : Int)) = V.int (i : Int)
  rw [Int.zero_add]
theorem below_rg (n : Nat) : Below (n : Int) ((List.range n).map fun i : Nat => (i : Int)) := fun x hx => by
  obtain ⟨i, hi, rfl⟩ := List.mem_map.mp hx
  have := List.mem_range.mp hi
  omega
theorem ListI.sz {K : PySem.W.Frag} {H : Hp} {p : Addr} {xs : List Int} (h : ListI H p xs) : SqL K H p (xs.map V.int) := SqL.of h
theorem ix_map {xs : List Int} {j : Nat} (h : j < xs.length) : (xs.map V.int)[j]? = some (V.int xs[j]) := by
  rw [List.getElem?_map, List.getElem?_eq_getElem h]
  rfl
theorem at_map {xs : List Int} {j : Nat} (h : j < xs.length) : atI (xs.map V.int) (j : Int) = some (V.int xs[j]) := atI_nat (ix_map h)
theorem set_map {xs : List Int} {j : Nat} {v : Int} : (xs.map V.int).set j (V.int v) = (xs.set j v).map V.int := List.map_set.symm
theorem ite_b {b : Bool} {X Y : Prop} (h1 : b = true → X) (h2 : b = false → Y) : if b = true then X else Y := by
  cases b with
  | true => exact h1 rfl
  | false => exact h2 rfl
theorem int_at {ns : List Int} {i : Nat} {y : V} (h : (ns.map V.int)[i]? = some y) : ∃ z, ns[i]? = some z ∧ y = V.int z := by
  rw [List.getElem?_map] at h
  cases e : ns[i]? with
  | none =>
    rw [e] at h
    cases h
  | some z =>
    rw [e] at h
    exact ⟨z, rfl, (Option.some.inj h).symm⟩
end Pv

namespace Pv
open PySem L2 Evl
def nI (xs : List Nat) : List V := xs.map fun x : Nat => V.int (x : Int)
def ListN (H : Hp) (p : Addr) (xs : List Nat) : Prop := H p = some (.lst (nI xs))
theorem nI_len (xs : List Nat) : (nI xs).length = xs.length := List.length_map ..
theorem ListN.sz {K : PySem.W.Frag} {H : Hp} {p : Addr} {xs : List Nat} (h : ListN H p xs) : SqL K H p (nI xs) := SqL.of h
theorem ListN.ex {H H1 : Hp} {a : Addr} {xs : List Nat} (e : Ex H H1) (h : ListN H a xs) : ListN H1 a xs := e a _ h
theorem nat_at {ns : List Nat} {i : Nat} {y : V} (h : (nI ns)[i]? = some y) : i < ns.length ∧ y = V.int ((ns.getD i 0 : Nat) : Int) := by
  unfold nI at h
  rw [List.getElem?_map] at h
  cases e : ns[i]? with
  | none =>
    rw [e] at h
    cases h
  | some z =>
    rw [e] at h
    refine ⟨(List.getElem?_eq_some_iff.mp e).1, ?_⟩
    rw [List.getD_eq_getElem?_getD, e]
    exact (Option.some.inj h).symm
theorem ixN_ {xs : List Nat} {j : Nat} (h : j < xs.length) : (nI xs)[j]? = some (V.int ((xs.getD j 0 : Nat) : Int)) := by
  unfold nI
  rw [List.getElem?_map, List.getD_eq_getElem?_getD, List.getElem?_eq_getElem h]
  rfl
theorem atN {xs : List Nat} {j : Nat} (h : j < xs.length) : atI (nI xs) (j : Int) = some (V.int ((xs.getD j 0 : Nat) : Int)) := atI_nat (ixN_ h)
theorem ex_new {H H1 : Hp} {p : Addr} {o : HO} (e : Ex H H1) (h : H1 p = none) : Ex H (upd H1 p o) := e.trans (Ex.new h)
theorem nI_app {xs : List Nat} {v : Nat} : nI (xs ++ [v]) = nI xs ++ [V.int (v : Int)] := by
  unfold nI
  rw [List.map_append]
  rfl
end Pv

namespace K03
def tabF : Nat := 1857995142493172385671008892791316506370960845698360469065265390304738203557604653857378276242663780707162162945737122894464735905902175530490025123883099298255781782164537111377607678189509745968873794453011889525038128073066308529835380630820723627304206745953297250757545892677852594901622255487420615382233955866651586411911269100535679272834833473189501567679926456504407389752406537647836316058076350601785580580517154618480892187629796144478231463146817032932806319544994550608218848513344506053241243021189112289050450529189045810492004554023250820279739364339722169202377766424815224504343984816020060646811862857449792499277498566247390046607142907082578508097413460236907236556848779135602163743439872095987961100213669571994945758176388813100368400073904641220981621073902870626930297800884643608292121740087406722104849507973068926822575559161356554501796823103241006402138397570362457254590812943928286008019014975392974162567697833085334750808693596142582114204287104450608279134348860630955649419555428751598412991417238660788764464902688368252670138565132481219416461794382979077420834630618211372743802400428491369227446710982719381675148289826889093340267527194589094735379033008343547016763980307439308301509469943216811018300100847276734936420363011931913171346241427261768266968708662774813833771297586349320120763166287954558855997101758985884179047105271248511727366583865406835731774103831990858019553323364459328255310796948497987933006360714282339827230096296139510762910892742355766151701248952340769398745712024494331049704579954914580697460730003013419476782688362084000621330078569448302033974159435242437976694420335307209311833183209181878509482617281525040991666661033761197065315333563582396575344749723600820223862325372626450229430176936806419475289625579452871263799984333821839317688634852950368050899349313634862103479583741344365407568371676932290864651341141181965519398680732478174848541438763034969312242439778220390068449654686877534465438610665444740546910082265248280690868193481196189479694751159470431019673502334243375016189028887909398470324247216946442614655285021194602813377048788444108588508615941846165943432314061471779628929697377472238810852987663075655492783520942431731137013470893059795475048515161783488158084984831250932573208641663107464384546047699264621155886813665643726117937209437831910863132624710696404612562264770154907379376818539859977205514799116801391315212465188822553318584239275862760489465740665420447680005598580800190761082103601453675808290904375059039343160703156872505583707437623780402619397696503463709094853574151841970036989952891548313533723574965862316089296029716643484635007683163525263687859305900565682397592114185825566064008725471064472543744593499979602937576670693647679476685050835732383167259808376671719073786073638076154285299646303441619944325711084078597792674689144588693625062276587240406214142761264233402103801720558929068435789342047826328672389409504988021793328921208840779098421866056569594294542986938683162587922091395151707674692485229787960132904189892958677008693333903925628388761434731204146706563585589331477899823225390649217733110447638510863873259879192800224617017147702404347638993794072867891722598501527000142656391076855034603336850310863226882071257934394805380818800916467881891705896086042689274431906776606884422052733271087173815879927269203830345281735611072656733192462232716023326411902342597820188298679134071656379034411806530817216126232444150250569149133577613570637261137059377049087720844721000415019876896308285466543190965043000434113590323401218634499766638288856885798554390921310107108080160349464074657970975113603019026440859524227110102101089036278675200849513888465948668955608720201807572812040876465019559637877103189199347072450003278595642286656817187323419968547147028882537887837270932230409753725129101254210272652798490669069292658372937741884575878589654911039011767164247416890211579581696759940829054345679687274265142185646168290359017740366126624132306786395096481569815656856737326582509436478957522879395118955685129266317077506575482400378188585037375974937136937716248616881358119258075143981797666096392027358121722818090977342145245094983234625112585186925015244261486934420751973927802948241966608808725870443008767745404660579853054823525504380229651386815605335476146975874636028595682619684800872733594116173069027046870720219585226554008059195650797438794340853057852414279444916286799665263623974361514091781557594399181644441517497301686847882665281601332146700934050390930133167056470002151172506092991905574439502715089079332661551825496880539004804183118414074303685317645590599960712297928009647872434143027430859049641277616987568368461496257559652135318727926893683530780546810531717526605409664650083825164064280159011959173835059804098586044175264956222778593692095681970301576986494975413225008899748028649074259269268963672701448759710856536791084655461741086781297180740947434421065383000189117830898730453580004321463801673624354832582934735994619655927190212461378074913242878433916116222545564550494072331212460942990173674108213939338839115686222019065146435357631366668678718174441877189437428080476476173541525836486551803703882690209319932786795186196548472935573637113378677200871532604626962578619895667881154632864078132496595566560477186459412179163680677047132310201913636492025671797354440106727791182635602884595303818662957548635253713698124706326538676059755395235789998326247017863765743714607384000579546137255271566579040875367522136223359771012587551826501150327258579668111057012502250294710728779087925717128722314764842580669436124459060092228637188616915893741500452668519693031708758466236304696686365769239546677615475113338320936553735866083255770467573094034165178180473750135536111137113390575237920041883076229170933948226815388970375330427703756742009145906053876879058134369141244339163744896729456933492200618741811429995358686317780370737630615984914635629768899500230886930945274316910462539300113488117114966376449
def fact (k : Nat) : Nat := Nat.mod (Nat.shiftRight tabF (Nat.mul 304 k)) 32592575621351777380295131014550050576823494298654980010178247189670100796213387298934358016
def sumTo (f : Nat → Nat) : Nat → Nat
  | 0 => 0
  | k + 1 => sumTo f k + f k
/-- one way to split n records -/
def term (n f t w p : Nat) : Nat :=
  fact n / (fact (n - (4 * f + 3 * t + 2 * w) - 2 * p) * fact p * fact w * fact t * fact f * 2 ^ p * 2 ^ w * 6 ^ t * 24 ^ f) * 2 ^ w * 12 ^ t * 42 ^ f
def withTorn (n m : Nat) : Nat :=
  sumTo (fun f => sumTo (fun t => bif Nat.ble (4 * f + 3 * t + 2 * (m - f - t)) n then sumTo (fun p => term n f t (m - f - t) p) ((n - (4 * f + 3 * t + 2 * (m - f - t))) / 2 + 1) else 0) (m + 1 - f)) (m + 1)
/-- the document's recurrence -/
def rowA : Nat → List Nat
  | 0 => [1]
  | 1 => [1]
  | 2 => [2, 2]
  | 3 => [4, 18]
  | 4 => [10, 114, 12]
  | 5 => [26, 530, 300]
  | 6 => [76, 2520, 4500, 120]
  | 7 => [232, 11172, 48300, 5880]
  | 8 => [764, 51128, 416220, 162960, 1680]
  | 9 => [2620, 230904, 3074652, 3200400, 136080]
  | 10 => [9496, 1073160, 21457800, 48900600, 6048000, 30240]
  | 11 => [35696, 5016440, 140738400, 610588440, 189050400, 3659040]
  | 12 => [140152, 24053832, 907097400, 6534241560, 4572968400, 238502880, 665280]
  | 13 => [568504, 116837448, 5699848440, 62643386520, 89796666960, 10867016160, 112432320]
  | 14 => [2390480, 580658624, 35703700032, 560655295200, 1478040323760, 382464482400, 10110260160, 17297280]
  | 15 => [10349536, 2931067440, 221731146000, 4739417482800, 20959276338000, 10932793391520, 632345313600, 3891888000]
  | 16 => [46206736, 15107280960, 1381590319200, 38736798260160, 263749563277200, 261544196833920, 30508164086400, 461837376000, 518918400]
  | 17 => [211799312, 79149050432, 8607248008800, 307136638011840, 3031475420173200, 5347561407027840, 1196816152371840, 37962340416000, 149967417600]
  | 18 => [997313824, 422706407328, 53975043351360, 2394199182473280, 32579313699572640, 95179668534830880, 39373462066498560, 2403827736710400, 22706831347200, 17643225600]
  | 19 => [4809701440, 2294548955424, 339945384471552, 18368289256766400, 331752867807291840, 1503129405820442400, 1108312203963444480, 123857259199914240, 2373366707712000, 6369204441600]
  | 20 => [23758664096, 12679002549920, 2158784023622400, 139799161095969600, 3248493993825444000, 21504224317016881440, 27090757117518494400, 5363209551379680000, 190844830560384000, 1198416098880000, 670442572800]
  | 21 => [119952692896, 71177196293280, 13802900814662400, 1055940895112604480, 30782759284287914400, 284264805498635838240, 582433061857512465600, 199247893781096160000, 12490966631528985600, 155212483922496000, 295665174604800]
  | 22 => [618884638912, 406264511571072, 89064526698840000, 7954100497595387520, 284900753180661710400, 3528187954029162103680, 11159138769663277673280, 6442035438318335856000, 688151619787670438400, 15445149808023936000, 67679166396441600, 28158588057600]
  | 23 => [3257843882624, 2354391254523968, 579417762763519680, 59763944607019107840, 2584167080505628907520, 41599055924167585757760, 193312437347705538582720, 183233755905349855305600, 32607764613524465164800, 1250993585209790822400, 10637502662205619200, 14895893082470400]
  | 24 => [17492190577600, 13858337042469504, 3805773579983656512, 449285504398256064000, 23107150784752514061120, 470938750948971036547200, 3074824437577510462004160, 4628052426105850848986880, 1348611740401415634144000, 85379201421091664486400, 1283036702114014848000, 4076293524394291200, 1295295050649600]
  | 25 => [95680443760576, 82766788099190400, 25220989831347816000, 3379770932458742976000, 204103234517792730120000, 5153728208766361894454400, 45561218707855107728856000, 104775196888032308557920000, 49200104700836546577120000, 5021566005065081472000000, 125934667853535725184000, 764321227012062720000, 809559406656000000]
  | 26 => [532985208200576, 501612317786153600, 168779206517114544000, 25491734446470942249600, 1787762588009501607504000, 54906968768800448802902400, 636558324880961789049744000, 2148115309020766665019440000, 1596260164116975202669824000, 258450032140840193734080000, 10422549034671328498944000, 109850880728659150080000, 261001952705894400000, 64764752532480000]
  | 27 => [3020676745975552, 3082500286675834752, 1139975854572964032000, 192792206817340955510400, 15548630992199652451104000, 571826203643400561564508800, 8468421913761132815793100800, 40342987265839807904475120000, 46382303731193427969107136000, 11767769876078425303174080000, 744405667709414143200768000, 12843784389972342014208000, 57550930571649715200000, 47213504596177920000]
  | 28 => [17411277367391104, 19206735709722519168, 7775211912836677545600, 1463953207494609785116800, 134625093911407609612502400, 5849249837849315097722121600, 108182801768467333494758371200, 702362285506855318479838704000, 1215348924688969018796239392000, 477851762914435216315584576000, 46621787135166144616530816000, 1266685285895697076561152000, 9716639210288949818880000, 17712058816840227840000, 3497296636753920000]
  | 29 => [101990226254706560, 121268386156723508864, 53530517238555315434112, 11161762559872682795856000, 1161443074862824529349974400, 58923370218410947973099376000, 1335490664793669585336312777600, 11462485322232236035247949244800, 28933340647985753236211354400000, 17414935238823564727023875136000, 2589716914451187366277111680000, 107917313881114948242928896000, 1334028072356987933173248000, 4537179904312466611200000, 2941226471510046720000]
  | 30 => [606917269909048576, 775786486864504135680, 372125033964672957964800, 85523537497408909464384000, 10001929217973420276057600000, 586477150013541626606768601600, 16024448353835397345178300992000, 177055078671177828534289356480000, 631133466227334025910939144160000, 572712312640380720559180228800000, 128653535359252799035506317952000, 8074987009344931698972069120000, 154517069703016910656166400000, 889059485229705536947200000, 1270305570884942592000000, 202843204931727360000]
  | 31 => [3666624057550245376, 5025930151723024485120, 2611203763579450723488000, 658563534234691995790782720, 86031690067065359936251296000, 5777960388065071995700264953600, 187665458909596230351743162208000, 2609808608191712933303584846560000, 12732500123917629591448012228128000, 17084392627803754471951096203840000, 5752267478804447215509847784832000, 536997304596226196719772455680000, 15471796051294245943139059200000, 141601300582564383016135680000, 374097130451424488908800000, 194932319939389992960000]
  | 32 => [22481059424730751232, 32969120631948042831872, 18497895808062943249996800, 5099447491975752926536673280, 740056316276077692213905856000, 56475595487268417970142848051200, 2153857223885638415890744001203200, 36967900900353644429919667756800000, 239834696433473102416305371512992000, 464862513533541230532365302602240000, 232637663411896604325292153188864000, 32016188670045234565570434238464000, 1362227146372343597789271628800000, 19027501426474177218756894720000, 84196488137485431304396800000, 96032464197237547499520000, 12576278705767096320000]
  | 33 => [139813029266338603264, 218892524950647169763328, 132258187146301809950776320, 39706963181648558395185653760, 6369472936270444607069292910080, 548359660130444308305752911718400, 24294569854608850838190890873932800, 506079297624548150053907870562048000, 4255999221901376723373014229438624000, 11610343000327473903876932298373632000, 8546774344700350254128331829498368000, 1722580891137353106655414920677376000, 106768809621507135548283861703680000, 2211344017233712356300326461440000, 15395518207349631928337080320000, 32218061703778616557731840000, 13695567510580367892480000]
  | 34 => [881687990282453393920, 1470665291989801466786304, 954482029253379442864637952, 311027374369292696672965478400, 54898443125368663050192528276480, 5297956900506494552661824050560000, 270100816443678021133565988224870400, 6729257340941961239640988715284531200, 71718698392789764545186777765225280000, 268078512749611707067879274044076352000, 286389626686439770623858496193986560000, 84060782582782496694843260697043968000, 7517605102761878926702304347367424000, 226183438562468111065022153472000000, 2374904696113667761592097669120000, 8253727830815977848283545600000, 7633826326958039000432640000, 830034394580628357120000]
  | 35 => [5635330985337965904896, 9995386209485191750914560, 6951250177190803510875340800, 2450854133344068130577701017600, 474005532903033320280971835648000, 50979541226953949074380314910551040, 2965761585621158566907205319274496000, 87253335498319119396090230981333760000, 1155621950916693409747077572419367040000, 5766839089384150372415073718087022400000, 8789723949896981472598261498523317248000, 3735631819322928369699379731739653120000, 478778685923537989452519305285836800000, 20620656896769196893177165924710400000, 316951256762894897766928521216000000, 1717076221772166959427838033920000, 2894410170560793875351961600000, 1016792133361269737472000000]
  | 36 => [36494410645223834692096, 68708473042673908659479040, 51086841970162188399976166400, 19432836013220066468172180695040, 4102517796682972444722109594598400, 489163041309559036138212965793315840, 32230011561011931702383985881147904000, 1107221440618175563391764034522661120000, 17912336872067759564329003669751943744000, 116485890070089094566055427926593610560000, 248262762143968505473908052691115677568000, 151698769194227858075144837842420423680000, 27726307311544414231775447407684608000000, 1691561355403641585060653896217057280000, 37252379770671833843622616406937600000, 301318058048397211675156988805120000, 837357866897280726274563686400000, 636657131503206465619968000000, 58102407620643984998400000]
  | 37 => [239366326117390607268352, 477540812838010113242399232, 378811236145757020955085542400, 155041544128952792377847907624960, 35601869547937567358634583017446400, 4683664698005487623303529346384788480, 347162604659461062437251333036936826880, 13789294133036695307594774359093428480000, 268433212530118425121594059819203198016000, 2225779284267195905241499214021078525760000, 6488288454101186045029112543749722696576000, 5647153907320661645535771716335235767296000, 1465994904956147749107262360365613670400000, 125756895596359432407885207163884165120000, 3906434561001822807530897369254809600000, 45754710791599963761739394710487040000, 196630779345331414450947801661440000, 270889547745556986768377856000000, 79542196032661615462809600000]
  | 38 => [1589659519990672490875904, 3355222525788288161494120448, 2833928854021073324139356759040, 1244876959766544002685178502584320, 309920957475546603863829920142735360, 44790093691907563716812201778983055360, 3712234845870915297417793707532988958720, 168988575321938258782516768100582813184000, 3906478561347936553850751117503475361152000, 40501680810622732104320793333545885212416000, 157867286371681028006324803606384289680512000, 193339317346590192473780614159791277019904000, 71005142483950236075276264426725691770880000, 8519785913936808004851076798056869130240000, 369073306171841422889464562130711736320000, 6121680424547896725293051712308551680000, 38941544020713569016040857667829760000, 87882276978671300469528094310400000, 55591395870502613898724147200000, 4299578163927654889881600000]
  | 39 => [10685579912451515567073280, 23824497494697767796015719424, 21386158886578643242140434476032, 10059125242254943841523448182835200, 2706877591951902523919407435076444160, 428029782808516445840669954823077222400, 39449614967670800362708215309281404815360, 2042063406784752311215686331033089239162880, 55410350871738598436088971556615793831680000, 706041416291024271891724935809684484341376000, 3599516733300981675026158209726068499381120000, 6109690421918883086123476053272554597853952000, 3159206643919105742848919368112895599978496000, 528250322970394965946661348483733867724800000, 31651199665406435653761978688220677509120000, 731310095502329636042983718992681574400000, 6674071381782252306077791379162234880000, 23131590531535386170654682855997440000, 26377320843698622696876257280000000, 6539658387333963087509913600000]
  | 40 => [72682301192087742711233536, 170938556408077542088949667840, 162790307333921443039160419200000, 81807833883714989166930952012492800, 23728585656397022609652315332068608000, 4090291321539463692087948372737143787520, 417126911209448604191547892954056957081600, 24380245220505901404904131422155883532288000, 768552190394380874797605230135264757367680000, 11852655981809007606994724953485846505363200000, 77418812473451878740862841785954903384676736000, 178950115165111350293587042554677382661009920000, 129451118667696555902691107954630804213875200000, 30076960128080699546965403059334437044633600000, 2478104203071430327222261619177175055872000000, 78792668576306672357140805825788111994880000, 1008192073837413592774917024422905036800000, 5133850091802167326849757005258752000000, 9536486048214430150957171027968000000, 5072427338893650856337817600000000, 335367096786357081410764800000]
  | 41 => [500105497690148365394164736, 1238979966381769476081618114560, 1249707841133282047931110008499200, 669600820909519614016706790022901760, 208796506849018621663995527121995827200, 39102244790819562890932753781921909329920, 4392122672581573874922524847938272553318400, 288023863276151387535340604147738047819776000, 10452069856264954184182303516353407863230950400, 192480825908903694190050541632811577814654720000, 1580587899295717472828702304491948632744814976000, 4881317048058707791125099444373806928106426880000, 4897593613923837390492636346887066782944780800000, 1576880883970802237246880830539182963396526080000, 177933455578433118026487773039942379791462400000, 7715681276830666820558227923532587219271680000, 136065266133145708879771069455275666227200000, 986071584486661496990606982200795136000000, 2796105260657652968335395887670067200000, 2668861976183894555174444285952000000, 563752089697866253851495628800000]
  | 42 => [3480079846565745816554739712, 9070289194439446697425836460032, 9674760688043281981764923354572800, 5516317245309464526376421660311050240, 1844714865950226906054227643097983283200, 374143419583520576437811027928832116387840, 46094963731111858923890551561564426998435840, 3372044320511275003209060357058360783105536000, 139715358636416213930557017639874580597056665600, 3035707434840018200311411664042578394637400320000, 30807537070051271578138725223564398138178374912000, 124666200502662016751162059069918769904420379392000, 171560231836935697448393170198334162924150784000000, 76302043749051428707949188899616140251211064320000, 11758308185823453269140835323397593100145254400000, 690840030687172695908515397784171979667496960000, 16575290063839134739980253652694011406581760000, 166976079978609706776601922988091748352000000, 691124312595611079971663912018701516800000, 1069310904311797684250771465920512000000, 482791789596865363542285719961600000, 27500101936481280675682713600000]
  | 43 => [24484510749551977163109658624, 67052569390784010459059424688128, 75519921209668929516252366878760960, 45738027006291318982215357420124846080, 16365760989057595654221119524612627415040, 3584288454110683140612671521955191131770880, 482488434555066833346665054497268397786562560, 39168766482034661566577323742014612312355942400, 1839394282948344153910407183299756603079991603200, 46655211998412455328118363671489777550369996953600, 576247189099750245279692060778795650313342034944000, 2997885058666074147277234553044949595467535621888000, 5582050719377007462342228787615812392323587425280000, 3414660937952104304032339126837334646104616944640000, 717145835340400456655080091750327067184038789120000, 56826023969708827772275216599578755090426552320000, 1837101585873011063548285619888107036850749440000, 25272484206039577047999887838197999117107200000, 147834640669607892868907288308348787097600000, 347303307870703590834956699961306316800000, 280252356330297462670813479940915200000, 50847688480553887969337337446400000]
  | 44 => [174127944151879047274963466240, 500466270509940623253577258010624, 594341477016512268961571676684490752, 381691329818223090337158487074672998400, 145821498077664441716288300126320115466240, 34392667897484770778790472219643810518118400, 5040548111993358219944167416481185972462612480, 451929935296892860502453472753810498203966730240, 23894994561521647266526008126060953946498177792000, 700822289931348359666180747739726089625426295449600, 10391256705860285359482546144973563701746291680000000, 68263104063937869451590461513932467757816182415104000, 169328167056969178824727272836417257818423449190912000, 141617515887694301931008834798705970050117526297600000, 40461360235963889209501168580266342301307769681920000, 4310289500662365411843971812152458513558594150400000, 186409177575260478402566655273026000672176619520000, 3454898757049608171733175435208667028984463360000, 27883555001052200906673091223108586258432000000, 95071541685947591198407608946955496652800000, 123810689231176279817898486411706368000000, 47854769886500820749560760677171200000, 2365008766537390138108713369600000]
  | 45 => [1251446417132166042451788445696, 3770622509947761651905848345528320, 4715264687623537267037699057204582400, 3205785641706865201006643911774270617600, 1305025278770783794133442767886756808704000, 330625389345411783484201253878842372647792640, 52583278175893964806248938123027652700851302400, 5184194123401000978048272385141060665477342720000, 306767339487744491106630122229845035598973936384000, 10315510019409215775230225812028061538957022388480000, 181380216932589340916425791714711197212135728072652800, 1479805817912689441297452491403384757917600601624320000, 4809185837326951337685127990455227799582128316633600000, 5454911464833564286215455140464466726397624495692800000, 2115823578116949309613912696393168051269750608640000000, 302374911389344900566755662785694051396823080919040000, 17402180063923339010714250244966108046982005145600000, 430080552579672214995305042357983394508066816000000, 4702379695966711604122911324066145275297792000000, 22520772421773428249827943095840945397760000000, 44322199407807491651793035842425942835200000, 30506537793139696221756212071858176000000, 4789142752238215029670144573440000000]
  | 46 => [9087203903966723169825144426496, 28672210172529689493019608185978880, 37707968596177019513386722439972454400, 27098526755289292448530654420414137262080, 11732327424643599287435298764671145468006400, 3185257785918236736126583941460116747167293440, 548066625364590222929712768470301999778562457600, 59178329628822821602072325493634555590409635840000, 3897711708877820431368995698105206361815774883737600, 149122626098414503940984708902274782416110173495296000, 3075545610347217550782737919488491340791400626785484800, 30693351153831508998034311553369968868290546316692480000, 128486069393174442248452107259012116181405420845657600000, 195628464231282819585255346833362834222650626466913280000, 102722825195058481111100006841609453621978797026867200000, 19665269396586920477359746092588908585595608621117440000, 1500536654363505004846973792800379971214005706342400000, 49065685190838566596241361647718001987189764096000000, 716649544318880784475866871178121213959587430400000, 4704490740868013210178465338966316026707968000000, 13369583642414197475079343646756573213491200000, 14792754277211771092659545808436690944000000, 4932284907832890567779174450135040000000, 212850788988365112429784203264000000]
  | 47 => [66653739092046361122607412928512, 220008992440353581083861436820303872, 303922868718296644118183573467826688000, 230528672736048062206288321926937620049920, 105959765341610109528355009013587427072102400, 30759345603762243936881636006213370084190126080, 5709670839365058484299302957992155306908192071680, 672707854783337030714674088975416659721632193536000, 49071363739340387268081933036672218194151412913766400, 2121358733714756080600757292210981224358425620225536000, 50817772313687166730308613942394208682295380025088921600, 611902964904834953207321992386379713865479951438591897600, 3245010103635432204308160817671443306328961575446745600000, 6550947580141268378512222172877248952153142796211717120000, 4637843339479032913747149725704765347801888034468915200000, 1187983877417553341514927851712148792002764796179066880000, 119883324225477848101075267282513639503732993432698880000, 5156314429064382752907459254439911629219902738432000000, 99522937440621919533482432084432797008455334297600000, 878926584919590601927358716260339858874073088000000, 3489534712323843605132190084861392866944614400000, 5810244853087139274722522672571451893350400000, 3438528756701290031383990872184258560000000, 470187392875298533357393305010176000000]
  | 48 => [493752322578482350104389200973824, 1703277184445014504702099554268397568, 2468637639899261578862609756077182689280, 1973634768903093323080399622738256061808640, 961455113505182396127749161744650583522897920, 297806903071882290987392839958772742433527234560, 59479527632189848314028435927653967805875693240320, 7620482375330814386962703948390545954111726021017600, 612853787045708022248247607373595967969410890277580800, 29749101135042861862933137465896626663899830538034790400, 820479742936979875407295422661980804347560130205968179200, 11773213484949133394624785771061266174745628974629826150400, 77854293204201807500927840868179925437286997423390702080000, 205525496214582891077829216468362901189930121925506314240000, 195061780128204812931844683494664305243025574275203051520000, 66770060724224189741052492897006079194522600603653160960000, 8896787679438405874780753749133700961405176851944529920000, 501204169136496463092031563193407625839957371987558400000, 12677274502539437202565077646023215781168325587763200000, 148453901694161944275691213489394827835073468825600000, 803226066674736351933856272859486503903726796800000, 1922512731096237418724978491269599576693145600000, 1822510590393687711941761865904507715584000000, 527850374418558549235521283948019712000000, 20007974164906320568399715106816000000]
  | 49 => [3693131798996707683989545021542400, 13302202696269070054772309572425007104, 20205264089693508709614254622211851558912, 17003921876107950346919517174754879531008000, 8765245535921125631741562561654565809772523520, 2891248536853258343567102749962420046588973875200, 619789137322829256138540340457193268802488951848960, 86075393578316135375469413955779024206000692480737280, 7599861575899428621756002708840130766437777258223104000, 411890208922459214432087611784767120593514959330156134400, 12975423693718194621576994008733517273288242227092517888000, 219414041070929856022682029549174639675947603225532414771200, 1782800963945780830833605920807061151736942503564846748569600, 6064225871497466429272329939483289453838409701262156902400000, 7657218365173380174598963082258991758372495945877286072320000, 3496484362769217231054798923921154112646729032820511129600000, 614541537656931613759116413081081407448768923583530229760000, 45210271009037823002774626759824995867538893275950612480000, 1489037951404617317549480826606012974580569484607488000000, 22861371691270867111054066599206506450654842165657600000, 165387472305430120473361357345171443198132731904000000, 550364485011064394994871221941828882017733836800000, 782166713025565309322812790705411861014118400000, 400891575072820333637592047712078397440000000, 48039145969940075684727715971465216000000]
  | 50 => [27886995605342342839104615869259776, 104783541106275112426243709042897100800, 166626982119336061198812907993896179712000, 147421639327892800169998193951633165678592000, 80292239726135573252530900084955559917091840000, 28151882416808414619845750879485655686165657804800, 6462324909767288006788611513121250518569003651072000, 969981237802723182026643635435478610338189350154240000, 93662422554044123637544343246288054794737233037143040000, 5638231422782938849380091675309226099565414793215360000000, 201423238515008977254105299724761257969372355484583139328000, 3973730717183574435583415507710668381424208854868256061440000, 39137371562857767645464961639958580975392901155753297536000000, 168981826887520553301763883624375759842014383069545345152000000, 281182587121318614749078364513471672268839888139310837760000000, 170821260916086199826105001081589330583491255653560800665600000, 39575921344274028612449969898471110443166420968055457792000000, 3794575206791348398615799309321513569193251466929551360000000, 161961561926514682073228663396768502473428244313538560000000, 3231525357875510678762146218798577251284031457689600000000, 30797012453195220881276523347556742570152374009856000000, 138950526782442268793451973134417103187348520960000000, 282718644347892518652808789044818599319961600000000, 231373953436529683780205742060441639321600000000, 58578346361304480044132265903980544000000000, 1960781468160819415703172080467968000000]
  | 51 => [212543585555177727038581866946379776, 832390506262104540955923085743367987200, 1384369984061879184852358468299950850048000, 1286116538377680611034304559244647842478899200, 739038543208992886531799400949666751292499968000, 274950302810803067748194800731403648140132899020800, 67439761405767825534427976318685961530430510768128000, 10910279921609319790905372570425804722911669273415680000, 1148057237681853183435562878169776515345516159424165888000, 76397225326292757159294359639612025952460723683238415360000, 3074997740372281904711824285036673989544319442250997301248000, 70136217529902766519752510096552782503725103989535061084160000, 827003582805652189170665275602297495752658628607856170956800000, 4466223644271426318698858218548623381405749149520742163624960000, 9684430934856394894441610287372236190475745597705819184128000000, 7796648120515635723533511757075274333436067473702610814361600000, 2379419655040267832334445936060070841816435979517592403968000000, 296979973913094331840748412094651536279576188406462412800000000, 16369819884712825737874449817907596090977543348633305088000000, 421561606371350476826932311697806550512408539360624640000000, 5231008274805541002369613784655081700796260184948736000000, 31385224136879619965051837357641003082555098890240000000, 88402206191281633389814836108486910370139340800000000, 108089592386050412952122565129765576726282240000000, 48296596576709591274009542465630660198400000000, 5099992598686291300243950581297184768000000]
  | 52 => [1634780361427637211832917276278628352, 6667560961701799408747784971211138506752, 11586329083968607075835001345909988061184000, 11289950548586585521155771086266065870447820800, 6835379431778894403368355263867232211248749568000, 2693931086246999046770867958907111045013947090329600, 704602734196090670640571249621942880739734490067353600, 122545022834878603897741275045091181357140620559626240000, 14005987305525314928318653076528096217247242117272517632000, 1025811041939524918661005169326073652730303303139109903360000, 46244654014040464616533373066734460664798747538716222406656000, 1209498244108513804149544391326646843073139309806409192052736000, 16882806068660109252274490627787781747186228602758459852006400000, 112448421014372024479366948974369169798136851204865223942435840000, 313806420318566902732514495265393559149572096537359395472128000000, 332955383289897586921272947569781149248527296613972743018291200000, 133718204619850746865982090959564234284918178345690679935795200000, 21711308156547259407531518493334439073370609416342821836800000000, 1541771903609197934568317837374373590489097815966400335872000000, 50976907516264262800643727245493125436699164153515376640000000, 816041434406463597860914169639194090063811334586662912000000, 6412736976718835699025099425875956969071477463416832000000, 24377876969784744870482541477159254348670994022400000000, 42518400984675338519300307254352524377919324160000000, 30246752771366507205081252999191715800678400000000, 6732690229250037928853420799745010958336000000, 199999709752403580401723552207732736000000]
  | 53 => [12687046810296879017839174357490376704, 53845674630129925453602726280736014573568, 97674557116597583974183105341840212796211200, 99717879690104802920223715580026865196315033600, 63527953209026633034885198891177212767035934924800, 26481717865866751882853094786518446944466899525427200, 7371674803711791005406608637979172900250848369458790400, 1375010105172030289192214688653528497301652427099189248000, 170169154552139017853140745049484184622108007712038984704000, 13662412694055460764056137713995900665155598318417325939712000, 686121878268482336213314589287302405851344739238718609539072000, 20425216164422226075081794010118057498054253294914298104387584000, 334071275091526039586460113395384796739148464717881504934773760000, 2708250134170940586679848250309671626712194179354398080645575680000, 9599537371293503158176403050997263034379453527282358746930083840000, 13327169315610128989517035497915565377659811384443924683278950400000, 7031844120434721834892905640764381124339930614769134900321484800000, 1484763426607468286398548588918835758274429318397239680964608000000, 135622374065628918414325631254142813437548471744887802875904000000, 5734616778926175779633229583741250713887883735587827515392000000, 117570417625669546092928749753919580101725038010629259264000000, 1195624343160755432669893679966712807364946778838499328000000, 6014867199076703218647791262870715408479598737162240000000, 14466594715576035309450481919537655854634711121920000000, 15327805691007250514965123229055123023053455360000000, 6006532516412554482286255403684413554819072000000, 561799184694501657348441458151521255424000000]
  | 54 => [99330405965961651244983790000257679360, 438352104929508530936651927454874965540864, 829316857266559543335294361405504408057331712, 886148306395899538017259122598533302370127872000, 593313992491670644007573662846414478314559448268800, 261204249335857151978735109507056044101918566879232000, 77246166513364682653748021620799690820246393741691699200, 15417997879971915201472964393776971529671610239028816281600, 2060245422973406470140159633840697977140997904913959987200000, 180653015305086669970772435633082053724746941948839784722432000, 10056539820478544905048018599376762174978596127475701464360960000, 338457432051467013169171082229665437728505875833257870351429632000, 6426561166471667858942525179817823541323597365708549214338697216000, 62639871918208148789185325587718462034022422911700584756139110400000, 278264152077389661432995958380220605005313964195014221594844989440000, 501032333130496553263177716147121651775326744762770820797396480000000, 346407224960112391276101141043181913385935677760811467411619430400000, 95094108267614983637834844492815239099788880138511549781410611200000, 11163047987538207136074299193372555588050513677912958740131840000000, 601908241360476832748194036165129351349868226895298991890432000000, 15714787480740727411206590562508167051358754324852777287680000000, 204836778458795573376479980583823441638689054538203398144000000, 1342755392235143963263268136401131134072873598775918592000000, 4340758522768716540218450269743723511808529599692800000000, 6538897869453779250652839923552515490161148559360000000, 4068786446213998959017731482196860596445511680000000, 800500238281963597382961329776315729969152000000, 21199969233754779522582696534019670016000000]
  | 55 => [784430933721993118208299205304738021376, 3596882290415118344908249987278481485742080, 7091211424184886532759758189017530040353996800, 7922615454416236110130061959212772278092587008000, 5568299081558608567972030857421166045866589798400000, 2585361873723489906131670824378959861774019656469299200, 810871243114953164062103768067324846284424100223453184000, 172820707949841629314026324846042100976884185931614351360000, 24868204485643125951506440399909080525286471395368385515520000, 2373321675871542100308330451749517190663374235985073717401600000, 145786073663841455766655616514709327179915888176300290334214144000, 5513067712504517547237564778495119149730911455046183505512202240000, 120507504278694818729325714282388131487620116177290514837543116800000, 1396422491136633818633237999245168333642246534560486663727933286400000, 7672863343721852072873906710576347011120631914926406734493547264000000, 17735063608127049509895535541094804539277926122039568877220949176320000, 16005269454616935460274316411232415841578287437877650023789058048000000, 5709722763235434993609825817372050443353360405789312621142630400000000, 861051923388414738100695158222890458822138129080301257078968320000000, 59087655596945071489296700350429284601539329972058971930828800000000, 1955947049572112831456307242845683385989952215897717386575872000000, 32429566136617199086201165146982136652073586903619292692480000000, 273610628825191527220829896142538018533747695307621990400000000, 1165439105002316493630057057112280928361613097752985600000000, 2412489088848655863852844700489835498386571067392000000000, 2229507241243314591725292147549404370760995176448000000, 770463114873041222403338842648831295556157440000000, 64129906932108208055812657015409501798400000000]
  | 56 => [6247603261849883936682407655318910386176, 29744573017200104326761284860460243670302720, 61058172624167184340704102186891441695852544000, 71259186196060290275916451952096140530341224120320, 52515075409352811513804776915919869754896747722752000, 25680627787048782012724078809018312968111382420988723200, 8528408927149681354953764246233821177969104828337801216000, 1937051529395557623462023657631782564182211212904055889920000, 299409046901210659511586690830203433960213215118872272070656000, 31001056080636679718625674313507328471874149181899401186324480000, 2092542202463693592181563747388797998300472901465924024654485504000, 88416734644782965189438150109200591109039139403616903141128847360000, 2207885868246150096455989465949027766002880422644679976032163686400000, 30104344819955474073756520885095924486722790856726071813960801423360000, 202032336673013443686214026123044016623639718979139471347941261465600000, 592738534971686762089579114617861190230286301013235358355678477803520000, 694534928861589690533546023256360932725463302829455955224737160192000000, 321692233814188307681073132863263213533555030096048882698981867520000000, 62316894852740477917745504644852128911366897048026260675845517312000000, 5435750800780348336564695408027018477220674563994524063235194880000000, 227390962996075860086583468624208459068717984836256583627948032000000, 4766598629252212326805628342670176511023016433227445644165120000000, 51251536093527482818475399189261941743917692213959834009600000000, 283153458753864000049043805107866226637803735770780139520000000, 784900034300776597615337297928609253515172208109158400000000, 1028201543025635619577025035153828603781397922971648000000, 562835958536893894879216654827712479041248296960000000, 98351957267696860900141774895450754121728000000000, 2331996615713025747484096618742163701760000000]
  | 57 => [50175735550281498556347163152384239583232, 247864230825694604613598994452218695618691072, 529358898325527105491692050434898500852405452800, 644762269222591811261808192947139122274806161735680, 497698721860133348978973279083448371782529923971072000, 256010769038022021661505217676737133575740516721546854400, 89884888807327436792578234288281088440045142861787311718400, 21715736584455958514998306951266931145417782186304651059200000, 3597150783054973512091482712722851110252473821027055283267584000, 402883380744165949155991631986057673889863859374819036653793280000, 29767169433101559131353403665450409988964137827217815313440299008000, 1398131958233127575838883967902906226120094816008985528998403883008000, 39608316703231608799608346178898281024836941453007749228698565273600000, 629502836471775485976300516584928996696548337685410215430770021437440000, 5098749972184402605714366801632347575686466044865583982521364226201600000, 18763749711068558026962667455463251405319497971246284932341945139978240000, 28352258262687880500476045325380020288347672174460035712402242882723840000, 17022386603510266978712012366375653452191723549821160726264356208640000000, 4235984844623864197919519060441094606038503092335421910766945660928000000, 469372594525585602856590690373462846186691273011523220422084935680000000, 24754475963668584944316184112378150748138954859143031290184187904000000, 652938179545577567501068465998271974441155923657148806413287424000000, 8876062489808884606926319428988746296143588662017480702361600000000, 62809677113413966168808975028847917099240788082831352135680000000, 228508984915963873624469077052598034968347030215124582400000000, 410035909024788839879839724705723793754377753446055936000000, 332495011855163871669671151937732862016199465107456000000, 101841125584075925718913692517862060584756838400000000, 7576657004451620653575829914293289867018240000000]
  | 58 => [406289121475724882947244399505562131595264, 2081109663320284642655684851558271950514454528, 4620652777643019395185429752006005565361825873920, 5868471467505192716874911057320440969340258960834560, 4739920875298623092598681066400052468450830214553108480, 2561572767159343176026939215085741690710912868943748300800, 949445765921956685066334251711754136253074605342960503193600, 243559077377439515531759814656607754416948787836785684484096000, 43141638484085527587342982363266264228454720344983408124776448000, 5212228866196710535809872274369187856546556314737595370153406464000, 420038155671743560139212670548465682036885701484866336530753540096000, 21827213443059002626700156175965466497366025116112206550916699779072000, 697060699169342784217747261861860702762393444551818603350469184655360000, 12802838750835223852692099130071603058418371524394308066747939918458880000, 123770163419994262044706214154349228203487469778892829238377401345904640000, 564496593115084849674215530460287261003653524405830019073638243804590080000, 1090903535248149860188803843327997205975937103014413996243631708309749760000, 846775513313945093059557349749517148150458610911903107722821749061632000000, 270676624399769995204696731120029686022427798726519020474468858781696000000, 38092695772962852518432707293148344675912722703840927739572102094848000000, 2528735208108813817801547738374510560467774089311229667299012313088000000, 83619718607202601398230704293748301230638683335455522193793581056000000, 1428008708213967809316169540881250984291301859787347608369233920000000, 12811954258810198504144629628603823855067384196952465133404160000000, 60207677287616900761887647748639139637241689967765938503680000000, 144187020706624377699566151858204433726167996929759772672000000, 165279288290187496116897506291766931737399311669919744000000, 80010406789232194858585534775845252263637218754560000000, 12474101753083471730073161096086657794394030080000000, 265847614191284935213187014536606662000640000000]
  | 59 => [3316481783392051799215379862343848027422720, 17603567732255343087373276810676624622888648704, 40603621279696606806584919394592188015347655114752, 53727108254389511254782103241657783015713669297766400, 45362065727182859920793853800709415872919936159478906880, 25725867790264360160944123629351036965161666980218695680000, 10052372389714962404384152341133807820091700494809757568204800, 2733518175113785954299075063030210213188412536122115999708774400, 516686105591174322688152528317200584424280020843776288583311360000, 67163811634103307519438506972687271711888789634584638243335163904000, 5883916375862543146737245453743393821410706694196463409108101611520000, 336811279539692671262814799166201054242805900019921416621435062480896000, 12055031851681388315267653575901107702003841578683466877021782154518528000, 253876133271286809695280222371004064009776661182468868761579310920192000000, 2899366294919555223801806748447414301649072067943354458547854904362762240000, 16195425099399368224005743363428047336794137105025439501160093738469683200000, 39653282213745844339601114290146564247411429834405625053630109244406087680000, 39641791703937554560916915143826034638093263385656399203952178248548925440000, 16271574375793872810215029922275821593443172611449925042757655503585280000000, 2908690436749838041090251100170534329032548497751941697653093558673408000000, 242810034109420670566730742026377604213599419547823367161126318407680000000, 10038349977583641482682903999967661632059884991877226018038881681408000000, 214261060663638097051318854303329562535822340210832464434111709184000000, 2417289875947694582217555567826885880026678370685195046148505600000000, 14486368890416371250539640578962457374436901355337052053831680000000, 45370758493743669325220662230993604916624206879566145781760000000, 71033469621613556608440590905480405390946420701362388992000000, 50818235855455892529312329498689836195057485633028096000000, 13860502821122663478383527662613709829871711027200000000, 925415544999862859477103997601927790424227840000000]
  | 60 => [27287539950459819893102799433172013791543296, 149997528233262723098304930245205102467148840960, 359169440105298350377749729729728833302369639628800, 494748444386617622189731043149563307762802987018649600, 436243861044649897209884975374116108169483629395202048000, 259339650505454426071792199747291204804023040224386842787840, 106692115482148969353792254424945992328878077325111330476032000, 30705556801887332820800008594873284312050361107467368156549120000, 6181457793937855730211412321812770533120005563464259197128929280000, 862439253598397245400400978889321857676525060930713891412447948800000, 81881372089413388787104864075244178523236723549309838571657691918336000, 5142471985165353807925178339014132579284668661771932427786397594890240000, 205185933971220625725614008603297369533649674613870135706131086499737600000, 4919333531637490783814252796728619346473855955201750603373545661905612800000, 65741303269317432657000074260474733270554321828508332759915119700127232000000, 444643645587564601289982706661743158417567689532358427915871277471506493440000, 1365196653251198059610240814195089850246690616242621982434498079084070707200000, 1748759442897429169470795817054177370847312938161849900596231228200454144000000, 920896146350447428280203214237802113198939296631330217355474510547496960000000, 209155359256589773743891082092585254135484736036478683271206701965107200000000, 21945956180264651331925632260751031991334654782180725428919467906318336000000, 1132096186691948077235760204100023746126981955715077262659578329989120000000, 30079975975739094941073348923012463359317771339617840164212039680000000000, 423899257635530083978405588650135158080696286661467372297836953600000000, 3206069018089038065921506515794256988186868546359755695554560000000000, 12921815429982324800068670598745157643017127558435407119515648000000, 26917594441522631958827851979151002958789998184827144110080000000, 27153766286903556859343957787799846183216719793383014400000000, 11681114065156453893026400658816967177436376911052800000000, 1631633085908656507747554972043059972862377984000000000, 31370018474571622355156067715319586116075520000000]
  | 61 => [226276446953982927846025591173802895436906496, 1287353725085021332055531252283914705777446256640, 3197942301375809559288185451656145803497910154854400, 4582205822230070199344065438476042430840861258042736640, 4215739515453436381932434373894512392793594947500783206400, 2624323596206178787892270421444671004909092393061937597808640, 1135278286266549656307748637710631417341296596640564242976768000, 345275317653105930813844691612468723445351903078331176029245440000, 73894566362562266532007198174353663647415661841523315058859470848000, 11040567677155443351762817260078188212432409776167417864536309329920000, 1132723863296021575039231312399813361707822569330139237609700215320576000, 77761395745149137324605778750016761431424577216599886903167614075023360000, 3441966387798420538082999910263587410995916324164246347161146923390464000000, 93330731699025904131297235872202682858110799111793383390929609611568066560000, 1446847368715479917344300445831084279223625189280119945887622080751128883200000, 11721298788004862248453020648897568551544794880413382949073361015356221091840000, 44645763870504449452619158915881754259005668981483852387074729413756616908800000, 72805451564919416164792329456237168172975992745477003866776712077707216896000000, 49104972438187876233272185588962963959720494910110880674644112497963302092800000, 14173564070895162071400717882193705247789762988655011972169714518151127040000000, 1869247336610494095837876715541624389697802835137946069684907075502882816000000, 120160060132731689549678289904012373635273258539691763308012413192929280000000, 3962049329312663515499756761447901963643225884539610752120533422899200000000, 69368200945146560987403945823556852448197640684683741973584866836480000000, 656548525056849075171551497671764909087198557717342276333594214400000000, 3361241646859174384934864354292270984543363323233389810952962048000000, 9127522951563549058949499666557029054956501746125753386270720000000, 12542626429154155843865394806263486691975014552194986803200000000, 7956492226426880019495817226234679359208617400304926720000000, 1940786892301899252500238768192443854706295649075200000000, 116727838743881006783535727968704179937917009920000000]
  | 62 => [1890816383932031941325296356597295736721047552, 11127500477391569215155255969953961451515065925632, 28657915938525470178893109433340431049120724231782400, 42681821450438364294510741272068913463341395823035023360, 40937485747510140335771358102191078790139579122821637734400, 26658184588139174363902147928837646745981402583312094169006080, 12112098988096227534022968539641360672988702005703324210490900480, 3887244049187507267556653384553334214551183310877838729511976960000, 882896659030290483122946139876285772556995133279524317304897667072000, 140961964776074283636980804078099724052145854608482952213284464312320000, 15586323362739775099837833286025394985253520177878119550673264414277632000, 1165573793199379731177649449558913322519119053512752158741050453304655872000, 56975644937183830123311161254580106126481829861796863868666462730581196800000, 1736834272186720211453631644134190468293704316665519223824764433795354378240000, 30984860444628583197207320703221817565695986755764706363393149642962864947200000, 297623587626531389047520670202378243106065263385380150378508559570782434017280000, 1391102579884220495715938574588555837954898899942954713198121163156345238446080000, 2865807812502565866136792836937695517007020342493025164279821599300200773632000000, 2469130965632613349958502826630873383562026261491596737896521001266532123443200000, 905754516042939500783800407946444778550118408622374473076836966040786083840000000, 150179903560432222215994478148664947056469272968605878912980544890529759232000000, 12021118496429226701113857423437134586614368252455629662012596760343314432000000, 490752722400262488910922115781588465870297303911327466640434367078400000000000, 10628705420036645551374132850445134183049592873851649568549481504440320000000, 125017807661038643522950704733935085859440158136420597253870773862400000000, 804419274262910207755667485885618592795061518244865444928436043776000000, 2801523051952670310441771758102638694584400857638878716300886016000000, 5107873387522731690291018626532600399342332463144438281011200000000, 4558339117266914361594972756225704717969603182810921697280000000, 1750368477139409306431739976317776804213121786000179200000000, 219901853195583174697435659852124233539764082442240000000, 3827142253897737927329040261268989506161213440000000]
  | 63 => [15919956095078973467778883009373075253809250304, 96858730892652290678611067498141226066387956072448, 258455925525029080386189436605580048090673343815024640, 399821816394464025321818179683761928071504735833820037120, 399450648763203327060576414302350655838000478904638753013760, 271843164631350022804655034913158475862814402638040922068418560, 129573701644589164485273217944431540929112107580988358739659653120, 43823736134416886429593401877763973515586684144354839232255664128000, 10545974017924305661144725756600730719050038606564146373567629533184000, 1795634604813952255856970737263316732775697325354430728420358977052672000, 213440389773790275816691565023715380221908473978390894492851756726902784000, 17331538311975399574968366158937126768850123511649251606632774621469564928000, 931717457212486031862851958712393703116295594635411189038131600996496629760000, 31754917477773053308785736986413821072088628019374982786690388708588448276480000, 647158929669028311043518746479265701197840866605113497136296529039399242096640000, 7301024237492921839750688802339585364612442775978197809634870621057281324277760000, 41427895640131047674798471555608446364873530095941099614371541479031635833528320000, 106881722584648756751950271507549124866804349916357446185609085334184007120076800000, 117192972143281301161229790557372405362313808531438368515060245321225712309862400000, 54616927025244108571328729396897873639517628704862398646155627117372408599347200000, 11390028832822730836797406744304093246394544625249248570792791797153849032704000000, 1134944520187693497316164851249988985658944710142811402394497898682333298688000000, 57271090544083022376418717564235264008332739623258556123830279357350215680000000, 1529139304755426849537596370601625131390638361602316523645877895442595840000000, 22226222618228541496437309763518439828236091041668888654397725489233920000000, 178187679322186896881992027324800993488436343844102941086485671575552000000, 785451957044448342550131602610595375608475969778633318946044903424000000, 1861344819772797774931181621086388393668908571193943574676766720000000, 2257232301995076575743606636190577597638373259964182702325760000000, 1275560150809109584793726705263322689297621155283709460480000000, 279379698678372026741462950630401144959891117105479680000000, 15189927605720121833568960796976619349953856143360000000]
  | 64 => [135041388282796985771272553475002706667235246080, 848944369600363947281548857969130442698514286772224, 2345652294047563631187803381155395500983833899375788032, 3766379501668281775207747745584202794994335738217968435200, 3916450865960434167887717042846310790734245519494492878274560, 2782861546742122887320039252334822129628482348636147214476902400, 1390041265124773271148566638032764719915290955904320965793936834560, 494800342734960771024532513263704471031545684024860395510851284500480, 125962760010257833301320879022952817223104387678311295073434416168960000, 22829094981130237938206239882105454903554499722490643466598978140372992000, 2910316371655126463744651606116650380658101019553663215596362463567216640000, 255839909503240289383597566318854797880803745372585429823126860100414603264000, 15067395067003361690893003774045545480579812311879714097100803979010571599872000, 571242154357173348220388954398995105855761019105841048406270367829953272217600000, 13210114746818495542005826855901478802752957805256837318225620220818202769162240000, 173511139160573900041643096538416564443550400949991956230708309186806957575372800000, 1182872528626428516616348335226018807046041478595091580588649442605870133211996160000, 3785984282391714164248014553830437718646766655723937874808851306365912567629742080000, 5256797992178702688031824852249255715067612443811028495231809022894854718259200000000, 3109541785711379595244722746021039072501209209267495457894853850750562301981491200000, 815990355144453689456544802517117130328385756526082872767842805646713708544000000000, 101225449781609296308526269694772558709819885542702269978600803953444185964544000000, 6307100822004487903799002733932662089050676335338157882276273384488351301632000000, 207057427741270549637911130671386258867921321577590238961819067705930547200000000, 3702037848414456595736714319535913376304375700259587703306976130086993920000000, 36715261776771953456286844475292539241322897490814833160157828208394240000000, 202644640628916943840347680534316963216101139769827847337719168499712000000, 613982506182493344716737770358571700765275962453616088030658953216000000, 985374182434711421664560961666406948479962994369953586059673600000000, 781687400225980435571900264777861867065039596723146462330880000000, 269045282064912360919067086715380758573881177591198515200000000, 30511019030765826941383342461787449508262869393735680000000, 482219923991114978843459072919892677776312893440000000]
  | _ => []
def A (n t : Nat) : Nat := (rowA n).getD t 0
theorem torn_0 : (List.range 4).all (fun m => Nat.beq (withTorn 0 m) (A 0 m)) = true := by decide +kernel
theorem torn_1 : (List.range 4).all (fun m => Nat.beq (withTorn 1 m) (A 1 m)) = true := by decide +kernel
theorem torn_2 : (List.range 5).all (fun m => Nat.beq (withTorn 2 m) (A 2 m)) = true := by decide +kernel
theorem torn_3 : (List.range 5).all (fun m => Nat.beq (withTorn 3 m) (A 3 m)) = true := by decide +kernel
theorem torn_4 : (List.range 6).all (fun m => Nat.beq (withTorn 4 m) (A 4 m)) = true := by decide +kernel
theorem torn_5 : (List.range 6).all (fun m => Nat.beq (withTorn 5 m) (A 5 m)) = true := by decide +kernel
theorem torn_6 : (List.range 7).all (fun m => Nat.beq (withTorn 6 m) (A 6 m)) = true := by decide +kernel
theorem torn_7 : (List.range 7).all (fun m => Nat.beq (withTorn 7 m) (A 7 m)) = true := by decide +kernel
theorem torn_8 : (List.range 8).all (fun m => Nat.beq (withTorn 8 m) (A 8 m)) = true := by decide +kernel
theorem torn_9 : (List.range 8).all (fun m => Nat.beq (withTorn 9 m) (A 9 m)) = true := by decide +kernel
theorem torn_10 : (List.range 9).all (fun m => Nat.beq (withTorn 10 m) (A 10 m)) = true := by decide +kernel
theorem torn_11 : (List.range 9).all (fun m => Nat.beq (withTorn 11 m) (A 11 m)) = true := by decide +kernel
theorem torn_12 : (List.range 10).all (fun m => Nat.beq (withTorn 12 m) (A 12 m)) = true := by decide +kernel
theorem torn_13 : (List.range 10).all (fun m => Nat.beq (withTorn 13 m) (A 13 m)) = true := by decide +kernel
theorem torn_14 : (List.range 11).all (fun m => Nat.beq (withTorn 14 m) (A 14 m)) = true := by decide +kernel
theorem torn_15 : (List.range 11).all (fun m => Nat.beq (withTorn 15 m) (A 15 m)) = true := by decide +kernel
theorem torn_16 : (List.range 12).all (fun m => Nat.beq (withTorn 16 m) (A 16 m)) = true := by decide +kernel
theorem torn_17 : (List.range 12).all (fun m => Nat.beq (withTorn 17 m) (A 17 m)) = true := by decide +kernel
theorem torn_18 : (List.range 13).all (fun m => Nat.beq (withTorn 18 m) (A 18 m)) = true := by decide +kernel
theorem torn_19 : (List.range 13).all (fun m => Nat.beq (withTorn 19 m) (A 19 m)) = true := by decide +kernel
theorem torn_20 : (List.range 14).all (fun m => Nat.beq (withTorn 20 m) (A 20 m)) = true := by decide +kernel
theorem torn_21 : (List.range 14).all (fun m => Nat.beq (withTorn 21 m) (A 21 m)) = true := by decide +kernel
theorem torn_22 : (List.range 15).all (fun m => Nat.beq (withTorn 22 m) (A 22 m)) = true := by decide +kernel
theorem torn_23 : (List.range 15).all (fun m => Nat.beq (withTorn 23 m) (A 23 m)) = true := by decide +kernel
theorem torn_24 : (List.range 16).all (fun m => Nat.beq (withTorn 24 m) (A 24 m)) = true := by decide +kernel
theorem torn_25 : (List.range 16).all (fun m => Nat.beq (withTorn 25 m) (A 25 m)) = true := by decide +kernel
theorem torn_26 : (List.range 17).all (fun m => Nat.beq (withTorn 26 m) (A 26 m)) = true := by decide +kernel
theorem torn_27 : (List.range 17).all (fun m => Nat.beq (withTorn 27 m) (A 27 m)) = true := by decide +kernel
theorem torn_28 : (List.range 18).all (fun m => Nat.beq (withTorn 28 m) (A 28 m)) = true := by decide +kernel
theorem torn_29 : (List.range 18).all (fun m => Nat.beq (withTorn 29 m) (A 29 m)) = true := by decide +kernel
theorem torn_30 : (List.range 19).all (fun m => Nat.beq (withTorn 30 m) (A 30 m)) = true := by decide +kernel
theorem torn_31 : (List.range 19).all (fun m => Nat.beq (withTorn 31 m) (A 31 m)) = true := by decide +kernel
theorem torn_32 : (List.range 20).all (fun m => Nat.beq (withTorn 32 m) (A 32 m)) = true := by decide +kernel
theorem torn_33 : (List.range 20).all (fun m => Nat.beq (withTorn 33 m) (A 33 m)) = true := by decide +kernel
theorem torn_34 : (List.range 21).all (fun m => Nat.beq (withTorn 34 m) (A 34 m)) = true := by decide +kernel
theorem torn_35 : (List.range 21).all (fun m => Nat.beq (withTorn 35 m) (A 35 m)) = true := by decide +kernel
theorem torn_36 : (List.range 22).all (fun m => Nat.beq (withTorn 36 m) (A 36 m)) = true := by decide +kernel
theorem torn_37 : (List.range 22).all (fun m => Nat.beq (withTorn 37 m) (A 37 m)) = true := by decide +kernel
theorem torn_38 : (List.range 23).all (fun m => Nat.beq (withTorn 38 m) (A 38 m)) = true := by decide +kernel
theorem torn_39 : (List.range 23).all (fun m => Nat.beq (withTorn 39 m) (A 39 m)) = true := by decide +kernel
theorem torn_40 : (List.range 24).all (fun m => Nat.beq (withTorn 40 m) (A 40 m)) = true := by decide +kernel
theorem torn_41 : (List.range 24).all (fun m => Nat.beq (withTorn 41 m) (A 41 m)) = true := by decide +kernel
theorem torn_42 : (List.range 25).all (fun m => Nat.beq (withTorn 42 m) (A 42 m)) = true := by decide +kernel
theorem torn_43 : (List.range 25).all (fun m => Nat.beq (withTorn 43 m) (A 43 m)) = true := by decide +kernel
theorem torn_44 : (List.range 26).all (fun m => Nat.beq (withTorn 44 m) (A 44 m)) = true := by decide +kernel
theorem torn_45 : (List.range 26).all (fun m => Nat.beq (withTorn 45 m) (A 45 m)) = true := by decide +kernel
theorem torn_46 : (List.range 27).all (fun m => Nat.beq (withTorn 46 m) (A 46 m)) = true := by decide +kernel
theorem torn_47 : (List.range 27).all (fun m => Nat.beq (withTorn 47 m) (A 47 m)) = true := by decide +kernel
theorem torn_48 : (List.range 28).all (fun m => Nat.beq (withTorn 48 m) (A 48 m)) = true := by decide +kernel
theorem torn_49 : (List.range 28).all (fun m => Nat.beq (withTorn 49 m) (A 49 m)) = true := by decide +kernel
theorem torn_50 : (List.range 29).all (fun m => Nat.beq (withTorn 50 m) (A 50 m)) = true := by decide +kernel
theorem torn_51 : (List.range 29).all (fun m => Nat.beq (withTorn 51 m) (A 51 m)) = true := by decide +kernel
theorem torn_52 : (List.range 30).all (fun m => Nat.beq (withTorn 52 m) (A 52 m)) = true := by decide +kernel
theorem torn_53 : (List.range 30).all (fun m => Nat.beq (withTorn 53 m) (A 53 m)) = true := by decide +kernel
theorem torn_54 : (List.range 31).all (fun m => Nat.beq (withTorn 54 m) (A 54 m)) = true := by decide +kernel
theorem torn_55 : (List.range 31).all (fun m => Nat.beq (withTorn 55 m) (A 55 m)) = true := by decide +kernel
theorem torn_56 : (List.range 32).all (fun m => Nat.beq (withTorn 56 m) (A 56 m)) = true := by decide +kernel
theorem torn_57 : (List.range 32).all (fun m => Nat.beq (withTorn 57 m) (A 57 m)) = true := by decide +kernel
theorem torn_58 : (List.range 33).all (fun m => Nat.beq (withTorn 58 m) (A 58 m)) = true := by decide +kernel
theorem torn_59 : (List.range 33).all (fun m => Nat.beq (withTorn 59 m) (A 59 m)) = true := by decide +kernel
theorem torn_60 : (List.range 34).all (fun m => Nat.beq (withTorn 60 m) (A 60 m)) = true := by decide +kernel
theorem torn_61 : (List.range 34).all (fun m => Nat.beq (withTorn 61 m) (A 61 m)) = true := by decide +kernel
theorem torn_62 : (List.range 35).all (fun m => Nat.beq (withTorn 62 m) (A 62 m)) = true := by decide +kernel
theorem torn_63 : (List.range 35).all (fun m => Nat.beq (withTorn 63 m) (A 63 m)) = true := by decide +kernel
theorem torn_64 : (List.range 36).all (fun m => Nat.beq (withTorn 64 m) (A 64 m)) = true := by decide +kernel
def fac : Nat → Nat
  | 0 => 1
  | k + 1 => fac k * (k + 1)
theorem fact_ok : (List.range 66).all (fun k => Nat.beq (fact k) (fac k)) = true := by decide +kernel
theorem fact_eq {k : Nat} (h : k < 66) : fact k = fac k := Nat.eq_of_beq_eq_true (List.all_eq_true.mp fact_ok k (List.mem_range.mpr h))
/-- C(m, 2), C(m, 3) -/
def c2 (m : Nat) : Nat := m * (m - 1) / 2
def c3 (m : Nat) : Nat := m * (m - 1) * (m - 2) / 6
def below (n k : Nat) (f : Nat → Nat) : Nat := bif Nat.ble k n then f (n - k) else 0
def prev (t : Nat) (f : Nat → Nat) : Nat := match t with
  | 0 => 0
  | t + 1 => f t
theorem rec_ok : (List.range 64).all (fun n => (List.range 40).all fun t => Nat.beq (A (n + 1) t) (A n t + n * (below n 1 (fun k => A k t) + 2 * prev t (fun s => below n 1 fun k => A k s)) + 12 * c2 n * prev t (fun s => below n 2 fun k => A k s) + 42 * c3 n * prev t (fun s => below n 3 fun k => A k s))) = true := by decide +kernel
theorem A_rec {n t : Nat} (hn : n < 64) (ht : t < 40) : A (n + 1) t = A n t + n * (below n 1 (fun k => A k t) + 2 * prev t (fun s => below n 1 fun k => A k s)) + 12 * c2 n * prev t (fun s => below n 2 fun k => A k s) + 42 * c3 n * prev t (fun s => below n 3 fun k => A k s) :=
  Nat.eq_of_beq_eq_true (List.all_eq_true.mp (List.all_eq_true.mp rec_ok n (List.mem_range.mpr hn)) t (List.mem_range.mpr ht))
/-- all repairable images, whatever their torn pieces -/
def tot (n : Nat) : Nat := (rowA n).sum
theorem tot_ok : (List.range 64).all (fun n => Nat.beq (tot (n + 1)) (tot n + 3 * n * below n 1 tot + 6 * n * (n - 1) * below n 2 tot + 7 * n * (n - 1) * (n - 2) * below n 3 tot)) = true := by decide +kernel
theorem tot_rec {n : Nat} (hn : n < 64) : tot (n + 1) = tot n + 3 * n * below n 1 tot + 6 * n * (n - 1) * below n 2 tot + 7 * n * (n - 1) * (n - 2) * below n 3 tot :=
  Nat.eq_of_beq_eq_true (List.all_eq_true.mp tot_ok n (List.mem_range.mpr hn))
theorem A_big {n t : Nat} (hn : n ≤ 64) (ht : n / 2 < t) : A n t = 0 := by
  have h : (List.range 65).all (fun n => Nat.beq (rowA n).length (n / 2 + 1)) = true := by decide +kernel
  have e := Nat.eq_of_beq_eq_true (List.all_eq_true.mp h n (List.mem_range.mpr (by omega)))
  unfold A
  rw [List.getD_eq_getElem?_getD, List.getElem?_eq_none (by omega)]
  rfl
theorem torn_eq : ∀ {n m : Nat}, n ≤ 64 → m < n / 2 + 4 → withTorn n m = A n m := fun {n m} hn hm => by
  have h : ∀ n, n ≤ 64 → (List.range (n / 2 + 4)).all (fun m => Nat.beq (withTorn n m) (A n m)) = true := fun n hn => by
    match n, hn with
    | 0, _ => exact torn_0
    | 1, _ => exact torn_1
    | 2, _ => exact torn_2
    | 3, _ => exact torn_3
    | 4, _ => exact torn_4
    | 5, _ => exact torn_5
    | 6, _ => exact torn_6
    | 7, _ => exact torn_7
    | 8, _ => exact torn_8
    | 9, _ => exact torn_9
    | 10, _ => exact torn_10
    | 11, _ => exact torn_11
    | 12, _ => exact torn_12
    | 13, _ => exact torn_13
    | 14, _ => exact torn_14
    | 15, _ => exact torn_15
    | 16, _ => exact torn_16
    | 17, _ => exact torn_17
    | 18, _ => exact torn_18
    | 19, _ => exact torn_19
    | 20, _ => exact torn_20
    | 21, _ => exact torn_21
    | 22, _ => exact torn_22
    | 23, _ => exact torn_23
    | 24, _ => exact torn_24
    | 25, _ => exact torn_25
    | 26, _ => exact torn_26
    | 27, _ => exact torn_27
    | 28, _ => exact torn_28
    | 29, _ => exact torn_29
    | 30, _ => exact torn_30
    | 31, _ => exact torn_31
    | 32, _ => exact torn_32
    | 33, _ => exact torn_33
    | 34, _ => exact torn_34
    | 35, _ => exact torn_35
    | 36, _ => exact torn_36
    | 37, _ => exact torn_37
    | 38, _ => exact torn_38
    | 39, _ => exact torn_39
    | 40, _ => exact torn_40
    | 41, _ => exact torn_41
    | 42, _ => exact torn_42
    | 43, _ => exact torn_43
    | 44, _ => exact torn_44
    | 45, _ => exact torn_45
    | 46, _ => exact torn_46
    | 47, _ => exact torn_47
    | 48, _ => exact torn_48
    | 49, _ => exact torn_49
    | 50, _ => exact torn_50
    | 51, _ => exact torn_51
    | 52, _ => exact torn_52
    | 53, _ => exact torn_53
    | 54, _ => exact torn_54
    | 55, _ => exact torn_55
    | 56, _ => exact torn_56
    | 57, _ => exact torn_57
    | 58, _ => exact torn_58
    | 59, _ => exact torn_59
    | 60, _ => exact torn_60
    | 61, _ => exact torn_61
    | 62, _ => exact torn_62
    | 63, _ => exact torn_63
    | 64, _ => exact torn_64
    | n + 65, h => exact absurd h (by omega)
  exact Nat.eq_of_beq_eq_true (List.all_eq_true.mp (h n hn) m (List.mem_range.mpr hm))
end K03

namespace Pv
open PySem L2 Evl K03
local macro_rules | `(tactic| walk_at "r1") => `(tactic| first
  | refine ⟨_, rfl, ?_⟩
  | refine ⟨rfl, ?_⟩
  | refine ⟨_, _, rfl, rfl, (show (_ : Prop) from by first | decide | omega | assumption | exact Or.inr ⟨by decide, by decide⟩ | exact Or.inl ⟨by omega, by omega⟩ | exact ⟨by decide, by decide, by decide⟩ | exact ⟨by decide, by decide⟩ | exact wide_div (b := 60) (by omega) (by omega) (by decide) (by decide)), ?_⟩
  | refine ⟨_, _, rfl, rfl, ?_⟩
  | refine ⟨_, _, _, _, rfl, rfl, (show (_ : Prop) from by first | exact SqL.of (by assumption) | exact SqL.of upd_same | assumption | exact upd_same), rfl, ?_⟩
  | refine Or.inl ⟨_, rfl, ?_⟩)
local macro_rules | `(tactic| walk_at "ex") => `(tactic| first | exact Ex.refl _ | assumption | (refine ex_new ?_ (by assumption); walk_at "ex"))
local macro_rules | `(tactic| walk_at "r") => `(tactic| repeat (walk_at "r1"))

section
variable {P : Program} {w : World} {K : PySem.W.Frag} {mg : Str → Option Value} {base : Heap} {A : Ad}
def Rows3 (H : Hp) (r : Addr) (n : Nat) : Prop := ∃ qs : List Addr, H r = some (.lst (qs.map V.ref)) ∧ qs.length = n ∧ ∀ i q, qs[i]? = some q → ListN H q (rowA i)
def eI (s t : Int) : Int := if s < 0 ∨ t < 0 then 0 else (K03.A s.toNat t.toNat : Nat)
def spEn : Sp := fun vs H Q _ => ∃ (r : Addr) (n : Nat) (s t : Int), vs = [.ref r, .int s, .int t] ∧ Rows3 H r n ∧ s < n ∧ n ≤ 65 ∧ Q (.int (eI s t)) H
theorem Rows3.at {H : Hp} {r : Addr} {n : Nat} (h : Rows3 H r n) {i : Nat} (hi : i < n) : ∃ (qs : List Addr) (q : Addr), H r = some (.lst (qs.map V.ref)) ∧ (qs.map V.ref)[i]? = some (.ref q) ∧ ListN H q (rowA i) := by
  obtain ⟨qs, h1, h2, h3⟩ := h
  have hq : qs[i]? = some qs[i] := List.getElem?_eq_getElem (by omega)
  exact ⟨qs, _, h1, by rw [List.getElem?_map, hq]; rfl, h3 i _ hq⟩
theorem Rows3.ex {H H1 : Hp} {r : Addr} {n : Nat} (e : Ex H H1) (h : Rows3 H r n) : Rows3 H1 r n := by
  obtain ⟨qs, h1, h2, h3⟩ := h
  exact ⟨qs, e _ _ h1, h2, fun i q x => (h3 i q x).ex e⟩
theorem rowA_len {n : Nat} (hn : n ≤ 64) : (rowA n).length = n / 2 + 1 := by
  have h : (List.range 65).all (fun n => Nat.beq (rowA n).length (n / 2 + 1)) = true := by decide +kernel
  exact Nat.eq_of_beq_eq_true (List.all_eq_true.mp h n (List.mem_range.mpr (by omega)))
theorem ok_entry (T : Txt K mg A)   : Okd P w K mg base CX0 1 A.entry P_entry spEn := by
  obtain ⟨fd, F⟩ := T.d_entry

  refine ⟨fd, F.ok sc_entry (fun vs H Q E h => ?_) (fun cdv A' outer s H vs Q E hr h => ?_), F.binds fun _ _ _ _ _ _ us hl => match us, hl with | [_, _, _], _ => rfl⟩
  · obtain ⟨r, n, s, t, rfl, _⟩ := h
    rfl
  · obtain ⟨r, n, sz, t, rfl, hR, hs, hn, k⟩ := h
    refine ⟨_, (pss_cons (ps_if (PW.pt (pw_or (pt_cmpR op_lt (pv 1) pe_int (nomark _)) (pw_or (pt_cmpR op_lt (pv 2) pe_int (nomark _)) (pw_or1 (pt_cmpR op_ge (pv 2) (pe_callB call_len_seq (by rfl) T.n_len PySem.boot_len (pa_cons (pe_ix ix_list (pv 0) (pv 1) (fun _ _ => rfl)) pa_nil)) (nomark _)))))) (pss_one (ps_ret pe_int)) pss_nil)
      (pss_one (ps_ret (pe_ix ix_list (pe_ix ix_list (pv 0) (pv 1) (fun _ _ => rfl)) (pv 2) (fun _ _ => rfl))))), ?_⟩
    have e0 : (sz < 0 ∨ t < 0) → eI sz t = 0 := fun h => if_pos h
    refine ⟨_, rfl, _, _, rfl, rfl, _, rfl, ?_⟩
    refine ite_b (fun c => ?_) (fun c => ?_)
    · have c := of_decide_eq_true c
      rw [e0 (.inl c)] at k
      exact k
    · have c := of_decide_eq_false c
      refine ⟨_, rfl, _, _, rfl, rfl, _, rfl, ?_⟩
      refine ite_b (fun c2 => ?_) (fun c2 => ?_)
      · have c2 := of_decide_eq_true c2
        rw [e0 (.inr c2)] at k
        exact k
      · have c2 := of_decide_eq_false c2
        obtain ⟨i, rfl⟩ := Int.eq_ofNat_of_zero_le (show 0 ≤ sz by omega)
        obtain ⟨m, rfl⟩ := Int.eq_ofNat_of_zero_le (show 0 ≤ t by omega)
        have hi : i < n := by omega
        have hlen := rowA_len (n := i) (by omega)
        have ev : eI (i : Int) (m : Int) = (((rowA i).getD m 0 : Nat) : Int) := by
          unfold eI
          rw [if_neg (by omega)]
          rfl
        obtain ⟨qs, q, h1, h2, h3⟩ := hR.at hi
        refine ⟨_, rfl, _, rfl, _, rfl, _, _, _, _, rfl, rfl, SqL.of h1, atI_nat h2, _, _, rfl, Or.inl h3.sz, _, _, rfl, rfl, _, rfl, ?_⟩
        rw [nI_len, hlen]
        refine ite_b (fun c3 => ?_) (fun c3 => ?_)
        · have c3 := of_decide_eq_true c3
          have : (rowA i).getD m 0 = 0 := by
            rw [List.getD_eq_getElem?_getD, List.getElem?_eq_none (by omega)]
            rfl
          rw [ev, this] at k
          exact k
        · have c3 := of_decide_eq_false c3
          refine ⟨_, rfl, _, rfl, _, _, _, _, rfl, rfl, SqL.of h1, atI_nat h2, _, rfl, _, _, _, _, rfl, rfl, h3.sz, atN (by omega), ?_⟩
          rw [ev] at k
          exact k

end

section
variable {P : Program} {w : World} {K : PySem.W.Frag} {mg : Str → Option Value} {base : Heap} {A : Ad}
def spRec : Sp := fun vs H Q _ => ∃ (r : Addr) (n t : Nat), vs = [.ref r, .int ((n + 1 : Nat) : Int), .int (t : Int)] ∧ n < 64 ∧ t < 40 ∧ Rows3 H r (n + 1) ∧ Q (.int (K03.A (n + 1) t : Nat)) H
theorem eI_below {i : Int} {n k t : Nat} (h : i = (n : Int) - k) : eI i (t : Int) = (below n k (fun j => K03.A j t) : Nat) := by
  unfold eI below
  by_cases c : k ≤ n
  · rw [if_neg (by omega), Nat.ble_eq_true_of_le c, show i.toNat = n - k by omega, Int.toNat_natCast]
    rfl
  · rw [if_pos (by omega), show Nat.ble k n = false from by rw [Bool.eq_false_iff]; intro z; exact c (Nat.le_of_ble_eq_true z)]
    rfl
theorem eI_prev {i : Int} {n k t : Nat} (h : i = (n : Int) - k) : eI i ((t : Int) - 1) = (prev t (fun s => below n k (fun j => K03.A j s)) : Nat) := by
  cases t with
  | zero =>
    unfold eI
    rw [if_pos (by omega)]
    rfl
  | succ t =>
    rw [show (((t + 1 : Nat) : Int) - 1) = (t : Int) by omega, eI_below h]
    rfl
theorem A_lt {n t : Nat} (hn : n ≤ 64) : K03.A n t < 2 ^ 400 := by
  have h : (List.range 65).all (fun n => (rowA n).all fun x => Nat.ble (x + 1) (2 ^ 400)) = true := by decide +kernel
  have h1 := List.all_eq_true.mp h n (List.mem_range.mpr (by omega))
  unfold K03.A
  rw [List.getD_eq_getElem?_getD]
  by_cases c : t < (rowA n).length
  · rw [List.getElem?_eq_getElem c]
    exact Nat.le_of_ble_eq_true (List.all_eq_true.mp h1 _ (List.getElem_mem c))
  · rw [List.getElem?_eq_none (by omega)]
    decide
theorem eI_lt {i t : Int} (h : i < 65) : (eI i t).natAbs < 2 ^ 400 := by
  unfold eI
  split
  · decide
  · exact A_lt (by omega)
theorem comb2 {n : Nat} (h : n < 64) : PySem.W.mcComb (n : Int) 2 = (c2 n : Nat) := by
  have h1 : (List.range 64).all (fun n => decide (PySem.W.mcComb ((n : Nat) : Int) 2 = ((c2 n : Nat) : Int))) = true := by decide +kernel
  exact of_decide_eq_true (List.all_eq_true.mp h1 n (List.mem_range.mpr h))
theorem comb3 {n : Nat} (h : n < 64) : PySem.W.mcComb (n : Int) 3 = (c3 n : Nat) := by
  have h1 : (List.range 64).all (fun n => decide (PySem.W.mcComb ((n : Nat) : Int) 3 = ((c3 n : Nat) : Int))) = true := by decide +kernel
  exact of_decide_eq_true (List.all_eq_true.mp h1 n (List.mem_range.mpr h))
theorem c2_lt {n : Nat} (h : n < 64) : ((c2 n : Nat) : Int).natAbs < 2 ^ 30 := by
  have h1 : (List.range 64).all (fun n => Nat.ble (c2 n + 1) (2 ^ 30)) = true := by decide +kernel
  exact Nat.le_of_ble_eq_true (List.all_eq_true.mp h1 n (List.mem_range.mpr h))
theorem c3_lt {n : Nat} (h : n < 64) : ((c3 n : Nat) : Int).natAbs < 2 ^ 30 := by
  have h1 : (List.range 64).all (fun n => Nat.ble (c3 n + 1) (2 ^ 30)) = true := by decide +kernel
  exact Nat.le_of_ble_eq_true (List.all_eq_true.mp h1 n (List.mem_range.mpr h))
theorem mul_lt {i j : Int} {a b : Nat} (ha : i.natAbs < 2 ^ a) (hb : j.natAbs < 2 ^ b) : (i * j).natAbs < 2 ^ (a + b) := wide_lt ha hb
theorem A_recI {n t : Nat} (hn : n < 64) (ht : t < 40) : ((K03.A (n + 1) t : Nat) : Int) = eI n t + n * (eI ((n : Int) - 1) t + 2 * eI ((n : Int) - 1) ((t : Int) - 1)) + 12 * (c2 n : Nat) * eI ((n : Int) - 2) ((t : Int) - 1) + 42 * (c3 n : Nat) * eI ((n : Int) - 3) ((t : Int) - 1) := by
  rw [A_rec hn ht, eI_below (i := (n : Int) - 1) (n := n) (k := 1) (t := t) (by omega), eI_prev (i := (n : Int) - 1) (n := n) (k := 1) (t := t) (by omega), eI_prev (i := (n : Int) - 2) (n := n) (k := 2) (t := t) (by omega), eI_prev (i := (n : Int) - 3) (n := n) (k := 3) (t := t) (by omega), eI_below (i := (n : Int)) (n := n) (k := 0) (t := t) (by omega)]
  simp only [Int.natCast_add, Int.natCast_mul]
  rfl
theorem ok_recurrence (T : Txt K mg A)  (g_entry : Okd P w K mg base CX0 1 A.entry P_entry spEn) : Okd P w K mg base CX0 2 A.recurrence P_recurrence spRec := by
  obtain ⟨fd, F⟩ := T.d_recurrence
  obtain ⟨fd_entry, G_entry, b_entry⟩ := g_entry
  refine ⟨fd, F.ok sc_recurrence (fun vs H Q E h => ?_) (fun cdv A' outer s H vs Q E hr h => ?_), F.binds fun _ _ _ _ _ _ us hl => match us, hl with | [_, _, _], _ => rfl⟩
  · obtain ⟨r, n, t, rfl, _⟩ := h
    rfl
  · obtain ⟨r, n, t, rfl, hn, ht, hR, k⟩ := h
    refine ⟨_, (pss_cons (ps_set (i := 3) sc_recurrence.nd rfl (Or.inl rfl) (pe_call G_entry (hr.mono (by decide)) (by rfl) T.g_entry T.k_entry b_entry .nil pass0 (pa_cons (pv 0) (pa_cons (pe_op op_sub (pv 1) pe_int) (pa_cons (pv 2) pa_nil)))))
      (pss_cons (ps_set (i := 4) sc_recurrence.nd rfl (Or.inl rfl) (pe_op op_add (pe_call G_entry (hr.mono (by decide)) (by rfl) T.g_entry T.k_entry b_entry .nil pass0 (pa_cons (pv 0) (pa_cons (pe_op op_sub (pv 1) pe_int) (pa_cons (pv 2) pa_nil)))) (pe_op op_mulW pe_int (pe_call G_entry (hr.mono (by decide)) (by rfl) T.g_entry T.k_entry b_entry .nil pass0 (pa_cons (pv 0) (pa_cons (pe_op op_sub (pv 1) pe_int) (pa_cons (pe_op op_sub (pv 2) pe_int) pa_nil)))))))
      (pss_cons (ps_set (i := 5) sc_recurrence.nd rfl (Or.inl rfl) (pe_op op_mulW (pe_op op_mulW pe_int (pe_callBfun cr_comb (by rfl) T.g_comb (pa_cons (pe_op op_sub (pv 1) pe_int) (pa_cons pe_int pa_nil)))) (pe_call G_entry (hr.mono (by decide)) (by rfl) T.g_entry T.k_entry b_entry .nil pass0 (pa_cons (pv 0) (pa_cons (pe_op op_sub (pv 1) pe_int) (pa_cons (pe_op op_sub (pv 2) pe_int) pa_nil))))))
      (pss_cons (ps_set (i := 6) sc_recurrence.nd rfl (Or.inl rfl) (pe_op op_mulW (pe_op op_mulW pe_int (pe_callBfun cr_comb (by rfl) T.g_comb (pa_cons (pe_op op_sub (pv 1) pe_int) (pa_cons pe_int pa_nil)))) (pe_call G_entry (hr.mono (by decide)) (by rfl) T.g_entry T.k_entry b_entry .nil pass0 (pa_cons (pv 0) (pa_cons (pe_op op_sub (pv 1) pe_int) (pa_cons (pe_op op_sub (pv 2) pe_int) pa_nil))))))
      (pss_one (ps_ret (pe_op op_add (pe_op op_add (pe_op op_add (pv 3) (pe_op op_mulW (pe_op op_sub (pv 1) pe_int) (pv 4))) (pv 5)) (pv 6)))))))), ?_⟩
    have z1 : (((n + 1 : Nat) : Int) - 1) = (n : Int) := by omega
    have z2 : (((n + 1 : Nat) : Int) - 2) = (n : Int) - 1 := by omega
    have z3 : (((n + 1 : Nat) : Int) - 3) = (n : Int) - 2 := by omega
    have z4 : (((n + 1 : Nat) : Int) - 4) = (n : Int) - 3 := by omega
    have l1 : ∀ t : Int, (eI ((n : Int) - 1) t).natAbs < 2 ^ 400 := fun t => eI_lt (by omega)
    have l2 : ∀ t : Int, (eI ((n : Int) - 2) t).natAbs < 2 ^ 400 := fun t => eI_lt (by omega)
    have l3 : ∀ t : Int, (eI ((n : Int) - 3) t).natAbs < 2 ^ 400 := fun t => eI_lt (by omega)
    refine ⟨_, rfl, _, rfl, _, _, rfl, rfl, _, rfl, r, n + 1, _, _, rfl, hR, (by omega), (by omega), ?_⟩
    rw [z1]
    refine ⟨_, rfl, _, rfl, _, _, rfl, rfl, _, rfl, r, n + 1, _, _, rfl, hR, (by omega), (by omega), _, rfl, _, rfl, _, _, rfl, rfl, _, rfl, _, _, rfl, rfl, r, n + 1, _, _, rfl, hR, (by omega), (by omega), ?_⟩
    rw [z2]
    refine ⟨_, _, rfl, rfl, wide_mul (a := 10) (b := 400) (by decide) (l1 _) (by decide) (by decide) (by decide), _, _, rfl, rfl, ?_⟩
    refine ⟨_, rfl, _, _, rfl, rfl, _, _, rfl, ?_⟩
    rw [z1, comb2 hn]
    refine ⟨by omega, by decide, by omega, _, _, rfl, rfl, wide_mul (a := 10) (b := 30) (by decide) (c2_lt hn) (by decide) (by decide) (by decide), _, rfl, _, rfl, _, _, rfl, rfl, _, rfl, _, _, rfl, rfl, r, n + 1, _, _, rfl, hR, (by omega), (by omega), ?_⟩
    rw [z3]
    refine ⟨_, _, rfl, rfl, wide_mul (a := 40) (b := 400) (mul_lt (a := 10) (b := 30) (by decide) (c2_lt hn)) (l2 _) (by decide) (by decide) (by decide), ?_⟩
    refine ⟨_, rfl, _, _, rfl, rfl, _, _, rfl, ?_⟩
    rw [z1, comb3 hn]
    refine ⟨by omega, by decide, by omega, _, _, rfl, rfl, wide_mul (a := 10) (b := 30) (by decide) (c3_lt hn) (by decide) (by decide) (by decide), _, rfl, _, rfl, _, _, rfl, rfl, _, rfl, _, _, rfl, rfl, r, n + 1, _, _, rfl, hR, (by omega), (by omega), ?_⟩
    rw [z4]
    refine ⟨_, _, rfl, rfl, wide_mul (a := 40) (b := 400) (mul_lt (a := 10) (b := 30) (by decide) (c3_lt hn)) (l3 _) (by decide) (by decide) (by decide), ?_⟩
    refine ⟨_, rfl, _, rfl, _, _, rfl, rfl, _, rfl, ?_⟩
    refine ⟨_, _, rfl, rfl, wide_mul (a := 64) (b := 420) (by show (((n + 1 : Nat) : Int) - 1).natAbs < _; omega) ?_ (by decide) (by decide) (by decide), _, _, rfl, rfl, _, rfl, _, _, rfl, rfl, _, rfl, _, _, rfl, rfl, ?_⟩
    · show (eI ((n : Int) - 1) t + 2 * eI ((n : Int) - 1) ((t : Int) - 1)).natAbs < _
      have a1 := l1 (t : Int)
      have a2 := l1 ((t : Int) - 1)
      have e : (2 : Nat) ^ 420 = 2 ^ 400 * 2 ^ 20 := by rw [← Nat.pow_add]
      generalize eI ((n : Int) - 1) (t : Int) = u at *
      generalize eI ((n : Int) - 1) ((t : Int) - 1) = v at *
      generalize (2 : Nat) ^ 400 = w at *
      omega
    · rw [A_recI hn ht] at k
      show Q (.int (eI n t + (((n + 1 : Nat) : Int) - 1) * (eI ((n : Int) - 1) t + 2 * eI ((n : Int) - 1) ((t : Int) - 1)) + 12 * (c2 n : Nat) * eI ((n : Int) - 2) ((t : Int) - 1) + 42 * (c3 n : Nat) * eI ((n : Int) - 3) ((t : Int) - 1))) H
      rw [z1]
      exact k

end

section
variable {P : Program} {w : World} {K : PySem.W.Frag} {mg : Str → Option Value} {base : Heap} {A : Ad}
theorem takeB {α : Type} {xs : List α} {j : Nat} {b : α} (h : xs[j]? = some b) : xs.take (j + 1) = xs.take j ++ [b] := by
  rw [List.take_add_one, h]
  rfl
def spTR : Sp := fun vs H Q _ => ∃ n : Nat, vs = [.int (n : Int)] ∧ n ≤ 64 ∧ ∀ r H', H r = none → Ex H H' → Rows3 H' r (n + 1) → Q (.ref r) H'
theorem ok_torn_rows (T : Txt K mg A)  (g_recurrence : Okd P w K mg base CX0 2 A.recurrence P_recurrence spRec) : Okd P w K mg base CX0 3 A.torn_rows P_torn_rows spTR := by
  obtain ⟨fd, F⟩ := T.d_torn_rows
  obtain ⟨fd_recurrence, G_recurrence, b_recurrence⟩ := g_recurrence
  refine ⟨fd, F.ok sc_torn_rows (fun vs H Q E h => ?_) (fun cdv A' outer s H vs Q E hr h => ?_), F.binds fun _ _ _ _ _ _ us hl => match us, hl with | [_], _ => rfl⟩
  · obtain ⟨n, rfl, _⟩ := h
    rfl
  · obtain ⟨n, rfl, hn, k⟩ := h
    refine ⟨_, (pss_cons (ps_set (i := 1) sc_torn_rows.nd rfl (Or.inr rfl) (pe_lst (pa_cons (pe_lst (pa_cons pe_int pa_nil)) pa_nil)))
      (pss_cons (ps_for PassesOwn.never rfl (pi_range2 (by rfl) T.n_range (pa_cons pe_int (pa_cons (pe_op op_add (pv 0) pe_int) pa_nil))) (pg_name (i := 2) sc_torn_rows.nd rfl (Or.inr rfl)) (pss_one (ps_expr (pe_bm PySem.F.plainAttrs_list PySem.F.slot_list_append PySem.F.type_list_append mt_append (pv 1) (pa_cons (pe_lc (own := [("torn", 3)]) (tt := tYes) (by rfl) sc_torn_rows.nd (pi_range1 (by rfl) T.n_range (pa_cons (pe_op op_add (pe_op op_fdivW (pv 2) pe_int) pe_int) pa_nil)) (blkOk_by (own := [("torn", 3)]) (N := N_torn_rows) (sc := defScope s_torn_rows) (by decide +kernel)) (fun _ _ _ _ _ => (pg_name (i := 3) sc_torn_rows.nd rfl (Or.inl rfl))) (fun _ _ _ _ _ => pts_nil) (fun _ _ _ _ _ => (pe_call G_recurrence (hr.mono (by decide)) (by rfl) T.g_recurrence T.k_recurrence b_recurrence .nil pass0 (pa_cons (pv 1) (pa_cons (pv 2) (pa_cons (pv 3) pa_nil)))))) pa_nil)))))
      (pss_one (ps_ret (pv 1))))), ?_⟩
    refine ⟨by decide, fun p hp => ⟨(by show 1 ≤ sizeLine; decide), fun r hr0 => ?_⟩⟩
    have hrp : p ≠ r := fun z => by rw [z, upd_same] at hr0; cases hr0
    have R0 : Rows3 (upd (upd H p (.lst [V.int 1])) r (.lst [V.ref p])) r 1 := by
      refine ⟨[p], upd_same, rfl, fun i q x => ?_⟩
      rcases i with _ | i
      · cases x
        show upd (upd H _ _) r _ _ = _
        rw [upd_ne hrp, upd_same]
        rfl
      · cases x
    have hrH : H r = none := by rw [upd_ne (Ne.symm hrp)] at hr0; exact hr0
    have e0 : Ex H (upd (upd H p (.lst [V.int 1])) r (.lst [V.ref p])) := ex_new (Ex.new hp) hr0
    generalize upd (upd H p (.lst [V.int 1])) r (.lst [V.ref p]) = H0 at *
    refine ⟨_, rfl, _, _, rfl, rfl, ?_⟩
    refine ⟨_, _, rfl, ⟨by decide, by decide, by omega, by omega⟩, for_range (lo := 1) (fun i σ G => ∃ v2 v3 : Option V, σ = [some (.int (n : Int)), some (.ref r), v2, v3] ∧ Ex H G ∧ Rows3 G r (i + 1)) ⟨none, none, rfl, e0, R0⟩ ?_ ?_⟩
    · rintro i σ G hi ⟨v2, v3, rfl, e, R1⟩
      have hin : i < n := by omega
      obtain ⟨qs, q1, q2, q3⟩ := id R1
      have hm : ((1 : Int) + (i : Int)) = ((i + 1 : Nat) : Int) := by omega
      refine ⟨_, rfl, Or.inl ⟨rfl, _, SqL.of q1⟩, _, rfl, _, _, rfl, rfl, wide_div (b := 60) (by decide) (by decide) (by decide) (by decide), _, _, rfl, rfl, _, rfl, by omega, by omega, fun D hD => ?_⟩
      have hj : (1 + (i : Int)) / 2 + 1 = (((i + 1) / 2 + 1 : Nat) : Int) := by omega
      rw [hj]
      refine lc_range (lo := 0) (n := (i + 1) / 2 + 1) (fun j H' => Ex G H' ∧ ListN H' D ((rowA (i + 1)).take j)) ⟨Ex.new hD, upd_same⟩ ?_ ?_
      · rintro j H' hj2 ⟨e1, hl⟩
        refine ⟨rfl, _, rfl, _, rfl, _, rfl, r, i, j, by rw [hm, Int.zero_add]; rfl, by omega, by omega, R1.ex e1, ?_⟩
        have hlen := rowA_len (n := i + 1) (by omega)
        refine ⟨_, hl, small1000 (by rw [nI_len, List.length_take]; omega), fun b o hb => ?_, ?_⟩
        · rw [upd_ne (ne_of_none hb hD)]
          exact e1 b o hb
        · show upd H' D _ D = _
          have hat : (rowA (i + 1))[j]? = some (K03.A (i + 1) j) := by
            unfold K03.A
            rw [List.getD_eq_getElem?_getD, List.getElem?_eq_getElem (by omega)]
            rfl
          rw [upd_same, takeB hat]
          rw [nI_app]
      · rintro H' ⟨e1, hl⟩
        have hlen := rowA_len (n := i + 1) (by omega)
        rw [List.take_of_length_le (by omega)] at hl
        have hDr : D ≠ r := fun z => by rw [z, q1] at hD; cases hD
        refine ⟨_, _, _, rfl, rfl, e1 _ _ q1, small1000 (by rw [List.length_map]; omega), ?_⟩
        refine ⟨_, _, rfl, fun b o hb => ?_, ?_⟩
        · rw [upd_ne (ne_of_none hb hrH)]
          exact e1 b o (e b o hb)
        · refine ⟨qs ++ [D], by rw [upd_same, List.map_append]; rfl, by rw [List.length_append, q2]; rfl, fun k q x => ?_⟩
          have lh : ∀ q l, ListN H' q l → q ≠ r → ListN (upd H' r (.lst (qs.map V.ref ++ [V.ref D]))) q l := fun q l h hne => by
            show upd _ _ _ _ = _
            rw [upd_ne hne]
            exact h
          by_cases c : k < qs.length
          · rw [List.getElem?_append_left c] at x
            refine lh q _ ((q3 k q x).ex e1) fun z => ?_
            have := q3 k q x
            rw [z] at this
            have t2 : some (HO.lst (nI (rowA k))) = some (HO.lst (qs.map V.ref)) := this.symm.trans q1
            have t2 := HO.lst.inj (Option.some.inj t2)
            have hl0 := rowA_len (n := k) (by omega)
            have t3 := congrArg (fun l : List V => l[0]?) t2
            rw [ixN_ (xs := rowA k) (j := 0) (by omega), List.getElem?_map] at t3
            cases h0 : qs[0]? with
            | none => rw [h0] at t3; cases t3
            | some z => rw [h0] at t3; cases t3
          · rw [List.getElem?_append_right (by omega)] at x
            have hk : k = i + 1 := by
              have := (List.getElem?_eq_some_iff.mp x).1
              simp at this
              omega
            subst hk
            rw [q2, Nat.sub_self] at x
            cases x
            exact lh D _ hl hDr
    · rintro σ G ⟨v2, v3, rfl, e, R1⟩
      rw [show ((n : Int) + 1 - 1).toNat + 1 = n + 1 by omega] at R1
      exact ⟨_, rfl, k r G hrH e R1⟩

end

section
variable {P : Program} {w : World} {K : PySem.W.Frag} {mg : Str → Option Value} {base : Heap} {A : Ad}
theorem sum_nat : ∀ xs : List Nat, (xs.map fun x : Nat => (x : Int)).sum = ((xs.sum : Nat) : Int)
  | [] => rfl
  | x :: xs => by
    rw [List.map_cons, List.sum_cons, List.sum_cons, sum_nat xs, Int.natCast_add]
/-- what count_images comes to -/
def cnt3 (n : Nat) : V → Option Int
  | .non => some (tot n : Nat)
  | .int m => some (if m < 0 then 0 else (K03.A n m.toNat : Nat))
  | _ => none
def spCI3 : Sp := fun vs H Q _ => ∃ (n : Nat) (t : V) (r : Int), vs = [.int (n : Int), t] ∧ n ≤ 64 ∧ cnt3 n t = some r ∧ ∀ H', Ex H H' → Q (.int r) H'
def spCS3 : Sp := fun vs H Q _ => ∃ n : Nat, vs = [.int (n : Int)] ∧ n ≤ 64 ∧ ∀ H', Ex H H' → Q (.int (K03.A n 0 : Nat)) H'
theorem ok_count_images (T : Txt K mg A)  (g_torn_rows : Okd P w K mg base CX0 3 A.torn_rows P_torn_rows spTR) (g_entry : Okd P w K mg base CX0 1 A.entry P_entry spEn) : OkdD P w K mg base CX0 4 A.count_images ["size", "torn"] spCI3 := by
  obtain ⟨fd, F⟩ := T.d_count_images
  obtain ⟨fd_torn_rows, G_torn_rows, b_torn_rows⟩ := g_torn_rows
  obtain ⟨fd_entry, G_entry, b_entry⟩ := g_entry
  refine ⟨fd, F.ok sc_count_images (fun vs H Q E h => ?_) (fun cdv A' outer s H vs Q E hr h => ?_), two_ways F⟩
  · obtain ⟨n, t, z, rfl, _⟩ := h
    rfl
  · obtain ⟨n, t, z, rfl, hn, h, k⟩ := h
    refine ⟨_, (pss_cons (ps_set (i := 2) sc_count_images.nd rfl (Or.inr rfl) (pe_call G_torn_rows (hr.mono (by decide)) (by rfl) T.g_torn_rows T.k_torn_rows b_torn_rows .nil pass0 (pa_cons (pv 0) pa_nil)))
      (pss_cons (ps_if (pt_cmpR op_isN (pv 1) pe_non (nomark _)) (pss_one (ps_ret (pe_callB (cr_sum (by rfl)) (by rfl) T.n_sum (by decide +kernel) (pa_cons (pe_lc (own := [("many", 3)]) (tt := tYes) (by rfl) sc_count_images.nd (pi_range1 (by rfl) T.n_range (pa_cons (pe_op op_add (pe_op op_fdivW (pv 0) pe_int) pe_int) pa_nil)) (blkOk_by (own := [("many", 3)]) (N := N_count_images) (sc := defScope s_count_images) (by decide +kernel)) (fun _ _ _ _ _ => (pg_name (i := 3) sc_count_images.nd rfl (Or.inl rfl))) (fun _ _ _ _ _ => pts_nil) (fun _ _ _ _ _ => (pe_call G_entry (hr.mono (by decide)) (by rfl) T.g_entry T.k_entry b_entry .nil pass0 (pa_cons (pv 2) (pa_cons (pv 0) (pa_cons (pv 3) pa_nil)))))) pa_nil)))) pss_nil)
      (pss_one (ps_ret (pe_call G_entry (hr.mono (by decide)) (by rfl) T.g_entry T.k_entry b_entry .nil pass0 (pa_cons (pv 2) (pa_cons (pv 0) (pa_cons (pv 1) pa_nil)))))))), ?_⟩
    refine ⟨_, rfl, n, rfl, hn, fun r H1 hr0 e1 hR => ?_⟩
    obtain ⟨qs, q, h1, h2, h3⟩ := hR.at (show n < n + 1 by omega)
    cases t with
    | non =>
      have h := Option.some.inj h
      subst h
      refine ⟨_, rfl, rfl, _, rfl, ?_⟩
      refine iteT ?_
      refine ⟨_, rfl, _, _, rfl, rfl, wide_div (b := 60) (by decide) (by decide) (by decide) (by decide), _, _, rfl, rfl, _, rfl, by omega, by omega, fun D hD => ?_⟩
      have hj : (n : Int) / 2 + 1 = ((n / 2 + 1 : Nat) : Int) := by omega
      rw [hj]
      have hlen := rowA_len (n := n) hn
      refine lc_range (lo := 0) (n := n / 2 + 1) (fun j G => Ex H1 G ∧ ListN G D ((rowA n).take j)) ⟨Ex.new hD, upd_same⟩ ?_ ?_
      · rintro j G hj2 ⟨e2, hl⟩
        refine ⟨rfl, _, rfl, _, rfl, _, rfl, r, n + 1, _, _, rfl, hR.ex e2, by omega, by omega, ?_⟩
        have e : eI (n : Int) (0 + (j : Int)) = ((K03.A n j : Nat) : Int) := by
          rw [Int.zero_add]
          unfold eI
          rw [if_neg (by omega)]
          rfl
        rw [e]
        refine ⟨_, hl, small1000 (by rw [nI_len, List.length_take]; omega), fun b o hb => ?_, ?_⟩
        · rw [upd_ne (ne_of_none hb hD)]
          exact e2 b o hb
        · show upd G D _ D = _
          have hat : (rowA n)[j]? = some (K03.A n j) := by
            unfold K03.A
            rw [List.getD_eq_getElem?_getD, List.getElem?_eq_getElem (by omega)]
            rfl
          rw [upd_same, takeB hat, nI_app]
      · rintro G ⟨e2, hl⟩
        rw [List.take_of_length_le (by omega)] at hl
        have h3' : G D = some (.lst (((rowA n).map fun x : Nat => (x : Int)).map V.int)) := by
          rw [List.map_map]
          exact hl
        refine ⟨D, _, rfl, SqL.of h3', ?_⟩
        rw [sum_nat]
        exact k G (e1.trans e2)
    | int m =>
      have h := Option.some.inj h
      subst h
      refine ⟨_, rfl, rfl, _, rfl, ?_⟩
      refine iteF ?_
      refine ⟨_, rfl, _, rfl, _, rfl, r, n + 1, _, _, rfl, hR, by omega, by omega, ?_⟩
      have e : eI (n : Int) m = (if m < 0 then 0 else ((K03.A n m.toNat : Nat) : Int)) := by
        unfold eI
        by_cases c : m < 0
        · rw [if_pos (.inr c), if_pos c]
        · rw [if_neg (by omega), if_neg c]
          rfl
      rw [e]
      exact k H1 e1
    | _ => cases h

theorem ok_count_states (T : Txt K mg A) (g_count_images : OkdD P w K mg base CX0 4 A.count_images ["size", "torn"] spCI3)   : Okd P w K mg base CX0 5 A.count_states P_count_states spCS3 := by
  obtain ⟨fd, F⟩ := T.d_count_states

  obtain ⟨fd_count_images, G_count_images, ⟨ds_count_images, v_count_images, b_count_images⟩, kb_count_images⟩ := g_count_images
  refine ⟨fd, F.ok sc_count_states (fun vs H Q E h => ?_) (fun cdv A' outer s H vs Q E hr h => ?_), F.binds fun _ _ _ _ _ _ us hl => match us, hl with | [_], _ => rfl⟩
  · obtain ⟨n, rfl, _⟩ := h
    rfl
  · obtain ⟨n, rfl, hn, k⟩ := h
    refine ⟨_, (pss_one (ps_ret (pe_callN G_count_images (hr.mono (by decide)) (by rfl) T.g_count_images T.k_count_images kb_count_images pass0 (pa_cons (pv 0) pa_nil) (pk_cons pe_int pk_nil)))), ?_⟩
    refine ⟨_, rfl, rfl, rfl, n, .int 0, _, rfl, hn, rfl, fun H1 e1 => ?_⟩
    exact k H1 e1

end

section
variable {P : Program} {w : World} {K : PySem.W.Frag} {mg : Str → Option Value} {base : Heap} {A : Ad}
theorem ok_law_bag (T : Txt K mg A)   : Okd P w K mg base CX0 1 A.law_bag P_law_bag (spBag K) := by
  obtain ⟨fd, F⟩ := T.d_law_bag

  refine ⟨fd, F.ok sc_law_bag (fun vs H Q E h => ?_) (fun cdv A' outer s H vs Q E hr h => ?_), F.binds fun _ _ _ _ _ _ us hl => match us, hl with | [_], _ => rfl⟩
  · obtain ⟨a, ns, rfl, _⟩ := h
    rfl
  · obtain ⟨a, ns, rfl, hS, k⟩ := h
    refine ⟨_, (pss_cons (ps_set (i := 1) sc_law_bag.nd rfl (Or.inl rfl) pe_int)
      (pss_cons (ps_set (i := 2) sc_law_bag.nd rfl (Or.inl rfl) pe_int)
      (pss_cons (ps_set (i := 3) sc_law_bag.nd rfl (Or.inl rfl) pe_int)
      (pss_cons (ps_for PassesOwn.never rfl (pi_list (pv 0)) (pg_name (i := 4) sc_law_bag.nd rfl (Or.inl rfl)) (pss_cons (ps_if (PW.pt (pw_and (pt_cmpR op_eq (pv 1) pe_int (nomark _)) (pw_and1 (pt_cmpR op_ge (pv 4) (pe_op op_pow pe_int pe_int) (nomark _))))) (pss_one (ps_set (i := 1) sc_law_bag.nd rfl (Or.inl rfl) (pv 4))) pss_nil)
      (pss_cons (ps_set (i := 2) sc_law_bag.nd rfl (Or.inl rfl) (pe_op op_mod (pe_callTy call_int1 (by rfl) T.n_int (by decide +kernel) (pa_cons (pe_op op_add (pe_op op_add (pe_op op_mul (pv 2) pe_int) (pe_op op_mod (pe_callTy call_int1 (by rfl) T.n_int (by decide +kernel) (pa_cons (pv 4) pa_nil)) pe_int)) pe_int) pa_nil)) pe_int))
      (pss_one (ps_set (i := 3) sc_law_bag.nd rfl (Or.inl rfl) (pe_op op_mod (pe_callTy call_int1 (by rfl) T.n_int (by decide +kernel) (pa_cons (pe_op op_add (pe_op op_add (pe_op op_mul (pv 3) pe_int) (pe_op op_mod (pe_callTy call_int1 (by rfl) T.n_int (by decide +kernel) (pa_cons (pv 4) pa_nil)) pe_int)) pe_int) pa_nil)) pe_int))))))
      (pss_one (ps_ret (pe_lst (pa_cons (pv 1) (pa_cons (pv 2) (pa_cons (pv 3) pa_nil)))))))))), ?_⟩
    walk_at "r"
    refine ⟨⟨_, hS⟩, for_list (K := K) (a := a) (xs := ns.map V.int) (fun i σ H' => H' = H ∧ ∃ (g f s : Int) (v : Option V), BagOk g f s ∧ σ = [some (.ref a), some (.int g), some (.int f), some (.int s), v]) ⟨rfl, 0, 5, 13, none, ⟨by decide, by decide, by decide, by decide, by decide⟩, rfl⟩ (fun i σ H' _ ⟨e, _⟩ => e ▸ hS) ?_ ?_⟩
    · rintro i y σ H' hi ⟨rfl, g, f, s', v, B, rfl⟩
      obtain ⟨z, hz, rfl⟩ := int_at hi
      have fin : ∀ g' : Int, 0 ≤ g' → BagOk g' ((f * 48271 + z % 1000003 + 1) % 2147483647) ((s' * 69621 + z % 998244353 + 3) % 2147483629) := fun g' h => ⟨h, by omega, by omega, by omega, by omega⟩
      walk_at "r"
      refine ite_b (fun c => ?_) (fun c => ?_)
      · walk_at "r"
        refine ite_b (fun c2 => ?_) (fun c2 => ?_)
        all_goals
          walk_at "r"
        · exact ⟨_, _, _, _, fin _ (by have q := of_decide_eq_true c2; have e : (10 : Int) ^ Int.toNat 18 = 1000000000000000000 := (by decide); omega), rfl⟩
        · exact ⟨_, _, _, _, fin _ B.g0, rfl⟩
      · refine iteF ?_
        walk_at "r"
        exact ⟨_, _, _, _, fin _ B.g0, rfl⟩
    · rintro σ H' ⟨rfl, g, f, s', v, B, rfl⟩
      walk_at "r"
      exact ⟨by show 3 ≤ sizeLine; decide, fun p hp => k p _ _ _ hp B⟩

end

section
variable {P : Program} {w : World} {K : PySem.W.Frag} {mg : Str → Option Value} {base : Heap} {A : Ad}
theorem ok_law_take (T : Txt K mg A)   : Okd P w K mg base CX0 1 A.law_take P_law_take spTake := by
  obtain ⟨fd, F⟩ := T.d_law_take

  refine ⟨fd, F.ok sc_law_take (fun vs H Q E h => ?_) (fun cdv A' outer s H vs Q E hr h => ?_), F.binds fun _ _ _ _ _ _ us hl => match us, hl with | [_, _], _ => rfl⟩
  · obtain ⟨b, n, rfl, _⟩ := h
    rfl
  · obtain ⟨b, n, rfl, hn, hn2, B, k⟩ := h
    refine ⟨_, (pss_cons (ps_if (pt_cmpR op_gt (pe_ix ix_list (pv 0) pe_int (fun _ _ => rfl)) pe_int (nomark _)) (pss_cons (ps_set (i := 2) sc_law_take.nd rfl (Or.inl rfl) (pe_op op_mod (pe_callTy call_int1 (by rfl) T.n_int (by decide +kernel) (pa_cons (pe_ix ix_list (pv 0) pe_int (fun _ _ => rfl)) pa_nil)) (pv 1)))
      (pss_cons (ps_asg (pe_op op_fdivW (pe_ix ix_list (pv 0) pe_int (fun _ _ => rfl)) (pv 1)) (pg_sub (pv 0) pe_int set_list))
      (pss_one (ps_ret (pv 2))))) pss_nil)
      (pss_cons (ps_asg (pe_op op_mod (pe_callTy call_int1 (by rfl) T.n_int (by decide +kernel) (pa_cons (pe_op op_add (pe_op op_mul (pe_ix ix_list (pv 0) pe_int (fun _ _ => rfl)) pe_int) pe_int) pa_nil)) pe_int) (pg_sub (pv 0) pe_int set_list))
      (pss_cons (ps_asg (pe_op op_mod (pe_callTy call_int1 (by rfl) T.n_int (by decide +kernel) (pa_cons (pe_op op_add (pe_op op_mul (pe_ix ix_list (pv 0) pe_int (fun _ _ => rfl)) pe_int) (pe_ix ix_list (pv 0) pe_int (fun _ _ => rfl))) pa_nil)) pe_int) (pg_sub (pv 0) pe_int set_list))
      (pss_one (ps_ret (pe_op op_mod (pe_callTy call_int1 (by rfl) T.n_int (by decide +kernel) (pa_cons (pe_op op_fdivW (pe_ix ix_list (pv 0) pe_int (fun _ _ => rfl)) pe_int) pa_nil)) (pv 1))))))), ?_⟩
    obtain ⟨g, f, s', hb, B⟩ := B
    have hbs : (bagL g f s').length = 3 := rfl
    walk_at "r"
    refine ite_b (fun c => ?_) (fun c => ?_)
    · walk_at "r"
      have c' := of_decide_eq_true c
      exact k _ _ (Int.emod_nonneg _ (by omega)) (Int.emod_lt_of_pos _ hn) ⟨_, _, _, upd_same, Int.ediv_nonneg B.g0 (by omega), B.f0, B.f1, B.s0, B.s1⟩ (Mut.upd (Mut.refl _ _))
    · walk_at "r"
      exact k _ _ (Int.emod_nonneg _ (by omega)) (Int.emod_lt_of_pos _ hn) ⟨_, _, _, upd_same, B.g0, by omega, by omega, by omega, by omega⟩ (Mut.upd (Mut.upd (Mut.refl _ _)))

end

section
variable {P : Program} {w : World} {K : PySem.W.Frag} {mg : Str → Option Value} {base : Heap} {A : Ad}
def spIs : Sp := fun vs H Q _ => ∃ i : Int, vs = [.int i, .int i] ∧ Q (.bl true) H
theorem ok_law_is (T : Txt K mg A)   : Okd P w K mg base CX0 1 A.law_is P_law_is spIs := by
  obtain ⟨fd, F⟩ := T.d_law_is

  refine ⟨fd, F.ok sc_law_is (fun vs H Q E h => ?_) (fun cdv A' outer s H vs Q E hr h => ?_), F.binds fun _ _ _ _ _ _ us hl => match us, hl with | [_, _], _ => rfl⟩
  · obtain ⟨i, rfl, _⟩ := h
    rfl
  · obtain ⟨i, rfl, k⟩ := h
    refine ⟨_, (pss_one (ps_ret (pe_and (pe_callB call_isi (by rfl) T.n_isinstance (by decide +kernel) (pa_cons (pv 0) (pa_cons (pe_bltn (v := .ty "int") (u := .type "int") (by rfl) T.n_int (by decide +kernel) rfl) pa_nil))) (pe_and (pe_not (pe_callB call_isi (by rfl) T.n_isinstance (by decide +kernel) (pa_cons (pv 0) (pa_cons (pe_bltn (v := .ty "bool") (u := .type "bool") (by rfl) T.n_bool (by decide +kernel) rfl) pa_nil)))) (pe_one (pe_cmpR op_eq (pv 0) (pv 1) (nomark _))))))), ?_⟩
    refine ⟨_, rfl, _, _, _, _, true, rfl, ClsV.ty "int", TyX.base (TyOf.int _), kit_ty (by decide +kernel), true, rfl, ?_⟩
    rw [if_pos rfl]
    refine ⟨_, rfl, _, _, _, _, false, rfl, ClsV.ty "bool", TyX.base (TyOf.int _), kit_ty (by decide +kernel), false, rfl, true, rfl, ?_⟩
    rw [if_pos rfl]
    refine ⟨_, rfl, _, rfl, rfl, ?_⟩
    rw [decide_eq_true rfl]
    exact k

end

section
variable {P : Program} {w : World} {K : PySem.W.Frag} {mg : Str → Option Value} {base : Heap} {A : Ad}
def facs (n : Nat) : List Nat := (List.range (n + 1)).map fac
theorem facs_len {n : Nat} : (facs n).length = n + 1 := by unfold facs; rw [List.length_map, List.length_range]
theorem facs_at {n k : Nat} (h : k ≤ n) : (facs n).getD k 0 = fac k := by
  unfold facs
  rw [List.getD_eq_getElem?_getD, List.getElem?_map, List.getElem?_range (by omega)]
  rfl
theorem facs_succ {n : Nat} : facs (n + 1) = facs n ++ [fac (n + 1)] := by
  unfold facs
  rw [List.range_succ, List.map_append]
  rfl
theorem fac_lt {k : Nat} (h : k < 66) : fac k < 2 ^ 304 := by
  have h1 : (List.range 66).all (fun k => Nat.ble (fac k + 1) (2 ^ 304)) = true := by decide +kernel
  exact Nat.le_of_ble_eq_true (List.all_eq_true.mp h1 k (List.mem_range.mpr h))
def spFac : Sp := fun vs H Q _ => ∃ n : Nat, vs = [.int (n : Int)] ∧ n ≤ 65 ∧ ∀ p H', H p = none → Ex H H' → ListN H' p (facs n) → Q (.ref p) H'
theorem ok_law_factorials (T : Txt K mg A)   : Okd P w K mg base CX0 1 A.law_factorials P_law_factorials spFac := by
  obtain ⟨fd, F⟩ := T.d_law_factorials

  refine ⟨fd, F.ok sc_law_factorials (fun vs H Q E h => ?_) (fun cdv A' outer s H vs Q E hr h => ?_), F.binds fun _ _ _ _ _ _ us hl => match us, hl with | [_], _ => rfl⟩
  · obtain ⟨n, rfl, _⟩ := h
    rfl
  · obtain ⟨n, rfl, hn, k⟩ := h
    refine ⟨_, (pss_cons (ps_set (i := 1) sc_law_factorials.nd rfl (Or.inl rfl) (pe_lst (pa_cons pe_int pa_nil)))
      (pss_cons (ps_for PassesOwn.never rfl (pi_range1 (by rfl) T.n_range (pa_cons (pv 0) pa_nil)) (pg_name (i := 2) sc_law_factorials.nd rfl (Or.inl rfl)) (pss_one (ps_expr (pe_bm PySem.F.plainAttrs_list PySem.F.slot_list_append PySem.F.type_list_append mt_append (pv 1) (pa_cons (pe_op op_mulW (pe_ix ix_list (pv 1) (pv 2) (fun _ _ => rfl)) (pe_op op_add (pv 2) pe_int)) pa_nil)))))
      (pss_one (ps_ret (pv 1))))), ?_⟩
    refine ⟨by decide, fun r hr0 => ?_⟩
    refine ⟨_, rfl, _, rfl, by omega, by omega, for_range (lo := 0) (n := n) (fun i σ H' => ∃ v2, σ = [some (.int (n : Int)), some (.ref r), v2] ∧ Ex H H' ∧ ListN H' r (facs i)) ⟨none, rfl, Ex.new hr0, upd_same⟩ ?_ ?_⟩
    · rintro i σ H' hi ⟨v2, rfl, e, hl⟩
      have k0 : (0 : Int) + (i : Int) = ((i : Nat) : Int) := by omega
      have hlen : (facs i).length = i + 1 := facs_len
      have hf := fac_lt (k := i) (by omega)
      refine ⟨_, rfl, Or.inl ⟨rfl, _, hl.sz⟩, _, rfl, _, rfl, _, _, _, _, rfl, rfl, hl.sz, at_of k0 (ixN_ (by omega)), _, rfl, _, _, rfl, rfl, _, _, rfl, rfl, wide_mul (a := 304) (b := 60) (by rw [facs_at (Nat.le_refl i)]; omega) (by omega) (by decide) (by decide) (by decide), _, _, _, rfl, rfl, hl, small1000 (by rw [nI_len]; omega), ?_⟩
      have hm : ((((facs i).getD i 0 : Nat) : Int) * (0 + (i : Int) + 1)) = ((fac (i + 1) : Nat) : Int) := by
        rw [facs_at (Nat.le_refl i), k0]
        show _ = ((fac i * (i + 1) : Nat) : Int)
        rw [Int.natCast_mul]
        rfl
      refine ⟨_, rfl, fun b o hb => ?_, ?_⟩
      · rw [upd_ne (ne_of_none hb hr0)]
        exact e b o hb
      · show upd H' r _ r = _
        rw [upd_same, facs_succ, nI_app]
        exact congrArg (fun z => some (HO.lst (nI (facs i) ++ [V.int z]))) hm
    · rintro σ H' ⟨v2, rfl, e, hl⟩
      exact ⟨_, rfl, k r H' hr0 e hl⟩

end

section
variable {P : Program} {w : World} {K : PySem.W.Frag} {mg : Str → Option Value} {base : Heap} {A : Ad}
def pows (b n : Nat) : List Nat := (List.range (n + 1)).map fun k => b ^ k
theorem pows_len {b n : Nat} : (pows b n).length = n + 1 := by unfold pows; rw [List.length_map, List.length_range]
theorem pows_at {b n k : Nat} (h : k ≤ n) : (pows b n).getD k 0 = b ^ k := by
  unfold pows
  rw [List.getD_eq_getElem?_getD, List.getElem?_map, List.getElem?_range (by omega)]
  rfl
theorem pows_succ {b n : Nat} : pows b (n + 1) = pows b n ++ [b ^ (n + 1)] := by
  unfold pows
  rw [List.range_succ, List.map_append]
  rfl
theorem pow_lt64 {b k : Nat} (hb : b < 64) (h : k ≤ 64) : b ^ k < 2 ^ 400 := by
  have h1 : b ^ k ≤ 63 ^ k := Nat.pow_le_pow_left (by omega) k
  have h2 : 63 ^ k ≤ 63 ^ 64 := Nat.pow_le_pow_right (by decide) h
  have h3 : 63 ^ 64 < 2 ^ 400 := by decide +kernel
  omega
def spPow : Sp := fun vs H Q _ => ∃ b n : Nat, vs = [.int (b : Int), .int (n : Int)] ∧ b < 64 ∧ n ≤ 64 ∧ ∀ p H', H p = none → Ex H H' → ListN H' p (pows b n) → Q (.ref p) H'
theorem ok_law_powers (T : Txt K mg A)   : Okd P w K mg base CX0 1 A.law_powers P_law_powers spPow := by
  obtain ⟨fd, F⟩ := T.d_law_powers

  refine ⟨fd, F.ok sc_law_powers (fun vs H Q E h => ?_) (fun cdv A' outer s H vs Q E hr h => ?_), F.binds fun _ _ _ _ _ _ us hl => match us, hl with | [_, _], _ => rfl⟩
  · obtain ⟨b, n, rfl, _⟩ := h
    rfl
  · obtain ⟨b, n, rfl, hb, hn, k⟩ := h
    refine ⟨_, (pss_cons (ps_set (i := 2) sc_law_powers.nd rfl (Or.inl rfl) (pe_lst (pa_cons pe_int pa_nil)))
      (pss_cons (ps_for PassesOwn.never rfl (pi_range1 (by rfl) T.n_range (pa_cons (pv 1) pa_nil)) (pg_name (i := 3) sc_law_powers.nd rfl (Or.inl rfl)) (pss_one (ps_expr (pe_bm PySem.F.plainAttrs_list PySem.F.slot_list_append PySem.F.type_list_append mt_append (pv 2) (pa_cons (pe_op op_mulW (pe_ix ix_list (pv 2) (pv 3) (fun _ _ => rfl)) (pv 0)) pa_nil)))))
      (pss_one (ps_ret (pv 2))))), ?_⟩
    refine ⟨by decide, fun r hr0 => ?_⟩
    refine ⟨_, rfl, _, rfl, by omega, by omega, for_range (lo := 0) (n := n) (fun i σ H' => ∃ v3, σ = [some (.int (b : Int)), some (.int (n : Int)), some (.ref r), v3] ∧ Ex H H' ∧ ListN H' r (pows b i)) ⟨none, rfl, Ex.new hr0, upd_same⟩ ?_ ?_⟩
    · rintro i σ H' hi ⟨v2, rfl, e, hl⟩
      have k0 : (0 : Int) + (i : Int) = ((i : Nat) : Int) := by omega
      have hlen : (pows b i).length = i + 1 := pows_len
      have hf := pow_lt64 hb (k := i) (by omega)
      refine ⟨_, rfl, Or.inl ⟨rfl, _, hl.sz⟩, _, rfl, _, rfl, _, _, _, _, rfl, rfl, hl.sz, at_of k0 (ixN_ (by omega)), _, rfl, _, _, rfl, rfl, wide_mul (a := 400) (b := 60) (by rw [pows_at (Nat.le_refl i)]; omega) (by omega) (by decide) (by decide) (by decide), _, _, _, rfl, rfl, hl, small1000 (by rw [nI_len]; omega), ?_⟩
      have hm : ((((pows b i).getD i 0 : Nat) : Int) * (b : Int)) = ((b ^ (i + 1) : Nat) : Int) := by
        rw [pows_at (Nat.le_refl i), Nat.pow_succ, Int.natCast_mul]
      refine ⟨_, rfl, fun b o hb => ?_, ?_⟩
      · rw [upd_ne (ne_of_none hb hr0)]
        exact e b o hb
      · show upd H' r _ r = _
        rw [upd_same, pows_succ, nI_app]
        exact congrArg (fun z => some (HO.lst (nI (pows b i) ++ [V.int z]))) hm
    · rintro σ H' ⟨v2, rfl, e, hl⟩
      exact ⟨_, rfl, k r H' hr0 e hl⟩

end

section
variable {P : Program} {w : World} {K : PySem.W.Frag} {mg : Str → Option Value} {base : Heap} {A : Ad}
theorem fac_pos : ∀ k, 0 < fac k
  | 0 => by decide
  | k + 1 => Nat.mul_pos (fac_pos k) (Nat.succ_pos k)
theorem facI {i : Int} {k N : Nat} (e : i = (k : Int)) (h : k ≤ N) : atI (nI (facs N)) i = some (V.int (fac k : Nat)) := by
  have := at_of e (ixN_ (xs := facs N) (j := k) (by rw [facs_len]; omega))
  rw [facs_at h] at this
  exact this
theorem powI {i : Int} {b k N : Nat} (e : i = (k : Int)) (h : k ≤ N) : atI (nI (pows b N)) i = some (V.int ((b ^ k : Nat) : Int)) := by
  have := at_of e (ixN_ (xs := pows b N) (j := k) (by rw [pows_len]; omega))
  rw [pows_at h] at this
  exact this
theorem fz {k : Nat} (h : k < 66) : ((fac k : Nat) : Int).natAbs < 2 ^ 304 := fac_lt h
theorem pz {b k : Nat} (hb : b < 64) (h : k ≤ 64) : ((b ^ k : Nat) : Int).natAbs < 2 ^ 400 := pow_lt64 hb h
def spWT : Sp := fun vs H Q _ => ∃ n m : Nat, vs = [.int (n : Int), .int (m : Int)] ∧ n ≤ 64 ∧ m ≤ 64 ∧ ∀ H', Ex H H' → Q (.int (withTorn n m : Nat)) H'
theorem ok_law_with_torn (T : Txt K mg A)  (g_law_factorials : Okd P w K mg base CX0 1 A.law_factorials P_law_factorials spFac) (g_law_powers : Okd P w K mg base CX0 1 A.law_powers P_law_powers spPow) : Okd P w K mg base CX0 2 A.law_with_torn P_law_with_torn spWT := by
  obtain ⟨fd, F⟩ := T.d_law_with_torn
  obtain ⟨fd_law_factorials, G_law_factorials, b_law_factorials⟩ := g_law_factorials
  obtain ⟨fd_law_powers, G_law_powers, b_law_powers⟩ := g_law_powers
  refine ⟨fd, F.ok sc_law_with_torn (fun vs H Q E h => ?_) (fun cdv A' outer s H vs Q E hr h => ?_), F.binds fun _ _ _ _ _ _ us hl => match us, hl with | [_, _], _ => rfl⟩
  · obtain ⟨n, m, rfl, _⟩ := h
    rfl
  · obtain ⟨n, m, rfl, hn, hm, k⟩ := h
    refine ⟨_, (pss_cons (ps_set (i := 2) sc_law_with_torn.nd rfl (Or.inl rfl) (pe_call G_law_factorials (hr.mono (by decide)) (by rfl) T.g_law_factorials T.k_law_factorials b_law_factorials .nil pass0 (pa_cons (pe_op op_add (pv 0) pe_int) pa_nil)))
      (pss_cons (ps_set (i := 3) sc_law_with_torn.nd rfl (Or.inl rfl) (pe_call G_law_powers (hr.mono (by decide)) (by rfl) T.g_law_powers T.k_law_powers b_law_powers .nil pass0 (pa_cons pe_int (pa_cons (pv 0) pa_nil))))
      (pss_cons (ps_set (i := 4) sc_law_with_torn.nd rfl (Or.inl rfl) (pe_call G_law_powers (hr.mono (by decide)) (by rfl) T.g_law_powers T.k_law_powers b_law_powers .nil pass0 (pa_cons pe_int (pa_cons (pv 0) pa_nil))))
      (pss_cons (ps_set (i := 5) sc_law_with_torn.nd rfl (Or.inl rfl) (pe_call G_law_powers (hr.mono (by decide)) (by rfl) T.g_law_powers T.k_law_powers b_law_powers .nil pass0 (pa_cons pe_int (pa_cons (pv 0) pa_nil))))
      (pss_cons (ps_set (i := 6) sc_law_with_torn.nd rfl (Or.inl rfl) (pe_call G_law_powers (hr.mono (by decide)) (by rfl) T.g_law_powers T.k_law_powers b_law_powers .nil pass0 (pa_cons pe_int (pa_cons (pv 0) pa_nil))))
      (pss_cons (ps_set (i := 7) sc_law_with_torn.nd rfl (Or.inl rfl) (pe_call G_law_powers (hr.mono (by decide)) (by rfl) T.g_law_powers T.k_law_powers b_law_powers .nil pass0 (pa_cons pe_int (pa_cons (pv 0) pa_nil))))
      (pss_cons (ps_set (i := 8) sc_law_with_torn.nd rfl (Or.inl rfl) pe_int)
      (pss_cons (ps_for PassesOwn.never rfl (pi_range1 (by rfl) T.n_range (pa_cons (pe_op op_add (pv 1) pe_int) pa_nil)) (pg_name (i := 9) sc_law_with_torn.nd rfl (Or.inl rfl)) (pss_one (ps_for PassesOwn.never rfl (pi_range1 (by rfl) T.n_range (pa_cons (pe_op op_sub (pe_op op_add (pv 1) pe_int) (pv 9)) pa_nil)) (pg_name (i := 10) sc_law_with_torn.nd rfl (Or.inl rfl)) (pss_cons (ps_set (i := 11) sc_law_with_torn.nd rfl (Or.inl rfl) (pe_op op_sub (pe_op op_sub (pv 1) (pv 9)) (pv 10)))
      (pss_cons (ps_set (i := 12) sc_law_with_torn.nd rfl (Or.inl rfl) (pe_op op_sub (pe_op op_sub (pe_op op_sub (pv 0) (pe_op op_mulW pe_int (pv 9))) (pe_op op_mulW pe_int (pv 10))) (pe_op op_mulW pe_int (pv 11))))
      (pss_one (ps_for PassesOwn.never rfl (pi_range1 (by rfl) T.n_range (pa_cons (pe_op op_add (pe_op op_fdivW (pv 12) pe_int) pe_int) pa_nil)) (pg_name (i := 13) sc_law_with_torn.nd rfl (Or.inl rfl)) (pss_cons (ps_set (i := 14) sc_law_with_torn.nd rfl (Or.inl rfl) (pe_op op_mulW (pe_op op_mulW (pe_op op_mulW (pe_op op_mulW (pe_ix ix_list (pv 2) (pe_op op_sub (pv 12) (pe_op op_mulW pe_int (pv 13))) (fun _ _ => rfl)) (pe_ix ix_list (pv 2) (pv 13) (fun _ _ => rfl))) (pe_ix ix_list (pv 2) (pv 11) (fun _ _ => rfl))) (pe_ix ix_list (pv 2) (pv 10) (fun _ _ => rfl))) (pe_ix ix_list (pv 2) (pv 9) (fun _ _ => rfl))))
      (pss_cons (ps_set (i := 14) sc_law_with_torn.nd rfl (Or.inl rfl) (pe_op op_mulW (pe_op op_mulW (pe_op op_mulW (pe_op op_mulW (pv 14) (pe_ix ix_list (pv 3) (pv 13) (fun _ _ => rfl))) (pe_ix ix_list (pv 3) (pv 11) (fun _ _ => rfl))) (pe_ix ix_list (pv 4) (pv 10) (fun _ _ => rfl))) (pe_ix ix_list (pv 5) (pv 9) (fun _ _ => rfl))))
      (pss_one (ps_set (i := 8) sc_law_with_torn.nd rfl (Or.inl rfl) (pe_op op_add (pv 8) (pe_op op_mulW (pe_op op_mulW (pe_op op_mulW (pe_op op_fdivW (pe_ix ix_list (pv 2) (pv 0) (fun _ _ => rfl)) (pv 14)) (pe_ix ix_list (pv 3) (pv 11) (fun _ _ => rfl))) (pe_ix ix_list (pv 6) (pv 10) (fun _ _ => rfl))) (pe_ix ix_list (pv 7) (pv 9) (fun _ _ => rfl)))))))))))))))
      (pss_one (ps_ret (pv 8))))))))))), ?_⟩
    refine ⟨_, rfl, _, _, rfl, rfl, n + 1, rfl, by omega, fun pf H1 hpf e1 hF => ?_⟩
    refine ⟨_, rfl, 2, n, rfl, by decide, hn, fun p2 H2 hp2 e2 h2 => ?_⟩
    refine ⟨_, rfl, 6, n, rfl, by decide, hn, fun p6 H3 hp6 e3 h6 => ?_⟩
    refine ⟨_, rfl, 24, n, rfl, by decide, hn, fun p24 H4 hp24 e4 h24 => ?_⟩
    refine ⟨_, rfl, 12, n, rfl, by decide, hn, fun p12 H5 hp12 e5 h12 => ?_⟩
    refine ⟨_, rfl, 42, n, rfl, by decide, hn, fun p42 H6 hp42 e6 h42 => ?_⟩
    have hF := hF.ex (e2.trans (e3.trans (e4.trans (e5.trans e6))))
    have h2 := h2.ex (e3.trans (e4.trans (e5.trans e6)))
    have h6 := h6.ex (e4.trans (e5.trans e6))
    have h24 := h24.ex (e5.trans e6)
    have h12 := h12.ex e6
    have e06 := e1.trans (e2.trans (e3.trans (e4.trans (e5.trans e6))))
    generalize hg : (fun f t => bif Nat.ble (4 * f + 3 * t + 2 * (m - f - t)) n then sumTo (fun p => term n f t (m - f - t) p) ((n - (4 * f + 3 * t + 2 * (m - f - t))) / 2 + 1) else 0) = g
    have hW : withTorn n m = sumTo (fun f => sumTo (g f) (m + 1 - f)) (m + 1) := by
      rw [← hg]
      rfl
    rw [hW] at k
    refine ⟨_, rfl, _, _, rfl, rfl, _, rfl, by omega, by omega, ?_⟩
    rw [show ((m : Int) + 1) = ((m + 1 : Nat) : Int) by omega]
    refine for_range (lo := 0) (n := m + 1) (fun i σ H' => ∃ v9 v10 v11 v12 v13 v14 : Option V, σ = [some (.int (n : Int)), some (.int (m : Int)), some (.ref pf), some (.ref p2), some (.ref p6), some (.ref p24), some (.ref p12), some (.ref p42), some (.int (sumTo (fun f => sumTo (g f) (m + 1 - f)) i : Nat)), v9, v10, v11, v12, v13, v14] ∧ H' = H6) ⟨none, none, none, none, none, none, rfl, rfl⟩ ?_ ?_
    · rintro f σ H' hf ⟨v9, v10, v11, v12, v13, v14, rfl, rfl⟩
      refine ⟨_, rfl, _, _, rfl, rfl, _, rfl, _, _, rfl, rfl, _, rfl, by omega, by omega, ?_⟩
      rw [show ((m : Int) + 1 - (0 + (f : Int))) = ((m + 1 - f : Nat) : Int) by omega]
      generalize hT0 : sumTo (fun f => sumTo (g f) (m + 1 - f)) f = T0
      refine for_range (lo := 0) (n := m + 1 - f) (fun i σ G => ∃ v10 v11 v12 v13 v14 : Option V, σ = [some (.int (n : Int)), some (.int (m : Int)), some (.ref pf), some (.ref p2), some (.ref p6), some (.ref p24), some (.ref p12), some (.ref p42), some (.int ((T0 + sumTo (g f) i : Nat) : Int)), some (.int (0 + (f : Int))), v10, v11, v12, v13, v14] ∧ G = H') ⟨v10, v11, v12, v13, v14, rfl, rfl⟩ ?_ ?_
      · rintro t σ G ht ⟨v10, v11, v12, v13, v14, rfl, rfl⟩
        have sm : ∀ i : Int, i.natAbs ≤ 1000 → i.natAbs < 2 ^ 60 := fun i h => Nat.lt_of_le_of_lt h (by decide)
        have c4 : CMulW 4 (0 + (f : Int)) := wide_mul (a := 60) (b := 60) (by decide) (sm _ (by omega)) (by decide) (by decide) (by decide)
        have c3 : CMulW 3 (0 + (t : Int)) := wide_mul (a := 60) (b := 60) (by decide) (sm _ (by omega)) (by decide) (by decide) (by decide)
        have c2 : CMulW 2 ((m : Int) - (0 + (f : Int)) - (0 + (t : Int))) := wide_mul (a := 60) (b := 60) (by decide) (sm _ (by omega)) (by decide) (by decide) (by decide)
        refine ⟨_, rfl, _, rfl, _, _, rfl, rfl, _, rfl, _, _, rfl, rfl, ?_⟩
        refine ⟨_, rfl, _, rfl, _, _, rfl, rfl, c4, _, _, rfl, rfl, _, rfl, _, _, rfl, rfl, c3, _, _, rfl, rfl, _, rfl, _, _, rfl, rfl, c2, _, _, rfl, rfl, ?_⟩
        refine ⟨_, rfl, _, _, rfl, rfl, wide_div (b := 60) (by decide) (by decide) (by decide) (by decide), _, _, rfl, rfl, _, rfl, by omega, by omega, ?_⟩
        generalize hw : m - f - t = u
        have hu : (m : Int) - (0 + (f : Int)) - (0 + (t : Int)) = (u : Int) := by omega
        generalize hsp : (n : Int) - 4 * (0 + (f : Int)) - 3 * (0 + (t : Int)) - 2 * ((m : Int) - (0 + (f : Int)) - (0 + (t : Int))) = sp
        have hsp2 : sp = (n : Int) - 4 * f - 3 * t - 2 * u := by omega
        generalize hT1 : T0 + sumTo (g f) t = T1
        refine for_range (lo := 0) (fun p σ G' => ∃ v13 v14 : Option V, σ = [some (.int (n : Int)), some (.int (m : Int)), some (.ref pf), some (.ref p2), some (.ref p6), some (.ref p24), some (.ref p12), some (.ref p42), some (.int ((T1 + sumTo (fun p => term n f t u p) p : Nat) : Int)), some (.int (0 + (f : Int))), some (.int (0 + (t : Int))), some (.int ((m : Int) - (0 + (f : Int)) - (0 + (t : Int)))), some (.int sp), v13, v14] ∧ G' = G) ⟨v13, v14, by rw [← hsp]; rfl, rfl⟩ ?_ ?_
        · rintro p σ G' hp ⟨v13, v14, rfl, rfl⟩
          have hp2 : 2 * (p : Int) ≤ sp := by omega
          generalize ha0 : n - (4 * f + 3 * t + 2 * u) - 2 * p = a0
          have ha1 : sp - 2 * (0 + (p : Int)) = (a0 : Int) := by omega
          have cp : CMulW 2 (0 + (p : Int)) := wide_mul (a := 60) (b := 60) (by decide) (sm _ (by omega)) (by decide) (by decide) (by decide)
          have z0 := fz (k := a0) (by omega)
          have zp := fz (k := p) (by omega)
          have zu := fz (k := u) (by omega)
          have zt := fz (k := t) (by omega)
          have zf := fz (k := f) (by omega)
          have x1 := wide_lt z0 zp
          have x2 := wide_lt x1 zu
          have x3 := wide_lt x2 zt
          have x4 := wide_lt x3 zf
          have y1 := pz (b := 2) (k := p) (by decide) (by omega)
          have y2 := pz (b := 2) (k := u) (by decide) (by omega)
          have y3 := pz (b := 6) (k := t) (by decide) (by omega)
          have y4 := pz (b := 24) (k := f) (by decide) (by omega)
          have y5 := pz (b := 12) (k := t) (by decide) (by omega)
          have y6 := pz (b := 42) (k := f) (by decide) (by omega)
          have x5 := wide_lt x4 y1
          have x6 := wide_lt x5 y2
          have x7 := wide_lt x6 y3
          have x8 := wide_lt x7 y4
          refine ⟨_, rfl, _, rfl, _, rfl, _, _, rfl, rfl, cp, _, _, rfl, rfl, _, _, _, _, rfl, rfl, hF.sz, facI ha1 (by omega), _, rfl, _, rfl, _, _, _, _, rfl, rfl, hF.sz, facI (k := p) (by omega) (by omega), _, _, rfl, rfl, wide_mul z0 zp (by decide) (by decide) (by decide), _, rfl, _, rfl, _, _, _, _, rfl, rfl, hF.sz, facI hu (by omega), _, _, rfl, rfl, wide_mul x1 zu (by decide) (by decide) (by decide), _, rfl, _, rfl, _, _, _, _, rfl, rfl, hF.sz, facI (k := t) (by omega) (by omega), _, _, rfl, rfl, wide_mul x2 zt (by decide) (by decide) (by decide), _, rfl, _, rfl, _, _, _, _, rfl, rfl, hF.sz, facI (k := f) (by omega) (by omega), _, _, rfl, rfl, wide_mul x3 zf (by decide) (by decide) (by decide), ?_⟩
          refine ⟨_, rfl, _, rfl, _, rfl, _, _, _, _, rfl, rfl, h2.sz, powI (k := p) (by omega) (by omega), _, _, rfl, rfl, wide_mul x4 y1 (by decide) (by decide) (by decide), _, rfl, _, rfl, _, _, _, _, rfl, rfl, h2.sz, powI hu (by omega), _, _, rfl, rfl, wide_mul x5 y2 (by decide) (by decide) (by decide), _, rfl, _, rfl, _, _, _, _, rfl, rfl, h6.sz, powI (k := t) (by omega) (by omega), _, _, rfl, rfl, wide_mul x6 y3 (by decide) (by decide) (by decide), _, rfl, _, rfl, _, _, _, _, rfl, rfl, h24.sz, powI (k := f) (by omega) (by omega), _, _, rfl, rfl, wide_mul x7 y4 (by decide) (by decide) (by decide), ?_⟩
          have hL : ((fac a0 : Nat) : Int) * ((fac p : Nat) : Int) * ((fac u : Nat) : Int) * ((fac t : Nat) : Int) * ((fac f : Nat) : Int) * ((2 ^ p : Nat) : Int) * ((2 ^ u : Nat) : Int) * ((6 ^ t : Nat) : Int) * ((24 ^ f : Nat) : Int) = ((fac a0 * fac p * fac u * fac t * fac f * 2 ^ p * 2 ^ u * 6 ^ t * 24 ^ f : Nat) : Int) := by
            simp only [Int.natCast_mul]
          have hpos : 0 < fac a0 * fac p * fac u * fac t * fac f * 2 ^ p * 2 ^ u * 6 ^ t * 24 ^ f := Nat.mul_pos (Nat.mul_pos (Nat.mul_pos (Nat.mul_pos (Nat.mul_pos (Nat.mul_pos (Nat.mul_pos (Nat.mul_pos (fac_pos _) (fac_pos _)) (fac_pos _)) (fac_pos _)) (fac_pos _)) (Nat.pow_pos (by decide))) (Nat.pow_pos (by decide))) (Nat.pow_pos (by decide))) (Nat.pow_pos (by decide))
          have q1 : (((fac n : Nat) : Int) / (((fac a0 : Nat) : Int) * ((fac p : Nat) : Int) * ((fac u : Nat) : Int) * ((fac t : Nat) : Int) * ((fac f : Nat) : Int) * ((2 ^ p : Nat) : Int) * ((2 ^ u : Nat) : Int) * ((6 ^ t : Nat) : Int) * ((24 ^ f : Nat) : Int))).natAbs < 2 ^ 304 := by
            rw [hL, ← Int.natCast_ediv]
            exact Nat.lt_of_le_of_lt (Nat.div_le_self ..) (fac_lt (by omega))
          have q2 := wide_lt q1 y2
          have q3 := wide_lt q2 y5
          have hterm : term n f t u p = fac n / (fac a0 * fac p * fac u * fac t * fac f * 2 ^ p * 2 ^ u * 6 ^ t * 24 ^ f) * 2 ^ u * 12 ^ t * 42 ^ f := by
            unfold term
            rw [ha0, fact_eq (by omega), fact_eq (by omega), fact_eq (by omega), fact_eq (by omega), fact_eq (by omega), fact_eq (by omega)]
          have hfin : ((T1 + sumTo (fun p => term n f t u p) p : Nat) : Int) + ((fac n : Nat) : Int) / (((fac a0 : Nat) : Int) * ((fac p : Nat) : Int) * ((fac u : Nat) : Int) * ((fac t : Nat) : Int) * ((fac f : Nat) : Int) * ((2 ^ p : Nat) : Int) * ((2 ^ u : Nat) : Int) * ((6 ^ t : Nat) : Int) * ((24 ^ f : Nat) : Int)) * ((2 ^ u : Nat) : Int) * ((12 ^ t : Nat) : Int) * ((42 ^ f : Nat) : Int) = ((T1 + sumTo (fun p => term n f t u p) (p + 1) : Nat) : Int) := by
            show _ = ((T1 + (sumTo (fun p => term n f t u p) p + term n f t u p) : Nat) : Int)
            rw [hterm, hL, ← Int.natCast_ediv, ← Nat.add_assoc, Int.natCast_add (T1 + _), Int.natCast_mul, Int.natCast_mul, Int.natCast_mul]
          refine ⟨_, rfl, _, rfl, _, rfl, _, _, _, _, rfl, rfl, hF.sz, facI (k := n) rfl (by omega), _, rfl, _, _, rfl, rfl, wide_div (b := 304 + 304 + 304 + 304 + 304 + 400 + 400 + 400 + 400) (by rw [hL]; exact Int.natCast_pos.mpr hpos) x8 (by decide) (by decide), _, rfl, _, rfl, _, _, _, _, rfl, rfl, h2.sz, powI hu (by omega), _, _, rfl, rfl, wide_mul q1 y2 (by decide) (by decide) (by decide), _, rfl, _, rfl, _, _, _, _, rfl, rfl, h12.sz, powI (k := t) (by omega) (by omega), _, _, rfl, rfl, wide_mul q2 y5 (by decide) (by decide) (by decide), _, rfl, _, rfl, _, _, _, _, rfl, rfl, h42.sz, powI (k := f) (by omega) (by omega), _, _, rfl, rfl, wide_mul q3 y6 (by decide) (by decide) (by decide), _, _, rfl, rfl, some (.int (0 + (p : Int))), some (.int (((fac a0 : Nat) : Int) * ((fac p : Nat) : Int) * ((fac u : Nat) : Int) * ((fac t : Nat) : Int) * ((fac f : Nat) : Int) * ((2 ^ p : Nat) : Int) * ((2 ^ u : Nat) : Int) * ((6 ^ t : Nat) : Int) * ((24 ^ f : Nat) : Int))), ?_, rfl⟩
          rw [← hfin]
          rfl
        · rintro σ G' ⟨v13, v14, rfl, rfl⟩
          refine ⟨some (.int (0 + (t : Int))), some (.int ((m : Int) - (0 + (f : Int)) - (0 + (t : Int)))), some (.int sp), v13, v14, ?_, rfl⟩
          have hend : T0 + sumTo (g f) (t + 1) = T1 + sumTo (fun p => term n f t u p) (sp / 2 + 1).toNat := by
            show T0 + (sumTo (g f) t + g f t) = _
            rw [← Nat.add_assoc, hT1, ← hg]
            dsimp only
            rw [hw]
            congr 1
            by_cases c : 4 * f + 3 * t + 2 * u ≤ n
            · rw [Nat.ble_eq_true_of_le c, show (sp / 2 + 1).toNat = (n - (4 * f + 3 * t + 2 * u)) / 2 + 1 by omega]
              rfl
            · rw [show Nat.ble (4 * f + 3 * t + 2 * u) n = false by
                cases q : Nat.ble (4 * f + 3 * t + 2 * u) n with
                | false => rfl
                | true => exact absurd (Nat.le_of_ble_eq_true q) c, show (sp / 2 + 1).toNat = 0 by omega]
              rfl
          rw [hend]
      · rintro σ G ⟨v10, v11, v12, v13, v14, rfl, rfl⟩
        refine ⟨some (.int (0 + (f : Int))), v10, v11, v12, v13, v14, ?_, rfl⟩
        rw [show sumTo (fun f => sumTo (g f) (m + 1 - f)) (f + 1) = T0 + sumTo (g f) (m + 1 - f) by rw [← hT0]; rfl]
    · rintro σ H' ⟨v9, v10, v11, v12, v13, v14, rfl, rfl⟩
      exact ⟨_, rfl, k _ e06⟩

end

section
variable {P : Program} {w : World} {K : PySem.W.Frag} {mg : Str → Option Value} {base : Heap} {A : Ad}
def tots (n : Nat) : List Nat := (List.range (n + 1)).map tot
theorem tots_len {n : Nat} : (tots n).length = n + 1 := by unfold tots; rw [List.length_map, List.length_range]
theorem totI {i : Int} {k N : Nat} (e : i = (k : Int)) (h : k ≤ N) : atI (nI (tots N)) i = some (V.int (tot k : Nat)) := by
  have := at_of e (ixN_ (xs := tots N) (j := k) (by rw [tots_len]; omega))
  unfold tots at this
  rw [List.getD_eq_getElem?_getD, List.getElem?_map, List.getElem?_range (by omega)] at this
  exact this
theorem tots_succ {n : Nat} : tots (n + 1) = tots n ++ [tot (n + 1)] := by
  unfold tots
  rw [List.range_succ, List.map_append]
  rfl
theorem tot_lt {k : Nat} (h : k < 65) : tot k < 2 ^ 400 := by
  have h1 : (List.range 65).all (fun k => Nat.ble (tot k + 1) (2 ^ 400)) = true := by decide +kernel
  exact Nat.le_of_ble_eq_true (List.all_eq_true.mp h1 k (List.mem_range.mpr h))
theorem tz {k : Nat} (h : k < 65) : ((tot k : Nat) : Int).natAbs < 2 ^ 400 := tot_lt h
def spIA : Sp := fun vs H Q _ => ∃ n : Nat, vs = [.int (n : Int)] ∧ n ≤ 64 ∧ ∀ H', Ex H H' → Q (.int (tot n : Nat)) H'
theorem tot_0 : tot 0 = 1 := by decide +kernel
theorem tot_1 : tot 1 = tot 0 := by decide +kernel
theorem tot_2 : ((tot 2 : Nat) : Int) = (tot 1 : Nat) + 3 * (1 + 1 - 1) * (tot 0 : Nat) := by decide +kernel
theorem tot_3 : ((tot 3 : Nat) : Int) = (tot 2 : Nat) + 3 * (1 + 2 - 1) * (tot 1 : Nat) + 6 * (1 + 2 - 1) * (1 + 2 - 2) * (tot 0 : Nat) := by decide +kernel
theorem tot_4 {i : Nat} (h : i + 3 < 64) : ((tot (i + 4) : Nat) : Int) = (tot (i + 3) : Nat) + 3 * (1 + ((i + 3 : Nat) : Int) - 1) * (tot (i + 2) : Nat) + 6 * (1 + ((i + 3 : Nat) : Int) - 1) * (1 + ((i + 3 : Nat) : Int) - 2) * (tot (i + 1) : Nat) + 7 * (1 + ((i + 3 : Nat) : Int) - 1) * (1 + ((i + 3 : Nat) : Int) - 2) * (1 + ((i + 3 : Nat) : Int) - 3) * (tot i : Nat) := by
  have e := tot_rec (n := i + 3) h
  have b1 : below (i + 3) 1 tot = tot (i + 2) := rfl
  have b2 : below (i + 3) 2 tot = tot (i + 1) := rfl
  have b3 : below (i + 3) 3 tot = tot i := rfl
  rw [b1, b2, b3, show i + 3 - 1 = i + 2 by omega, show i + 3 - 2 = i + 1 by omega] at e
  show ((tot (i + 3 + 1) : Nat) : Int) = _
  rw [e, show (1 + ((i + 3 : Nat) : Int) - 1) = ((i + 3 : Nat) : Int) by omega, show (1 + ((i + 3 : Nat) : Int) - 2) = ((i + 2 : Nat) : Int) by omega, show (1 + ((i + 3 : Nat) : Int) - 3) = ((i + 1 : Nat) : Int) by omega]
  simp only [Int.natCast_add, Int.natCast_mul]
  rfl
theorem ok_law_in_all (T : Txt K mg A)   : Okd P w K mg base CX0 1 A.law_in_all P_law_in_all spIA := by
  obtain ⟨fd, F⟩ := T.d_law_in_all

  refine ⟨fd, F.ok sc_law_in_all (fun vs H Q E h => ?_) (fun cdv A' outer s H vs Q E hr h => ?_), F.binds fun _ _ _ _ _ _ us hl => match us, hl with | [_], _ => rfl⟩
  · obtain ⟨n, rfl, _⟩ := h
    rfl
  · obtain ⟨n, rfl, hn, k⟩ := h
    refine ⟨_, (pss_cons (ps_set (i := 1) sc_law_in_all.nd rfl (Or.inl rfl) (pe_lst (pa_cons pe_int pa_nil)))
      (pss_cons (ps_for PassesOwn.never rfl (pi_range2 (by rfl) T.n_range (pa_cons pe_int (pa_cons (pe_op op_add (pv 0) pe_int) pa_nil))) (pg_name (i := 2) sc_law_in_all.nd rfl (Or.inl rfl)) (pss_cons (ps_set (i := 3) sc_law_in_all.nd rfl (Or.inl rfl) (pe_ix ix_list (pv 1) (pe_op op_sub (pv 2) pe_int) (fun _ _ => rfl)))
      (pss_cons (ps_if (pt_cmpR op_gt (pv 2) pe_int (nomark _)) (pss_one (ps_set (i := 3) sc_law_in_all.nd rfl (Or.inl rfl) (pe_op op_add (pv 3) (pe_op op_mulW (pe_op op_mulW pe_int (pe_op op_sub (pv 2) pe_int)) (pe_ix ix_list (pv 1) (pe_op op_sub (pv 2) pe_int) (fun _ _ => rfl)))))) pss_nil)
      (pss_cons (ps_if (pt_cmpR op_gt (pv 2) pe_int (nomark _)) (pss_one (ps_set (i := 3) sc_law_in_all.nd rfl (Or.inl rfl) (pe_op op_add (pv 3) (pe_op op_mulW (pe_op op_mulW (pe_op op_mulW pe_int (pe_op op_sub (pv 2) pe_int)) (pe_op op_sub (pv 2) pe_int)) (pe_ix ix_list (pv 1) (pe_op op_sub (pv 2) pe_int) (fun _ _ => rfl)))))) pss_nil)
      (pss_cons (ps_if (pt_cmpR op_gt (pv 2) pe_int (nomark _)) (pss_one (ps_set (i := 3) sc_law_in_all.nd rfl (Or.inl rfl) (pe_op op_add (pv 3) (pe_op op_mulW (pe_op op_mulW (pe_op op_mulW (pe_op op_mulW pe_int (pe_op op_sub (pv 2) pe_int)) (pe_op op_sub (pv 2) pe_int)) (pe_op op_sub (pv 2) pe_int)) (pe_ix ix_list (pv 1) (pe_op op_sub (pv 2) pe_int) (fun _ _ => rfl)))))) pss_nil)
      (pss_one (ps_expr (pe_bm PySem.F.plainAttrs_list PySem.F.slot_list_append PySem.F.type_list_append mt_append (pv 1) (pa_cons (pv 3) pa_nil)))))))))
      (pss_one (ps_ret (pe_ix ix_list (pv 1) (pv 0) (fun _ _ => rfl)))))), ?_⟩
    refine ⟨by decide, fun r hr0 => ?_⟩
    have hl0 : ListN (upd H r (.lst [V.int 1])) r (tots 0) := by
      show upd H r _ r = _
      rw [upd_same]
      unfold tots nI
      show some (HO.lst [V.int 1]) = some (HO.lst [V.int ((tot 0 : Nat) : Int)])
      rw [tot_0]
      rfl
    have e0 : Ex H (upd H r (.lst [V.int 1])) := Ex.new hr0
    generalize upd H r (.lst [V.int 1]) = H0 at *
    refine ⟨_, rfl, _, _, rfl, rfl, ?_⟩
    refine ⟨_, _, rfl, ⟨by decide, by decide, by omega, by omega⟩, for_range (lo := 1) (fun i σ G => ∃ v2 v3 : Option V, σ = [some (.int (n : Int)), some (.ref r), v2, v3] ∧ Ex H G ∧ ListN G r (tots i)) ⟨none, none, rfl, e0, hl0⟩ ?_ ?_⟩
    · rintro i σ G hi ⟨v2, v3, rfl, e, hl⟩
      have hin : i < n := by omega
      have sm : ∀ i : Int, i.natAbs ≤ 1000 → i.natAbs < 2 ^ 60 := fun i h => Nat.lt_of_le_of_lt h (by decide)
      refine ⟨_, rfl, _, rfl, _, _, rfl, rfl, _, _, _, _, rfl, rfl, hl.sz, totI (k := i) (by omega) (Nat.le_refl i), ?_⟩
      rcases i with _ | _ | _ | i
      ·
        refine ⟨_, rfl, _, _, rfl, rfl, _, rfl, ?_⟩
        refine ite_b (fun c => absurd (of_decide_eq_true c) (by omega)) (fun _ => ?_)
        refine ⟨_, rfl, _, _, rfl, rfl, _, rfl, ?_⟩
        refine ite_b (fun c => absurd (of_decide_eq_true c) (by omega)) (fun _ => ?_)
        refine ⟨_, rfl, _, _, rfl, rfl, _, rfl, ?_⟩
        refine ite_b (fun c => absurd (of_decide_eq_true c) (by omega)) (fun _ => ?_)
        refine ⟨_, rfl, Or.inl ⟨rfl, _, hl.sz⟩, _, rfl, _, _, _, rfl, rfl, hl, small1000 (by rw [nI_len, tots_len]; omega), ?_⟩
        refine ⟨_, _, rfl, fun b o hb => ?_, ?_⟩
        · rw [upd_ne (ne_of_none hb hr0)]
          exact e b o hb
        · show upd G r _ r = _
          rw [upd_same, tots_succ (n := 0), nI_app]
          exact congrArg (fun z => some (HO.lst (nI (tots (0)) ++ [V.int z]))) (congrArg (fun k : Nat => (k : Int)) tot_1).symm
      ·
        refine ⟨_, rfl, _, _, rfl, rfl, _, rfl, ?_⟩
        refine ite_b (fun _ => ?_) (fun c => absurd (by omega) (of_decide_eq_false c))
        refine ⟨_, rfl, _, rfl, _, _, rfl, rfl, _, _, rfl, rfl, (wide_mul (a := 60) (b := 60) (by decide) (sm _ (by omega)) (by decide) (by decide) (by decide)), _, rfl, _, rfl, _, _, rfl, rfl, _, _, _, _, rfl, rfl, hl.sz, totI (k := 0) (by omega) (by omega), _, _, rfl, rfl, wide_mul (a := 60) (b := 400) (sm _ (by omega)) (tz (by omega)) (by decide) (by decide) (by decide), _, _, rfl, rfl, ?_⟩
        refine ⟨_, rfl, _, _, rfl, rfl, _, rfl, ?_⟩
        refine ite_b (fun c => absurd (of_decide_eq_true c) (by omega)) (fun _ => ?_)
        refine ⟨_, rfl, _, _, rfl, rfl, _, rfl, ?_⟩
        refine ite_b (fun c => absurd (of_decide_eq_true c) (by omega)) (fun _ => ?_)
        refine ⟨_, rfl, Or.inl ⟨rfl, _, hl.sz⟩, _, rfl, _, _, _, rfl, rfl, hl, small1000 (by rw [nI_len, tots_len]; omega), ?_⟩
        refine ⟨_, _, rfl, fun b o hb => ?_, ?_⟩
        · rw [upd_ne (ne_of_none hb hr0)]
          exact e b o hb
        · show upd G r _ r = _
          rw [upd_same, tots_succ (n := 0 + 1), nI_app]
          exact congrArg (fun z => some (HO.lst (nI (tots (0 + 1)) ++ [V.int z]))) (tot_2).symm
      ·
        refine ⟨_, rfl, _, _, rfl, rfl, _, rfl, ?_⟩
        refine ite_b (fun _ => ?_) (fun c => absurd (by omega) (of_decide_eq_false c))
        refine ⟨_, rfl, _, rfl, _, _, rfl, rfl, _, _, rfl, rfl, (wide_mul (a := 60) (b := 60) (by decide) (sm _ (by omega)) (by decide) (by decide) (by decide)), _, rfl, _, rfl, _, _, rfl, rfl, _, _, _, _, rfl, rfl, hl.sz, totI (k := 1) (by omega) (by omega), _, _, rfl, rfl, wide_mul (a := 60) (b := 400) (sm _ (by omega)) (tz (by omega)) (by decide) (by decide) (by decide), _, _, rfl, rfl, ?_⟩
        refine ⟨_, rfl, _, _, rfl, rfl, _, rfl, ?_⟩
        refine ite_b (fun _ => ?_) (fun c => absurd (by omega) (of_decide_eq_false c))
        refine ⟨_, rfl, _, rfl, _, _, rfl, rfl, _, _, rfl, rfl, (wide_mul (a := 60) (b := 60) (by decide) (sm _ (by omega)) (by decide) (by decide) (by decide)), _, rfl, _, _, rfl, rfl, _, _, rfl, rfl, wide_mul (a := 60) (b := 60) (sm _ (by omega)) (sm _ (by omega)) (by decide) (by decide) (by decide), _, rfl, _, rfl, _, _, rfl, rfl, _, _, _, _, rfl, rfl, hl.sz, totI (k := 0) (by omega) (by omega), _, _, rfl, rfl, wide_mul (a := 60 + 60) (b := 400) (wide_lt (sm _ (by omega)) (sm _ (by omega))) (tz (by omega)) (by decide) (by decide) (by decide), _, _, rfl, rfl, ?_⟩
        refine ⟨_, rfl, _, _, rfl, rfl, _, rfl, ?_⟩
        refine ite_b (fun c => absurd (of_decide_eq_true c) (by omega)) (fun _ => ?_)
        refine ⟨_, rfl, Or.inl ⟨rfl, _, hl.sz⟩, _, rfl, _, _, _, rfl, rfl, hl, small1000 (by rw [nI_len, tots_len]; omega), ?_⟩
        refine ⟨_, _, rfl, fun b o hb => ?_, ?_⟩
        · rw [upd_ne (ne_of_none hb hr0)]
          exact e b o hb
        · show upd G r _ r = _
          rw [upd_same, tots_succ (n := 0 + 1 + 1), nI_app]
          exact congrArg (fun z => some (HO.lst (nI (tots (0 + 1 + 1)) ++ [V.int z]))) (tot_3).symm
      ·
        refine ⟨_, rfl, _, _, rfl, rfl, _, rfl, ?_⟩
        refine ite_b (fun _ => ?_) (fun c => absurd (by omega) (of_decide_eq_false c))
        refine ⟨_, rfl, _, rfl, _, _, rfl, rfl, _, _, rfl, rfl, (wide_mul (a := 60) (b := 60) (by decide) (sm _ (by omega)) (by decide) (by decide) (by decide)), _, rfl, _, rfl, _, _, rfl, rfl, _, _, _, _, rfl, rfl, hl.sz, totI (k := i + 2) (by omega) (by omega), _, _, rfl, rfl, wide_mul (a := 60) (b := 400) (sm _ (by omega)) (tz (by omega)) (by decide) (by decide) (by decide), _, _, rfl, rfl, ?_⟩
        refine ⟨_, rfl, _, _, rfl, rfl, _, rfl, ?_⟩
        refine ite_b (fun _ => ?_) (fun c => absurd (by omega) (of_decide_eq_false c))
        refine ⟨_, rfl, _, rfl, _, _, rfl, rfl, _, _, rfl, rfl, (wide_mul (a := 60) (b := 60) (by decide) (sm _ (by omega)) (by decide) (by decide) (by decide)), _, rfl, _, _, rfl, rfl, _, _, rfl, rfl, wide_mul (a := 60) (b := 60) (sm _ (by omega)) (sm _ (by omega)) (by decide) (by decide) (by decide), _, rfl, _, rfl, _, _, rfl, rfl, _, _, _, _, rfl, rfl, hl.sz, totI (k := i + 1) (by omega) (by omega), _, _, rfl, rfl, wide_mul (a := 60 + 60) (b := 400) (wide_lt (sm _ (by omega)) (sm _ (by omega))) (tz (by omega)) (by decide) (by decide) (by decide), _, _, rfl, rfl, ?_⟩
        refine ⟨_, rfl, _, _, rfl, rfl, _, rfl, ?_⟩
        refine ite_b (fun _ => ?_) (fun c => absurd (by omega) (of_decide_eq_false c))
        refine ⟨_, rfl, _, rfl, _, _, rfl, rfl, _, _, rfl, rfl, (wide_mul (a := 60) (b := 60) (by decide) (sm _ (by omega)) (by decide) (by decide) (by decide)), _, rfl, _, _, rfl, rfl, _, _, rfl, rfl, wide_mul (a := 60) (b := 60) (sm _ (by omega)) (sm _ (by omega)) (by decide) (by decide) (by decide), _, rfl, _, _, rfl, rfl, _, _, rfl, rfl, wide_mul (a := 60 + 60) (b := 60) (wide_lt (sm _ (by omega)) (sm _ (by omega))) (sm _ (by omega)) (by decide) (by decide) (by decide), _, rfl, _, rfl, _, _, rfl, rfl, _, _, _, _, rfl, rfl, hl.sz, totI (k := i) (by omega) (by omega), _, _, rfl, rfl, wide_mul (a := 60 + 60 + 60) (b := 400) (wide_lt (wide_lt (sm _ (by omega)) (sm _ (by omega))) (sm _ (by omega))) (tz (by omega)) (by decide) (by decide) (by decide), _, _, rfl, rfl, ?_⟩
        refine ⟨_, rfl, Or.inl ⟨rfl, _, hl.sz⟩, _, rfl, _, _, _, rfl, rfl, hl, small1000 (by rw [nI_len, tots_len]; omega), ?_⟩
        refine ⟨_, _, rfl, fun b o hb => ?_, ?_⟩
        · rw [upd_ne (ne_of_none hb hr0)]
          exact e b o hb
        · show upd G r _ r = _
          rw [upd_same, tots_succ (n := i + 1 + 1 + 1), nI_app]
          exact congrArg (fun z => some (HO.lst (nI (tots (i + 1 + 1 + 1)) ++ [V.int z]))) (tot_4 (i := i) (by omega)).symm
    · rintro σ G ⟨v2, v3, rfl, e, hl⟩
      rw [show ((n : Int) + 1 - 1).toNat = n by omega] at hl
      exact ⟨_, rfl, _, rfl, _, _, _, _, rfl, rfl, hl.sz, totI (k := n) rfl (Nat.le_refl n), k G e⟩

end

section
variable {P : Program} {w : World} {K : PySem.W.Frag} {mg : Str → Option Value} {base : Heap} {A : Ad}
def spLaw (K : PySem.W.Frag) : Sp := fun vs H Q _ => ∃ (a : Addr) (ns : List Int), vs = [.ref a] ∧ SqL K H a (ns.map V.int) ∧ ns.length ≤ 63 ∧ ∀ H', Q (.bl true) H'
theorem ok_law {fd : FuncData} (T : Txt K mg A) (F : Fun K "law" "law" s_law A.law fd)  (g_count_images : OkdD P w K mg base CX0 4 A.count_images ["size", "torn"] spCI3) (g_count_states : Okd P w K mg base CX0 5 A.count_states ["size"] spCS3) (g_law_bag : Okd P w K mg base CX0 1 A.law_bag P_law_bag (spBag K)) (g_law_take : Okd P w K mg base CX0 1 A.law_take P_law_take spTake) (g_law_with_torn : Okd P w K mg base CX0 2 A.law_with_torn P_law_with_torn spWT) (g_law_in_all : Okd P w K mg base CX0 1 A.law_in_all P_law_in_all spIA) (g_law_is : Okd P w K mg base CX0 1 A.law_is P_law_is spIs) : FnOk P w K mg base CX0 6 A.law fd P_law (spLaw K) := by
  obtain ⟨fd_count_images, G_count_images, ⟨ds_count_images, v_count_images, b_count_images⟩, kb_count_images⟩ := g_count_images
  obtain ⟨fd_count_states, G_count_states, b_count_states⟩ := g_count_states
  obtain ⟨fd_law_bag, G_law_bag, b_law_bag⟩ := g_law_bag
  obtain ⟨fd_law_take, G_law_take, b_law_take⟩ := g_law_take
  obtain ⟨fd_law_with_torn, G_law_with_torn, b_law_with_torn⟩ := g_law_with_torn
  obtain ⟨fd_law_in_all, G_law_in_all, b_law_in_all⟩ := g_law_in_all
  obtain ⟨fd_law_is, G_law_is, b_law_is⟩ := g_law_is
  refine F.ok sc_law (fun vs H Q E h => ?_) (fun cdv A' outer s H vs Q E hr h => ?_)
  · obtain ⟨a, ns, rfl, _⟩ := h
    rfl
  · obtain ⟨a, ns, rfl, hS, hlen, k⟩ := h
    refine ⟨_, (pss_cons (ps_set (i := 1) sc_law.nd rfl (Or.inl rfl) (pe_call G_law_bag (hr.mono (by decide)) (by rfl) T.g_law_bag T.k_law_bag b_law_bag .nil pass0 (pa_cons (pv 0) pa_nil)))
      (pss_cons (ps_set (i := 2) sc_law.nd rfl (Or.inl rfl) (pe_call G_law_take (hr.mono (by decide)) (by rfl) T.g_law_take T.k_law_take b_law_take .nil pass0 (pa_cons (pv 1) (pa_cons pe_int pa_nil))))
      (pss_cut (ps_if (pt_cmpR op_eq (pe_call G_law_take (hr.mono (by decide)) (by rfl) T.g_law_take T.k_law_take b_law_take .nil pass0 (pa_cons (pv 1) (pa_cons pe_int pa_nil))) pe_int (nomark _)) (pss_one (ps_set (i := 2) sc_law.nd rfl (Or.inl rfl) (pe_call G_law_take (hr.mono (by decide)) (by rfl) T.g_law_take T.k_law_take b_law_take .nil pass0 (pa_cons (pv 1) (pa_cons pe_int pa_nil))))) pss_nil)
      (pss_cons (ps_set (i := 3) sc_law.nd rfl (Or.inl rfl) (pe_op op_sub (pe_call G_law_take (hr.mono (by decide)) (by rfl) T.g_law_take T.k_law_take b_law_take .nil pass0 (pa_cons (pv 1) (pa_cons (pe_op op_add (pe_op op_fdivW (pv 2) pe_int) pe_int) pa_nil))) pe_int))
      (pss_cut (ps_if (pt_cmpR op_eq (pe_call G_law_take (hr.mono (by decide)) (by rfl) T.g_law_take T.k_law_take b_law_take .nil pass0 (pa_cons (pv 1) (pa_cons pe_int pa_nil))) pe_int (nomark _)) (pss_one (ps_set (i := 3) sc_law.nd rfl (Or.inl rfl) (pe_op op_sub (pe_un un_neg pe_int) (pe_call G_law_take (hr.mono (by decide)) (by rfl) T.g_law_take T.k_law_take b_law_take .nil pass0 (pa_cons (pv 1) (pa_cons pe_int pa_nil)))))) pss_nil)
      (pss_cons (ps_set (i := 4) sc_law.nd rfl (Or.inl rfl) pe_int)
      (pss_cut (ps_if (pt_cmpR op_ge (pv 3) pe_int (nomark _)) (pss_one (ps_set (i := 4) sc_law.nd rfl (Or.inl rfl) (pe_call G_law_with_torn (hr.mono (by decide)) (by rfl) T.g_law_with_torn T.k_law_with_torn b_law_with_torn .nil pass0 (pa_cons (pv 2) (pa_cons (pv 3) pa_nil))))) pss_nil)
      (pss_cons (ps_if (pt_not (pt_val (pe_call G_law_is (hr.mono (by decide)) (by rfl) T.g_law_is T.k_law_is b_law_is .nil pass0 (pa_cons (pe_callN G_count_images (hr.mono (by decide)) (by rfl) T.g_count_images T.k_count_images kb_count_images pass0 (pa_cons (pv 2) pa_nil) (pk_cons (pv 3) pk_nil)) (pa_cons (pv 4) pa_nil))))) (pss_one (ps_ret pe_bl)) pss_nil)
      (pss_cons (ps_set (i := 5) sc_law.nd rfl (Or.inl rfl) (pe_call G_law_with_torn (hr.mono (by decide)) (by rfl) T.g_law_with_torn T.k_law_with_torn b_law_with_torn .nil pass0 (pa_cons (pv 2) (pa_cons pe_int pa_nil))))
      (pss_cons (ps_if (PW.pt (pw_or (pt_not (pt_val (pe_call G_law_is (hr.mono (by decide)) (by rfl) T.g_law_is T.k_law_is b_law_is .nil pass0 (pa_cons (pe_callN G_count_images (hr.mono (by decide)) (by rfl) T.g_count_images T.k_count_images kb_count_images pass0 (pa_cons (pv 2) pa_nil) (pk_cons pe_int pk_nil)) (pa_cons (pv 5) pa_nil))))) (pw_or1 (pt_not (pt_val (pe_call G_law_is (hr.mono (by decide)) (by rfl) T.g_law_is T.k_law_is b_law_is .nil pass0 (pa_cons (pe_call G_count_states (hr.mono (by decide)) (by rfl) T.g_count_states T.k_count_states b_count_states .nil pass0 (pa_cons (pv 2) pa_nil)) (pa_cons (pv 5) pa_nil)))))))) (pss_one (ps_ret pe_bl)) pss_nil)
      (pss_cons (ps_set (i := 6) sc_law.nd rfl (Or.inl rfl) (pe_call G_law_in_all (hr.mono (by decide)) (by rfl) T.g_law_in_all T.k_law_in_all b_law_in_all .nil pass0 (pa_cons (pv 2) pa_nil)))
      (pss_one (ps_ret (pe_and (pe_call G_law_is (hr.mono (by decide)) (by rfl) T.g_law_is T.k_law_is b_law_is .nil pass0 (pa_cons (pe_call G_count_images (hr.mono (by decide)) (by rfl) T.g_count_images T.k_count_images b_count_images v_count_images pass0 (pa_cons (pv 2) pa_nil)) (pa_cons (pv 6) pa_nil))) (pe_one (pe_call G_law_is (hr.mono (by decide)) (by rfl) T.g_law_is T.k_law_is b_law_is .nil pass0 (pa_cons (pe_callN G_count_images (hr.mono (by decide)) (by rfl) T.g_count_images T.k_count_images kb_count_images pass0 (pa_cons (pv 2) pa_nil) (pk_cons pe_non pk_nil)) (pa_cons (pv 6) pa_nil)))))))))))))))))), ?_⟩
    refine ⟨_, rfl, a, ns, rfl, hS, fun b g f s0 hb B => ?_⟩
    have B1 : Bag (upd H b (.lst (bagL g f s0))) b := ⟨g, f, s0, upd_same, B⟩
    generalize L2.upd H b _ = H1 at *
    refine ⟨_, rfl, b, 15, rfl, by decide, by decide, B1, fun n H2 n0 n1 B2 M2 => ?_⟩
    obtain ⟨n, rfl⟩ := Int.eq_ofNat_of_zero_le n0
    refine ⟨fun σ G => ∃ n : Nat, n ≤ 64 ∧ σ = [some (.ref a), some (.ref b), some (.int (n : Int)), none, none, none, none] ∧ Bag G b, ?_, ?_⟩
    · refine ⟨_, rfl, b, 2, rfl, by decide, by decide, B2, fun d H3 _ _ B3 M3 => ?_⟩
      refine ⟨rfl, _, rfl, ?_⟩
      refine ite_b (fun c => ?_) (fun c => ?_)
      · refine ⟨_, rfl, b, 65, rfl, by decide, by decide, B3, fun m H4 m0 m1 B4 M4 => ?_⟩
        obtain ⟨m, rfl⟩ := Int.eq_ofNat_of_zero_le m0
        exact ⟨m, by omega, rfl, B4⟩
      · exact ⟨n, by omega, rfl, B3⟩
    rintro σ G ⟨n, hn, rfl, B3⟩
    refine ⟨_, rfl, _, rfl, _, _, rfl, rfl, wide_div (b := 60) (by decide) (by decide) (by decide) (by decide), _, _, rfl, rfl, b, _, rfl, by omega, by omega, B3, fun d H4 d0 d1 B4 M4 => ?_⟩
    refine ⟨_, _, rfl, rfl, ?_⟩
    refine ⟨fun σ G => ∃ m : Int, (m < 0 ∨ m < (n / 2 + 4 : Nat)) ∧ σ = [some (.ref a), some (.ref b), some (.int (n : Int)), some (.int m), none, none, none], ?_, ?_⟩
    · refine ⟨_, rfl, b, 8, rfl, by decide, by decide, B4, fun d2 H5 _ _ B5 M5 => ?_⟩
      refine ⟨rfl, _, rfl, ?_⟩
      refine ite_b (fun c => ?_) (fun c => ?_)
      · refine ⟨_, rfl, _, rfl, b, 64, rfl, by decide, by decide, B5, fun m H6 m0 m1 B6 M6 => ?_⟩
        refine ⟨_, _, rfl, rfl, -1 - m, Or.inl (by omega), rfl⟩
      · exact ⟨d - 3, by omega, rfl⟩
    rintro σ G ⟨m, hm, rfl⟩
    refine ⟨fun σ G' => σ = [some (.ref a), some (.ref b), some (.int (n : Int)), some (.int m), some (.int (if m < 0 then 0 else (K03.A n m.toNat : Nat))), none, none], ?_, ?_⟩
    · refine ⟨_, rfl, _, _, rfl, rfl, _, rfl, ?_⟩
      refine ite_b (fun c => ?_) (fun c => ?_)
      · have c := of_decide_eq_true c
        obtain ⟨m, rfl⟩ := Int.eq_ofNat_of_zero_le c
        have hm2 : m < n / 2 + 4 := by omega
        refine ⟨_, rfl, _, rfl, n, m, rfl, hn, by omega, fun H7 _ => ?_⟩
        rw [if_neg (by omega), Int.toNat_natCast, ← torn_eq hn hm2]
        rfl
      · have c := of_decide_eq_false c
        rw [if_pos (by omega)]
        rfl
    rintro σ G' rfl
    refine ⟨_, rfl, _, rfl, rfl, rfl, n, .int m, _, rfl, hn, rfl, fun H7 _ => ?_⟩
    refine ⟨_, rfl, _, rfl, _, rfl, ?_⟩
    refine ⟨_, rfl, n, 0, rfl, hn, by decide, fun H8 _ => ?_⟩
    rw [torn_eq hn (show 0 < n / 2 + 4 by omega)]
    refine ⟨_, rfl, rfl, rfl, n, .int 0, _, rfl, hn, rfl, fun H9 _ => ⟨_, rfl, ((K03.A n 0 : Nat) : Int), rfl, _, rfl, ?_⟩⟩
    refine ⟨_, rfl, n, rfl, hn, fun Ha _ => ⟨_, rfl, _, rfl, _, rfl, ?_⟩⟩
    refine ⟨_, rfl, n, rfl, hn, fun Hb _ => ?_⟩
    refine ⟨_, rfl, n, .non, _, rfl, hn, rfl, fun Hc _ => ⟨_, rfl, _, rfl, true, rfl, ?_⟩⟩
    rw [if_pos rfl]
    exact ⟨_, rfl, rfl, rfl, n, .non, _, rfl, hn, rfl, fun Hd _ => ⟨_, rfl, _, rfl, k Hd⟩⟩

end
end Pv
namespace Pv
open PySem L2 Evl
theorem all_mk {l : PySem.W.OpenLaw} {w : World} {K : PySem.W.Frag} {h : Heap} {mg : Str → Option Value} {fa f_count_images f_count_states f_torn_rows f_recurrence f_entry f_law_bag f_law_take f_law_is f_law_factorials f_law_powers f_law_with_torn f_law_in_all f_law kd_ci : Addr}
    {od_count_images an_count_images od_count_states an_count_states od_torn_rows an_torn_rows od_recurrence an_recurrence od_entry an_entry od_law_bag an_law_bag od_law_take an_law_take od_law_is an_law_is od_law_factorials an_law_factorials od_law_powers an_law_powers od_law_with_torn an_law_with_torn od_law_in_all an_law_in_all od_law an_law : Option Addr}
    {sl_count_images sl_count_states sl_torn_rows sl_recurrence sl_entry sl_law_bag sl_law_take sl_law_is sl_law_factorials sl_law_powers sl_law_with_torn sl_law_in_all sl_law : Array (Option Value)}
    {oc_count_images doc_count_images pm_count_images cd_count_images ct_count_images oc_count_states doc_count_states pm_count_states cd_count_states ct_count_states kV_count_states oc_torn_rows doc_torn_rows pm_torn_rows cd_torn_rows ct_torn_rows kV_torn_rows oc_recurrence doc_recurrence pm_recurrence cd_recurrence ct_recurrence kV_recurrence oc_entry doc_entry pm_entry cd_entry ct_entry kV_entry oc_law_bag doc_law_bag pm_law_bag cd_law_bag ct_law_bag kV_law_bag oc_law_take doc_law_take pm_law_take cd_law_take ct_law_take kV_law_take oc_law_is doc_law_is pm_law_is cd_law_is ct_law_is kV_law_is oc_law_factorials doc_law_factorials pm_law_factorials cd_law_factorials ct_law_factorials kV_law_factorials oc_law_powers doc_law_powers pm_law_powers cd_law_powers ct_law_powers kV_law_powers oc_law_with_torn doc_law_with_torn pm_law_with_torn cd_law_with_torn ct_law_with_torn kV_law_with_torn oc_law_in_all doc_law_in_all pm_law_in_all cd_law_in_all ct_law_in_all kV_law_in_all oc_law doc_law pm_law cd_law ct_law kV_law : Value}
    (X : K.In h) (G : h.Ns mainGlobals mg) (hfa : mg "law" = some (.ref fa))
    (a_count_images : PySem.W.nsIn K mainGlobals "count_images" = some (some (.ref f_count_images)))
    (l_count_images : K.lookup f_count_images = some ⟨oc_count_images, od_count_images, .func (PySem.W.fnOf "count_images" "count_images" (defArgs s_count_images) (defBody s_count_images) (defScope s_count_images) .none (.ref kd_ci) doc_count_images pm_count_images an_count_images cd_count_images ct_count_images), sl_count_images⟩)
    (cd_is_count_images : PySem.W.codeIn K cd_count_images "count_images" = true)
    (k_count_images : PySem.W.keepIn K (.ref f_count_images) = true)
    (a_count_states : PySem.W.nsIn K mainGlobals "count_states" = some (some (.ref f_count_states)))
    (l_count_states : K.lookup f_count_states = some ⟨oc_count_states, od_count_states, .func (PySem.W.fnOf "count_states" "count_states" (defArgs s_count_states) (defBody s_count_states) (defScope s_count_states) .none kV_count_states doc_count_states pm_count_states an_count_states cd_count_states ct_count_states), sl_count_states⟩)
    (cd_is_count_states : PySem.W.codeIn K cd_count_states "count_states" = true)
    (k_count_states : PySem.W.keepIn K (.ref f_count_states) = true)
    (a_torn_rows : PySem.W.nsIn K mainGlobals "_torn_rows" = some (some (.ref f_torn_rows)))
    (l_torn_rows : K.lookup f_torn_rows = some ⟨oc_torn_rows, od_torn_rows, .func (PySem.W.fnOf "_torn_rows" "_torn_rows" (defArgs s_torn_rows) (defBody s_torn_rows) (defScope s_torn_rows) .none kV_torn_rows doc_torn_rows pm_torn_rows an_torn_rows cd_torn_rows ct_torn_rows), sl_torn_rows⟩)
    (cd_is_torn_rows : PySem.W.codeIn K cd_torn_rows "_torn_rows" = true)
    (k_torn_rows : PySem.W.keepIn K (.ref f_torn_rows) = true)
    (a_recurrence : PySem.W.nsIn K mainGlobals "_recurrence" = some (some (.ref f_recurrence)))
    (l_recurrence : K.lookup f_recurrence = some ⟨oc_recurrence, od_recurrence, .func (PySem.W.fnOf "_recurrence" "_recurrence" (defArgs s_recurrence) (defBody s_recurrence) (defScope s_recurrence) .none kV_recurrence doc_recurrence pm_recurrence an_recurrence cd_recurrence ct_recurrence), sl_recurrence⟩)
    (cd_is_recurrence : PySem.W.codeIn K cd_recurrence "_recurrence" = true)
    (k_recurrence : PySem.W.keepIn K (.ref f_recurrence) = true)
    (a_entry : PySem.W.nsIn K mainGlobals "_entry" = some (some (.ref f_entry)))
    (l_entry : K.lookup f_entry = some ⟨oc_entry, od_entry, .func (PySem.W.fnOf "_entry" "_entry" (defArgs s_entry) (defBody s_entry) (defScope s_entry) .none kV_entry doc_entry pm_entry an_entry cd_entry ct_entry), sl_entry⟩)
    (cd_is_entry : PySem.W.codeIn K cd_entry "_entry" = true)
    (k_entry : PySem.W.keepIn K (.ref f_entry) = true)
    (a_law_bag : PySem.W.nsIn K mainGlobals "_law_bag" = some (some (.ref f_law_bag)))
    (l_law_bag : K.lookup f_law_bag = some ⟨oc_law_bag, od_law_bag, .func (PySem.W.fnOf "_law_bag" "_law_bag" (defArgs s_law_bag) (defBody s_law_bag) (defScope s_law_bag) .none kV_law_bag doc_law_bag pm_law_bag an_law_bag cd_law_bag ct_law_bag), sl_law_bag⟩)
    (cd_is_law_bag : PySem.W.codeIn K cd_law_bag "_law_bag" = true)
    (k_law_bag : PySem.W.keepIn K (.ref f_law_bag) = true)
    (a_law_take : PySem.W.nsIn K mainGlobals "_law_take" = some (some (.ref f_law_take)))
    (l_law_take : K.lookup f_law_take = some ⟨oc_law_take, od_law_take, .func (PySem.W.fnOf "_law_take" "_law_take" (defArgs s_law_take) (defBody s_law_take) (defScope s_law_take) .none kV_law_take doc_law_take pm_law_take an_law_take cd_law_take ct_law_take), sl_law_take⟩)
    (cd_is_law_take : PySem.W.codeIn K cd_law_take "_law_take" = true)
    (k_law_take : PySem.W.keepIn K (.ref f_law_take) = true)
    (a_law_is : PySem.W.nsIn K mainGlobals "_law_is" = some (some (.ref f_law_is)))
    (l_law_is : K.lookup f_law_is = some ⟨oc_law_is, od_law_is, .func (PySem.W.fnOf "_law_is" "_law_is" (defArgs s_law_is) (defBody s_law_is) (defScope s_law_is) .none kV_law_is doc_law_is pm_law_is an_law_is cd_law_is ct_law_is), sl_law_is⟩)
    (cd_is_law_is : PySem.W.codeIn K cd_law_is "_law_is" = true)
    (k_law_is : PySem.W.keepIn K (.ref f_law_is) = true)
    (a_law_factorials : PySem.W.nsIn K mainGlobals "_law_factorials" = some (some (.ref f_law_factorials)))
    (l_law_factorials : K.lookup f_law_factorials = some ⟨oc_law_factorials, od_law_factorials, .func (PySem.W.fnOf "_law_factorials" "_law_factorials" (defArgs s_law_factorials) (defBody s_law_factorials) (defScope s_law_factorials) .none kV_law_factorials doc_law_factorials pm_law_factorials an_law_factorials cd_law_factorials ct_law_factorials), sl_law_factorials⟩)
    (cd_is_law_factorials : PySem.W.codeIn K cd_law_factorials "_law_factorials" = true)
    (k_law_factorials : PySem.W.keepIn K (.ref f_law_factorials) = true)
    (a_law_powers : PySem.W.nsIn K mainGlobals "_law_powers" = some (some (.ref f_law_powers)))
    (l_law_powers : K.lookup f_law_powers = some ⟨oc_law_powers, od_law_powers, .func (PySem.W.fnOf "_law_powers" "_law_powers" (defArgs s_law_powers) (defBody s_law_powers) (defScope s_law_powers) .none kV_law_powers doc_law_powers pm_law_powers an_law_powers cd_law_powers ct_law_powers), sl_law_powers⟩)
    (cd_is_law_powers : PySem.W.codeIn K cd_law_powers "_law_powers" = true)
    (k_law_powers : PySem.W.keepIn K (.ref f_law_powers) = true)
    (a_law_with_torn : PySem.W.nsIn K mainGlobals "_law_with_torn" = some (some (.ref f_law_with_torn)))
    (l_law_with_torn : K.lookup f_law_with_torn = some ⟨oc_law_with_torn, od_law_with_torn, .func (PySem.W.fnOf "_law_with_torn" "_law_with_torn" (defArgs s_law_with_torn) (defBody s_law_with_torn) (defScope s_law_with_torn) .none kV_law_with_torn doc_law_with_torn pm_law_with_torn an_law_with_torn cd_law_with_torn ct_law_with_torn), sl_law_with_torn⟩)
    (cd_is_law_with_torn : PySem.W.codeIn K cd_law_with_torn "_law_with_torn" = true)
    (k_law_with_torn : PySem.W.keepIn K (.ref f_law_with_torn) = true)
    (a_law_in_all : PySem.W.nsIn K mainGlobals "_law_in_all" = some (some (.ref f_law_in_all)))
    (l_law_in_all : K.lookup f_law_in_all = some ⟨oc_law_in_all, od_law_in_all, .func (PySem.W.fnOf "_law_in_all" "_law_in_all" (defArgs s_law_in_all) (defBody s_law_in_all) (defScope s_law_in_all) .none kV_law_in_all doc_law_in_all pm_law_in_all an_law_in_all cd_law_in_all ct_law_in_all), sl_law_in_all⟩)
    (cd_is_law_in_all : PySem.W.codeIn K cd_law_in_all "_law_in_all" = true)
    (k_law_in_all : PySem.W.keepIn K (.ref f_law_in_all) = true)
    (a_law : PySem.W.nsIn K mainGlobals "law" = some (some (.ref f_law)))
    (l_law : K.lookup f_law = some ⟨oc_law, od_law, .func (PySem.W.fnOf "law" "law" (defArgs s_law) (defBody s_law) (defScope s_law) .none kV_law doc_law pm_law an_law cd_law ct_law), sl_law⟩)
    (cd_is_law : PySem.W.codeIn K cd_law "law" = true)
    (k_law : PySem.W.keepIn K (.ref f_law) = true)
    (kd_torn : PySem.W.nsIn K kd_ci "torn" = some (some .none))
    (a_comb : PySem.W.nsIn K mainGlobals "comb" = some (some (.builtin "math.comb")))
    (z_int : PySem.W.nsIn K mainGlobals "int" = some none)
    (z_bool : PySem.W.nsIn K mainGlobals "bool" = some none)
    (z_list : PySem.W.nsIn K mainGlobals "list" = some none)
    (z_len : PySem.W.nsIn K mainGlobals "len" = some none)
    (z_range : PySem.W.nsIn K mainGlobals "range" = some none)
    (z_isinstance : PySem.W.nsIn K mainGlobals "isinstance" = some none)
    (z_sum : PySem.W.nsIn K mainGlobals "sum" = some none)
    : ∃ fd : FuncData, (∀ (s : Shared) (v : Value), BindsTo s fd ⟨[v], []⟩ [("script", v)]) ∧ ∀ base : Heap, K.In base → base.Ns mainGlobals mg → FnOk l.prog w K mg base CX0 6 fa fd ["script"] (spLaw K) := by
  have e := hfa.symm.trans (PySem.W.mg_of X G a_law)
  cases e
  obtain ⟨A, hA⟩ : ∃ A : Ad, A = ⟨f_count_images, f_count_states, f_torn_rows, f_recurrence, f_entry, f_law_bag, f_law_take, f_law_is, f_law_factorials, f_law_powers, f_law_with_torn, f_law_in_all, fa⟩ := ⟨_, rfl⟩
  have T : Txt K mg A := {
    g_count_images := by rw [hA]; exact PySem.W.mg_of X G a_count_images,
    k_count_images := by rw [hA]; exact k_count_images,
    d_count_images := by rw [hA]; exact ⟨_, ⟨_, _, _, _, _, _, _, _, _, _, rfl, l_count_images, cd_is_count_images, Or.inl ⟨rfl, rfl⟩, Or.inr ⟨kd_ci, rfl, fun q hq => by rw [List.mem_singleton.mp hq]; exact ⟨_, kd_torn, rfl⟩⟩⟩, k_count_images⟩,
    g_count_states := by rw [hA]; exact PySem.W.mg_of X G a_count_states,
    k_count_states := by rw [hA]; exact k_count_states,
    d_count_states := by rw [hA]; exact ⟨_, fun_mk (st := s_count_states) l_count_states cd_is_count_states k_count_states⟩,
    g_torn_rows := by rw [hA]; exact PySem.W.mg_of X G a_torn_rows,
    k_torn_rows := by rw [hA]; exact k_torn_rows,
    d_torn_rows := by rw [hA]; exact ⟨_, fun_mk (st := s_torn_rows) l_torn_rows cd_is_torn_rows k_torn_rows⟩,
    g_recurrence := by rw [hA]; exact PySem.W.mg_of X G a_recurrence,
    k_recurrence := by rw [hA]; exact k_recurrence,
    d_recurrence := by rw [hA]; exact ⟨_, fun_mk (st := s_recurrence) l_recurrence cd_is_recurrence k_recurrence⟩,
    g_entry := by rw [hA]; exact PySem.W.mg_of X G a_entry,
    k_entry := by rw [hA]; exact k_entry,
    d_entry := by rw [hA]; exact ⟨_, fun_mk (st := s_entry) l_entry cd_is_entry k_entry⟩,
    g_law_bag := by rw [hA]; exact PySem.W.mg_of X G a_law_bag,
    k_law_bag := by rw [hA]; exact k_law_bag,
    d_law_bag := by rw [hA]; exact ⟨_, fun_mk (st := s_law_bag) l_law_bag cd_is_law_bag k_law_bag⟩,
    g_law_take := by rw [hA]; exact PySem.W.mg_of X G a_law_take,
    k_law_take := by rw [hA]; exact k_law_take,
    d_law_take := by rw [hA]; exact ⟨_, fun_mk (st := s_law_take) l_law_take cd_is_law_take k_law_take⟩,
    g_law_is := by rw [hA]; exact PySem.W.mg_of X G a_law_is,
    k_law_is := by rw [hA]; exact k_law_is,
    d_law_is := by rw [hA]; exact ⟨_, fun_mk (st := s_law_is) l_law_is cd_is_law_is k_law_is⟩,
    g_law_factorials := by rw [hA]; exact PySem.W.mg_of X G a_law_factorials,
    k_law_factorials := by rw [hA]; exact k_law_factorials,
    d_law_factorials := by rw [hA]; exact ⟨_, fun_mk (st := s_law_factorials) l_law_factorials cd_is_law_factorials k_law_factorials⟩,
    g_law_powers := by rw [hA]; exact PySem.W.mg_of X G a_law_powers,
    k_law_powers := by rw [hA]; exact k_law_powers,
    d_law_powers := by rw [hA]; exact ⟨_, fun_mk (st := s_law_powers) l_law_powers cd_is_law_powers k_law_powers⟩,
    g_law_with_torn := by rw [hA]; exact PySem.W.mg_of X G a_law_with_torn,
    k_law_with_torn := by rw [hA]; exact k_law_with_torn,
    d_law_with_torn := by rw [hA]; exact ⟨_, fun_mk (st := s_law_with_torn) l_law_with_torn cd_is_law_with_torn k_law_with_torn⟩,
    g_law_in_all := by rw [hA]; exact PySem.W.mg_of X G a_law_in_all,
    k_law_in_all := by rw [hA]; exact k_law_in_all,
    d_law_in_all := by rw [hA]; exact ⟨_, fun_mk (st := s_law_in_all) l_law_in_all cd_is_law_in_all k_law_in_all⟩,
    g_law := by rw [hA]; exact PySem.W.mg_of X G a_law,
    k_law := by rw [hA]; exact k_law,
    d_law := by rw [hA]; exact ⟨_, fun_mk (st := s_law) l_law cd_is_law k_law⟩,
    g_comb := PySem.W.mg_of X G a_comb,
    n_int := PySem.W.mg_none_of X G z_int,
    n_bool := PySem.W.mg_none_of X G z_bool,
    n_list := PySem.W.mg_none_of X G z_list,
    n_len := PySem.W.mg_none_of X G z_len,
    n_range := PySem.W.mg_none_of X G z_range,
    n_isinstance := PySem.W.mg_none_of X G z_isinstance,
    n_sum := PySem.W.mg_none_of X G z_sum }
  have FL := fun_mk (st := s_law) l_law cd_is_law k_law
  have eL : A.law = fa := by rw [hA]
  refine ⟨PySem.W.fnOf "law" "law" (defArgs s_law) (defBody s_law) (defScope s_law) .none kV_law doc_law pm_law an_law cd_law ct_law, fun s v => .of_eq rfl, fun base _ _ => ?_⟩
  rw [← eL] at FL ⊢
  have g_entry := ok_entry (P := l.prog) (w := w) (base := base) T 
  have g_recurrence := ok_recurrence (P := l.prog) (w := w) (base := base) T g_entry
  have g_torn_rows := ok_torn_rows (P := l.prog) (w := w) (base := base) T g_recurrence
  have g_count_images := ok_count_images (P := l.prog) (w := w) (base := base) T g_torn_rows g_entry
  have g_count_states := ok_count_states (P := l.prog) (w := w) (base := base) T g_count_images
  have g_law_bag := ok_law_bag (P := l.prog) (w := w) (base := base) T 
  have g_law_take := ok_law_take (P := l.prog) (w := w) (base := base) T 
  have g_law_is := ok_law_is (P := l.prog) (w := w) (base := base) T 
  have g_law_factorials := ok_law_factorials (P := l.prog) (w := w) (base := base) T 
  have g_law_powers := ok_law_powers (P := l.prog) (w := w) (base := base) T 
  have g_law_with_torn := ok_law_with_torn (P := l.prog) (w := w) (base := base) T g_law_factorials g_law_powers
  have g_law_in_all := ok_law_in_all (P := l.prog) (w := w) (base := base) T 
  exact ok_law T FL g_count_images g_count_states g_law_bag g_law_take g_law_with_torn g_law_in_all g_law_is
theorem walk {l : PySem.W.OpenLaw} {q : Program} {loose : List Str} {XP : (Str → Option Value) → Heap → Prop} {YP : World → Heap → Prop} {d : DefRec} {K : Params → PySem.W.Frag} (hn : l.most = some 63) (hdf : d.params.defaults = [])
    (hY : ∀ (w : World) (h : Heap), YP w h → (K w.params).In h)
    (F : ∀ (w : World) (mg : Str → Option Value) (fa : Addr) (h : Heap), (K w.params).In h → h.Ns mainGlobals mg → mg d.name = some (.ref fa) →
      ∃ fd : FuncData, (∀ (s : Shared) (u : Value), BindsTo s fd ⟨[u], []⟩ [("script", u)]) ∧ ∀ base : Heap, (K w.params).In base → base.Ns mainGlobals mg → FnOk l.prog w (K w.params) mg base CX0 6 fa fd ["script"] (spLaw (K w.params))) :
    PySem.W.WalkO q loose XP YP l.row.toRowW d [] (fun f vs => PySem.call f vs) :=
  L2.walk_of (n := 63) (k := 6) (x := "script") (CX := fun _ => CX0) (sp := fun w => spLaw (K w.params)) hn (by decide) hdf ⟨rfl, by decide, by decide⟩ hY F (fun _ _ a ns hl _ hS => ⟨a, ns, rfl, hS, hl, fun _ => rfl⟩) fun _ _ _ _ _ z => z
end Pv

open PySem PySem.W PyProof.Rows
set_option maxRecDepth 100000 in
set_option maxHeartbeats 0 in
theorem PySem.Challenge.cw_peermend_k03_counts_holds : PySem.Challenge.rw_peermend_k03_counts.Holds := by
  w_on; o_law; k_head; (case hw => w_witness2)
  k_fill
  refine Pv.walk (l := PySem.Challenge.rw_peermend_k03_counts) rfl rfl (fun w h Y => PySem.W.kIn_of Y) ?F
  case F =>
    intro w mg fa h KX G hmg
    refine' Pv.all_mk KX G hmg ?qa_count_images ?ql_count_images ?qcd_is_count_images ?qk_count_images ?qa_count_states ?ql_count_states ?qcd_is_count_states ?qk_count_states ?qa_torn_rows ?ql_torn_rows ?qcd_is_torn_rows ?qk_torn_rows ?qa_recurrence ?ql_recurrence ?qcd_is_recurrence ?qk_recurrence ?qa_entry ?ql_entry ?qcd_is_entry ?qk_entry ?qa_law_bag ?ql_law_bag ?qcd_is_law_bag ?qk_law_bag ?qa_law_take ?ql_law_take ?qcd_is_law_take ?qk_law_take ?qa_law_is ?ql_law_is ?qcd_is_law_is ?qk_law_is ?qa_law_factorials ?ql_law_factorials ?qcd_is_law_factorials ?qk_law_factorials ?qa_law_powers ?ql_law_powers ?qcd_is_law_powers ?qk_law_powers ?qa_law_with_torn ?ql_law_with_torn ?qcd_is_law_with_torn ?qk_law_with_torn ?qa_law_in_all ?ql_law_in_all ?qcd_is_law_in_all ?qk_law_in_all ?qa_law ?ql_law ?qcd_is_law ?qk_law ?qkd_torn ?qa_comb ?qz_int ?qz_bool ?qz_list ?qz_len ?qz_range ?qz_isinstance ?qz_sum
    (case qa_count_images => k_is)
    (case ql_count_images => k_is)
    (case qcd_is_count_images => k_is)
    (case qk_count_images => k_is)
    (case qa_count_states => k_is)
    (case ql_count_states => k_is)
    (case qcd_is_count_states => k_is)
    (case qk_count_states => k_is)
    (case qa_torn_rows => k_is)
    (case ql_torn_rows => k_is)
    (case qcd_is_torn_rows => k_is)
    (case qk_torn_rows => k_is)
    (case qa_recurrence => k_is)
    (case ql_recurrence => k_is)
    (case qcd_is_recurrence => k_is)
    (case qk_recurrence => k_is)
    (case qa_entry => k_is)
    (case ql_entry => k_is)
    (case qcd_is_entry => k_is)
    (case qk_entry => k_is)
    (case qa_law_bag => k_is)
    (case ql_law_bag => k_is)
    (case qcd_is_law_bag => k_is)
    (case qk_law_bag => k_is)
    (case qa_law_take => k_is)
    (case ql_law_take => k_is)
    (case qcd_is_law_take => k_is)
    (case qk_law_take => k_is)
    (case qa_law_is => k_is)
    (case ql_law_is => k_is)
    (case qcd_is_law_is => k_is)
    (case qk_law_is => k_is)
    (case qa_law_factorials => k_is)
    (case ql_law_factorials => k_is)
    (case qcd_is_law_factorials => k_is)
    (case qk_law_factorials => k_is)
    (case qa_law_powers => k_is)
    (case ql_law_powers => k_is)
    (case qcd_is_law_powers => k_is)
    (case qk_law_powers => k_is)
    (case qa_law_with_torn => k_is)
    (case ql_law_with_torn => k_is)
    (case qcd_is_law_with_torn => k_is)
    (case qk_law_with_torn => k_is)
    (case qa_law_in_all => k_is)
    (case ql_law_in_all => k_is)
    (case qcd_is_law_in_all => k_is)
    (case qk_law_in_all => k_is)
    (case qa_law => k_is)
    (case ql_law => k_is)
    (case qcd_is_law => k_is)
    (case qk_law => k_is)
    (case qkd_torn => k_is)
    (case qa_comb => k_is)
    (case qz_int => k_is)
    (case qz_bool => k_is)
    (case qz_list => k_is)
    (case qz_len => k_is)
    (case qz_range => k_is)
    (case qz_isinstance => k_is)
    (case qz_sum => k_is)
