import PyProof.Rows.All
import Wide.All
import OpenK.AllK
import Wide.FinOn
import KE.KIsAll
import KE.KExcIs
import HandS.ForMost
import HandS.ForExc
import HandS.TryMany
import HandS.ExcInit
import HandS.ExcValue
import HandS.ExcField
import HandS.IsInst
import HandS.ExcIs
import HandS.Small
import HandS.Wide
import HandS.Flow
import HandS.Evl
import HandS.Conv
import HandS.Walk
import KE.KDictKeyed
import KE.KDictList
import KE.KDictDisplayH
import HandS.SetKeys
import HandS.DictComp
import HandS.NoneIn
import HandS.SortInts
import HandS.SortOrd
import HandS.TupAny
import HandS.ListItems
import HandS.SortRule
import HandS.ExcCtx
import HandS.HotCalls
import HandS.ExcInitHot
import HandS.Deep
import PySem.Challenge.RW_peermend_k02_whole_bad_groups
set_option Elab.async false
set_option linter.all false
set_option maxRecDepth 100000
set_option maxHeartbeats 4000000
namespace L2
open PySem PySem.Spec PyProof.Rows

/-- an error object held as a value: without a dict, or with one that holds fields -/
def ErrT (H : Hp) (a C : Addr) : Prop := H a = some (ExO (.ref C) a) ∨ ∃ (dx : Addr) (fs : List (Str × V)), H a = some (exo a C (some dx)) ∧ H dx = some (exd dx fs)
/-- isinstance of such a value -/
def rIsX (K : PySem.W.Frag) : List V → Hp → VK → Prop := fun xs H Q => ∃ (a C : Addr) (c : V) (u : Value) (b : Bool), xs = [.ref a, c] ∧ ErrT H a C ∧ ExcC K C ∧ ClsV c u ∧ PySem.W.kitOne K (.ref C) u = some b ∧ Q (.bl b) H
theorem clsIn_some {K : PySem.W.Frag} {C : Addr} (h : PySem.W.hasDictIn K C = true) : (PySem.W.clsIn K C).isSome = true := by
  obtain ⟨cd, hc, _⟩ := PySem.W.any_some h
  rw [hc]
  rfl
theorem kitX_err {K : PySem.W.Frag} {C a : Addr} {oe : Obj} {od : Option Obj} (D : ExcC K C) : PySem.W.KitX K (.ref a) (.ref C) (fun h => PySem.W.InstAt h a oe C od) :=
  PySem.W.kitx_exc (clsIn_some D.hd) D.hg D.hk D.hs D.ha D.hn D.ht D.hm
theorem call_isX {X : Cx} : CallR X (.builtin "isinstance") (rIsX X.K) := by
  intro pins s σ H xs us Q I r h
  obtain ⟨a, C, c, u, b, rfl, T, D, k, e, q⟩ := h
  obtain ⟨u1, u2, rfl, r1, r2⟩ := vals2 r
  have e2 := k.eq r2
  subst e2
  cases (show u1 = Value.ref a from r1)
  rcases T with ea | ⟨dx, fs, ea, ed⟩
  · have x : ObjOk X.prog X.w H s.heap a (ExO (.ref C) a) := I.hok a _ ea
    obtain ⟨⟨oe, vs, ho, hz, hd, _⟩, _, _⟩ := x
    obtain ⟨oc, odi, oda, osl⟩ := oe
    obtain ⟨h1, h2⟩ := hz
    dsimp only at h1 h2 hd
    subst h1 h2 hd
    exact PySem.W.kia_one (kitX_err (od := none) D) I.kIn ⟨ho, rfl, rfl, trivial⟩ e (fun z => nomatch z) fun tk => ⟨.bl b, H, I.tok tk, rfl, q⟩
  · obtain ⟨t1, ho⟩ := exo_at I.hok ea
    obtain ⟨mA, hns, _⟩ := exd_at I.hok ed
    obtain ⟨od, ho2, _⟩ := lookIn_ns hns
    exact PySem.W.kia_one (kitX_err (od := some od) D) I.kIn ⟨ho, rfl, rfl, ho2⟩ e (fun z => nomatch z) fun tk => ⟨.bl b, H, I.tok tk, rfl, q⟩
/-- isinstance(e, c), e the exception that the suite holds, with its dict -/
def rIsS (K : PySem.W.Frag) (a : Addr) (cls : Value) (d : Option Addr) : List V → Hp → VK → Prop := fun xs H Q => ∃ (C dd : Addr) (fs : List (Str × V)) (c : V) (u : Value) (b : Bool), xs = [.ref a, c] ∧ cls = .ref C ∧ d = some dd ∧ H dd = some (.xd fs) ∧
  ExcC K C ∧ ClsV c u ∧ PySem.W.kitOne K (.ref C) u = some b ∧ Q (.bl b) H
theorem call_isS {X : Cx} {K : PySem.W.Frag} {a : Addr} {cls : Value} {d : Option Addr} {oe : Obj} {pn : List (Addr × Obj)} (hK : X.K = K) (hz : Zc cls d oe) (hf : ∃ vs, oe.data = .fields vs) : CallR (X.suite a ((a, oe) :: pn)) (.builtin "isinstance") (rIsS K a cls d) := by
  subst hK
  intro pins s σ H xs us Q I r h
  obtain ⟨C, dd, fs, c, u, b, rfl, rfl, rfl, ea, D, k, e, q⟩ := h
  obtain ⟨u1, u2, rfl, r1, r2⟩ := vals2 r
  have e2 := k.eq r2
  subst e2
  cases (show u1 = Value.ref a from r1)
  obtain ⟨hget, _⟩ := I.pin (a, oe) (List.mem_append.mpr (.inl List.mem_cons_self))
  obtain ⟨vs, hv⟩ := hf
  have hx : ObjOk X.prog X.w H s.heap dd (.xd fs) := I.hok dd _ ea
  obtain ⟨mA, hns, hr⟩ := hx
  obtain ⟨od, ho, hl⟩ := lookIn_ns hns
  have J : PySem.W.InstAt s.heap a oe C (some od) := ⟨hget, hz.1, by unfold PySem.W.notCls; rw [hv] <;> rfl, by rw [hz.2]; exact ho⟩
  exact PySem.W.kia_one (kitX_err D) I.kIn J e (fun z => nomatch z) fun tk => ⟨.bl b, H, I.kept (t' := tk) fun _ _ z => z, rfl, q⟩

section
variable {X : Cx} {C : Addr} {bmB : List Value} {B newId initId : String} {x : Str} {p pos : Pos}
/-- X(), raised: an own exception class without own __init__ -/
theorem pmk_own0 (F : ExcBaseFacts B newId initId bmB) (q : PySem.W.excIn X.K C bmB newId = true) (gC : X.mg x = some (.ref C)) (kC : PySem.W.keepIn X.K (.ref C) = true) (r : Raises X (.ref C)) (hg : Gl X x)
    (hdb : (x == ("__debug__" : Str)) = false := by decide) : PMk X (.Call (.Name x p) [] [] pos) (fun _ H Q => Q (.ref C) none H) := by
  intro pins s σ H Q I h
  refine wpAny_Call_Name_kw (ld_glob I hg gC ?_ hdb)
  refine PySem.W.callWith_K0 I.kIn kC ?_
  obtain ⟨bm, N, nm, qn, bs, hdct, sn, sub, ab, col, dd, k0, k1, k2, k3, k5, mN, hC, hN, hni, T⟩ := exc_obj I.kIn q
  refine wpAny_call_exc_subT F T hC hN hni (fun h' e hm => ?_) (Nat.zero_le _)
  exact mk_of I hm r h (I.hok.gone hm.new)
/-- X(), as a value -/
theorem pe_exc0 (F : ExcBaseFacts B newId initId bmB) (q : PySem.W.excIn X.K C bmB newId = true) (gC : X.mg x = some (.ref C)) (kC : PySem.W.keepIn X.K (.ref C) = true) (hg : Gl X x)
    (hdb : (x == ("__debug__" : Str)) = false := by decide) : PE X (.Call (.Name x p) [] [] pos) (fun _ H Q => ∀ a, H a = none → Q (.ref a) (upd H a (ExO (.ref C) a))) := by
  refine ⟨fun pins s σ H Q I h => ?_⟩
  refine wpAny_Call_Name_kw (ld_glob I hg gC ?_ hdb)
  refine PySem.W.callWith_K0 I.kIn kC ?_
  obtain ⟨bm, N, nm, qn, bs, hdct, sn, sub, ab, col, dd, k0, k1, k2, k3, k5, mN, hC, hN, hni, T⟩ := exc_obj I.kIn q
  refine wpAny_call_exc_subT F T hC hN hni (fun h' a hm => ?_) (Nat.zero_le _)
  have hn : H a = none := I.hok.gone hm.new
  obtain ⟨t, ht, _, _⟩ := hm.there
  exact ⟨.ref a, upd H a (ExO (.ref C) a), I.laidN hm.keeps hm.new hn (exO_ok ht ⟨rfl, rfl⟩ rfl rfl rfl (show 4 < 6 by decide)), rfl, h a hn⟩
end
/-- X(e, ..) as a value, its own __init__ keeping sp -/
def tMkV (C : Addr) (sp : Sp) (ta : TA) : TE := fun σ H Q => ta σ H fun vs H1 => vs.length ≤ 1000 ∧ ∀ a, H1 a = none → sp (.ref a :: vs) (upd H1 a (exo a C none)) (fun v H2 => v = .non ∧ Q (.ref a) H2) (fun _ _ _ => False)
section
variable {X : Cx} {e : Expr} {es : List Expr} {ta : TA} {p pos : Pos}
theorem pe_oexV {CX : CXT} {x : Str} {C fI : Addr} {k : Nat} {fd : FuncData} {ps : List Str} {sp : Sp} (T : OexC X.K C) (iC : PySem.W.findIn X.K (.ref C) "__init__" = some (some (.ref fI))) (tI : PySem.W.typeIn X.K (.ref fI) = some (.type "function"))
    (F1 : FnOk X.prog X.w X.K X.mg X.base CX k fI fd ps sp) (hr : Room (k + 1) X.A) (hb : Binds X.K fd ps []) (hx : Passes CX X (fun _ _ _ => False)) (hg : Gl X x) (hm : X.mg x = some (.ref C)) (ha : PA X (e :: es) ta)
    (hdb : (x == ("__debug__" : Str)) = false := by decide) (he : starEach (e :: es) X.env = (false, eval e X.env) :: starEach es X.env := by rfl) (hpl : (backTo pos (starEach es X.env)).any (·.1) = false := by rfl) :
    PE X (.Call (.Name x p) (e :: es) [] pos) (tMkV C sp ta) := by
  refine ⟨fun pins s σ H Q I h => ?_⟩
  obtain ⟨nm, q, N, bs, bm, sn, sub, ab, col, dd, k0, k1, k2, k3, k5, hC, hmro⟩ := T.cls
  refine wpAny_Call_Name_kw (ld_glob I hg hm ?_ hdb)
  refine PySem.W.callWith_K (h₀ := X.base) I.ok.mod.kin T.kC (thn (ha.run pos pins s σ H _ I h) fun us s1 ⟨vs, H1, I1, r1, hz, q1⟩ => ⟨I1.kIn, ?_⟩) he hpl
  show wpAny _ _ (call (.ref C) us) _ _ _
  obtain ⟨hh, g, dw, tc, ow⟩ := s1
  have hgt : hh.objs.size ≤ hh.objs.size + 1 := Nat.le_succ _
  have fr1 : H1 (hh.objs.size + 1) = none := I1.hok.fresh hgt
  have pr1 := q1 (hh.objs.size + 1) fr1
  have kp1 : ∀ b o, hh.get? b = some o → ((hh.push (PySem.W.kdv_tup us)).push (PySem.HandSPX.excO C hh.objs.size)).get? b = some o := fun b o e => Heap.get?_push_of_some _ (Heap.get?_push_of_some _ e)
  have ob1 : ((hh.push (PySem.W.kdv_tup us)).push (PySem.HandSPX.excO C hh.objs.size)).get? (hh.objs.size + 1) = some (PySem.HandSPX.excO C hh.objs.size) := by heap_get
  have Iv2 : Inv X pins σ (upd H1 (hh.objs.size + 1) (exo (hh.objs.size + 1) C none)) ⟨(hh.push (PySem.W.kdv_tup us)).push (PySem.HandSPX.excO C hh.objs.size), g, dw, tc, ow⟩ :=
    I1.laid (t' := tc) (a := hh.objs.size + 1) (o := exo (hh.objs.size + 1) C none) (h' := (hh.push (PySem.W.kdv_tup us)).push (PySem.HandSPX.excO C hh.objs.size)) kp1 hgt (exo_ok ob1)
  have rl2 : Vals (V.ref (hh.objs.size + 1) :: vs) (Value.ref (hh.objs.size + 1) :: us) := .cons rfl r1
  have ln1 : (Value.ref (hh.objs.size + 1) :: us).length = ps.length := by
    have e := rl2.length
    rw [F1.len _ _ _ _ pr1] at e
    exact e.symm
  have ln2 : us.length ≤ sizeLine := by
    rw [← Paired.length r1, sizeLine_eq]
    omega
  have b0 := hb ⟨(hh.push (PySem.W.kdv_tup us)).push (PySem.HandSPX.excO C hh.objs.size), g, dw, tc, ow⟩ (Value.ref (hh.objs.size + 1) :: us) Iv2.kIn (by rw [List.append_nil]; exact ln1)
  rw [List.append_nil] at b0
  refine wpAny_call (PySem.HandSPX.call_own F.excBase_ValueError (fun Y => PySem.HandSPX.refsVE_contains Y bm hmro) (I1.kIn _ _ hC) (PySem.W.looks_findIn I1.kIn iC) (fun self => PySem.W.bind_fn I1.kIn self tI) ln2
    (codeAny_mono (F1.run _ X.stack _ _ ⟨Value.ref (hh.objs.size + 1) :: us, []⟩ (Value.ref (hh.objs.size + 1) :: us) _ _ (fun _ _ _ => False) (hr.make C us []) (Iv2.env0.make C us []) b0 rl2 pr1) fun r s' hq' => ?_))
  cases r with
  | error er => exact hx pins σ _ _ er s' Iv2 hq'
  | ok fl =>
    cases fl with
    | ret u =>
      obtain ⟨v, H2, os2, bare2, un2, hok2, rv, ev, q2⟩ := hq'
      subst ev
      exact ⟨rv, .ref (hh.objs.size + 1), H2, Iv2.call' (ch := []) os2 un2 hok2 bare2 (fun b z => absurd z (by simp)), rfl, q2⟩
    | next => exact False.elim hq'
    | brk => exact False.elim hq'
    | cont => exact False.elim hq'
/-- err.f, err an error held as a value -/
def tXa (K : PySem.W.Frag) (f : Str) (te : TE) : TE := fun σ H Q => te σ H fun x H1 => ∃ (a C dx : Addr) (fs : List (Str × V)) (v : V), x = .ref a ∧ H1 a = some (exo a C (some dx)) ∧ H1 dx = some (exd dx fs) ∧ XfC K C ∧ PySem.W.findIn K (.ref C) f = some none ∧ fs.lookup f = some v ∧ Q v H1
theorem pe_xa {te : TE} {n : Str} (he : PE X e te) (hb : attributeBase e n X.env (eval e X.env) = eval e X.env := by rfl) : PE X (.Attribute e n pos) (tXa X.K n te) := by
  refine ⟨fun pins s σ H Q I h => ?_⟩
  refine attr_of hb (thn (he.run pins s σ H _ I h) fun u s1 hh => ?_)
  obtain ⟨x, H1, I1, rx, a, C, dx, fs, v, ex, ea, ed, T, hno, l, q⟩ := hh
  subst ex
  obtain rfl : u = Value.ref a := rx
  obtain ⟨t1, ho⟩ := exo_at I1.hok ea
  obtain ⟨mA, hns, hr⟩ := exd_at I1.hok ed
  obtain ⟨od, ho2, ln1⟩ := lookIn_ns hns
  obtain ⟨u, hu, ru⟩ := RelO.some_of (v := v) (o := mA n) (by rw [← l]; exact hr n)
  have J : PySem.W.InstAt s1.heap a _ C (some od) := ⟨ho, rfl, rfl, ho2⟩
  exact HandSPX.exc_get I1.kIn J T.ga T.gg T.exC (PySem.W.findObj_own T.hdC hno rfl (by rw [ln1, hu])) (handed_of ru) ⟨v, H1, I1.tok _, ru, q⟩
end
theorem ix_listK {X : Cx} {K : PySem.W.Frag} (h : X.K = K) : IxR X (rIxL K) := by
  subst h
  exact ix_list
theorem ix_tupK {X : Cx} {K : PySem.W.Frag} (h : X.K = K) : IxR X (rIxT K) := by
  subst h
  exact ix_tup
/-! several except clauses, some with names -/
/-- what is behind a suite with (slot i) or without a name -/
def goneD (oi : Option Nat) (D : Ends) : Ends := match oi with
  | none => D
  | some i => { nx := fun σ' H' => D.nx (σ'.set i none) H', rt := D.rt, bk := fun σ' H' => D.bk (σ'.set i none) H', ct := fun σ' H' => D.ct (σ'.set i none) H' }
def hadS (oi : Option Nat) (a : Addr) (σ : St) : St := match oi with
  | none => σ
  | some i => σ.set i (some (.ref a))
def wManyN (K : PySem.W.Frag) (Wout : WX) (D : Ends) : List (Value × Option Nat × (Addr → Value → Option Addr → TS)) → WX
  | [] => Wout
  | (c, oi, ts) :: r => fun cls d σ H => ∃ b, PySem.W.exmOne K cls c = some b ∧ (b = true → ∀ a, H a = none → ts a cls d (goneD oi D) (hadS oi a σ) H) ∧ (b = false → wManyN K Wout D r cls d σ H)
inductive HdsN (X : Cx) : List ExceptHandler → List (Value × Option Nat × (Addr → Value → Option Addr → TS)) → Prop
  | nil : HdsN X [] []
  | cons {x : Str} {c : Value} {ts : Addr → Value → Option Addr → TS} {b₀ : Stmt} {suite : List Stmt} {np pos' : Pos} {hds : List ExceptHandler} {l : List (Value × Option Nat × (Addr → Value → Option Addr → TS))} (hc : Names X x c)
      (hsu : ∀ (a : Addr) (oe : Obj) (cls : Value) (d : Option Addr) (pn : List (Addr × Obj)), Zc cls d oe → (∃ vs, oe.data = .fields vs) → PSs (X.suite a ((a, oe) :: pn)) (b₀ :: suite) (ts a cls d)) (r : HdsN X hds l) :
      HdsN X (.ExceptHandler (some (.Name x np)) none (b₀ :: suite) pos' :: hds) ((c, none, ts) :: l)
  | consN {x n : Str} {i : Nat} {c : Value} {ts : Addr → Value → Option Addr → TS} {b₀ : Stmt} {suite : List Stmt} {np pos' : Pos} {hds : List ExceptHandler} {l : List (Value × Option Nat × (Addr → Value → Option Addr → TS))} (hN : X.N.Nodup) (hi : X.N[i]? = some n) (hln : X.env.kindOf n = some .local) (hc : Names X x c)
      (hsu : ∀ (a : Addr) (oe : Obj) (cls : Value) (d : Option Addr) (pn : List (Addr × Obj)), Zc cls d oe → (∃ vs, oe.data = .fields vs) → PSs (X.suite a ((a, oe) :: pn)) (b₀ :: suite) (ts a cls d)) (r : HdsN X hds l) :
      HdsN X (.ExceptHandler (some (.Name x np)) (some n) (b₀ :: suite) pos' :: hds) ((c, some i, ts) :: l)
section
variable {X : Cx} {body : List Stmt} {h₀ : ExceptHandler} {hds : List ExceptHandler} {l : List (Value × Option Nat × (Addr → Value → Option Addr → TS))} {pos : Pos} {tb : WX → TS} {Wout : WX}
theorem ps_try_manyN (hs : X.stack = X.env :: X.outer) (hf : X.env.frame = some X.env.locals) (tk : Takes X Wout)
    (hb : ∀ (W : WX) (pn : List (Addr × Obj)) (xe : Value → Shared → Prop), Takes (X.tr pn xe) W → PassesOwn (model X.prog X.w) X.A X.env xe → PSs (X.tr pn xe) body (tb W))
    (hh : HdsN X (h₀ :: hds) l) : PS X (.Try body (h₀ :: hds) [] [] pos) (fun D σ H => tb (wManyN X.K Wout D l) D σ H) := by
  refine ⟨fun pins s σ H D I h => ?_⟩
  have ok := I.ok
  have frA : X.A.frames = some (X.env :: X.outer) := by rw [ok.frames, hs]
  refine wpAny_Try_except ?_
  refine wpAny_mono ((hb (wManyN X.K Wout D l) (X.pn ++ pins) (fun e s₁ => wpAny (model X.prog X.w) X.A (noteFrame e X.env) (fun _ s₂ => wpAny (model X.prog X.w) X.A (setFlight e none) (fun _ s₃ =>
    wpAny (model X.prog X.w) X.A (handleBy e X.env (h₀ :: hds)) (SP X pins D) X.xe s₃) X.xe s₂) X.xe s₁) (fun u s' xx => ?_) PassesOwn.looking).run [] s σ H D (I.toTry _) h) (fun f s1 back => ?_) (fun e s1 he => he)
  · -- the catch
    obtain ⟨a, B, sI, pins', σ', H', cls, d, rfl, J', nb, up, sky, na, os, ag, w⟩ := xx
    have J : Inv X pins σ' H' sI := J'.ofTry ok
    have skyE : Sky B (X.env :: X.outer) a (Zc cls d) X.env.locals s'.heap := by rw [← hs]; exact sky
    show wpAny (model X.prog X.w) X.A (noteFrame (.ref a) X.env) _ _ _
    refine Sky.land Zc.steady frA hf skyE fun h3 fz3 ut3 => ?_
    have Jn3 : Inv X pins σ' H' { s' with heap := h3 } := J.landed nb fz3.1 (up.trans ut3) os ag
    obtain ⟨ox3, xs3, ob3, zc3, dt3⟩ := fz3.there
    have aside : ∀ {h : Heap} {o : Obj} {vs : Array Value}, h.FunFrames B (X.env :: X.outer) → h.get? a = some o → o.data = .fields vs → a ∉ frs (X.env :: X.outer) := fun {h o vs} ff e dd hm => by
      obtain ⟨_, o', e', hnf⟩ := ff.mem hm
      rw [e] at e'; cases e'
      exact hnf _ dd
    have offF := aside fz3.2.2.1 ob3 dt3
    have offL : a ≠ X.env.locals := fun z => offF (List.mem_filterMap.mpr ⟨X.env, List.mem_cons_self, by rw [hf, z]⟩)
    have offS : a ∉ X.fs := fun hm => by
      obtain ⟨e, he, q⟩ := List.mem_filterMap.mp hm
      exact offF (List.mem_filterMap.mpr ⟨e, List.mem_cons_of_mem _ he, q⟩)
    have In3 := Jn3.suite ob3 dt3 na offL offS
    have go : ∀ {hds' : List ExceptHandler} {l' : List (Value × Option Nat × (Addr → Value → Option Addr → TS))}, HdsN X hds' l' → wManyN X.K Wout D l' cls d σ' H' →
        wpAny (model X.prog X.w) X.A (handleBy (.ref a) X.env hds') (SP X pins D) X.xe { s' with heap := h3 } := by
      intro hds' l' hk
      induction hk with
      | nil =>
        intro w
        refine wpAny_handleBy_nil ?_
        obtain ⟨k1, k2, k3, oe, vs, T, oT, ts', he, hz, hd, h1, hr⟩ := id fz3
        unfold PySem.passOn
        refine wpAny_bind (wpAny_field he hd h1 ?_)
        rw [if_neg (show ¬ ((Value.ref T == Value.none) = true) from by simp)]
        have fin : wpAny (model X.prog X.w) X.A (setFlight (.ref a) X.env.frame) (fun _ s4 => wpAny (model X.prog X.w) X.A (throw (.ref a) : Sem Flow) (SP X pins D) X.xe s4) X.xe { s' with heap := h3 } := by
          rw [hf]
          refine HandSPX.setFlight_upZ fz3 fun h4 hh4 ut4 => wpAny_throw (tk _ _ ?_)
          exact ⟨a, B, sI, pins, σ', H', cls, d, rfl, J, nb, (up.trans ut3).trans ut4, .inr (.inr (by rw [hs]; exact hh4)), na, os, ag, w⟩
        first
          | exact wpAny_bind (wpAny_pure (wpAny_bind fin))
          | exact wpAny_bind fin
      | @cons x c ts b₀ suite np pos' hds2 l2 hc hsu r ih =>
        intro w
        obtain ⟨b, hx1, yes, nay⟩ := w
        refine wpAny_handleBy_cons (codeAny_handlers_test ?_) (by intro q; cases q)
        have lkT : PySem.W.Looks (model X.prog X.w) h3 (typeOf (.ref a)) cls := fun A Q E s k q => wpAny_typeOf_ref (k _ _ ob3) (by rw [zc3.1]; exact q)
        have lkM := PySem.W.exm_one (M := model X.prog X.w) (Jn3.kIn) lkT hx1
        have test : ∀ {Q : Value → Shared → Prop} {E : Value → Shared → Prop}, Q c { s' with heap := h3 } → wpAny (model X.prog X.w) (X.A.mark (some (.ref a))) (eval (.Name x np) X.env) Q E { s' with heap := h3 } := fun {Q E} q => by
          obtain ⟨hg, hdbg, hm | ⟨hm, hv, hnn⟩⟩ := hc
          · exact ld_glob (X := X.suite a ((a, ox3) :: (X.pn ++ pins))) In3 hg hm q hdbg
          · exact ld_blt (X := X.suite a ((a, ox3) :: (X.pn ++ pins))) In3 hg hm hv q hnn hdbg
        refine test (lkM.here ?_)
        cases b with
        | true =>
          refine codeAny_handlers_suite ?_
          refine HandSPX.lands_againZ fz3 fun h4 fz4 ut4 => ?_
          have Jn4 : Inv X pins σ' H' { s' with heap := h4 } := J.landed nb fz4.1 ((up.trans ut3).trans ut4) os ag
          obtain ⟨ox4, xs4, ob4, zc4, dt4⟩ := fz4.there
          have In4 := Jn4.suite ob4 dt4 na offL offS
          refine wpAny_mono ((hsu a ox4 cls d (X.pn ++ pins) zc4 ⟨_, dt4⟩).run [] _ _ H' _ In4 (yes rfl a na)) (fun f t6 back => ?_) (fun _ _ z => False.elim z)
          cases f with
          | next =>
            obtain ⟨σb, Hb, Inb, qb⟩ := back
            exact ⟨_, _, Inb.unsuite ok, qb⟩
          | brk =>
            obtain ⟨σb, Hb, Inb, qb⟩ := back
            exact ⟨_, _, Inb.unsuite ok, qb⟩
          | cont =>
            obtain ⟨σb, Hb, Inb, qb⟩ := back
            exact ⟨_, _, Inb.unsuite ok, qb⟩
          | ret u =>
            obtain ⟨vb, σb, Hb, Inb, rb, qb⟩ := back
            exact ⟨_, _, _, Inb.unsuite ok, rb, qb⟩
        | false =>
          show wpAny _ X.A (handleBy (.ref a) X.env hds2) _ _ _
          exact ih (nay rfl)
      | @consN x n i c ts b₀ suite np pos' hds2 l2 hN hi hln hc hsu r ih =>
        intro w
        obtain ⟨b, hx1, yes, nay⟩ := w
        have hloc : Loc X.env.scope n := .inl hln
        refine wpAny_handleBy_cons (codeAny_handlers_test ?_) (by intro q; cases q)
        have lkT : PySem.W.Looks (model X.prog X.w) h3 (typeOf (.ref a)) cls := fun A Q E s k q => wpAny_typeOf_ref (k _ _ ob3) (by rw [zc3.1]; exact q)
        have lkM := PySem.W.exm_one (M := model X.prog X.w) (Jn3.kIn) lkT hx1
        have test : ∀ {Q : Value → Shared → Prop} {E : Value → Shared → Prop}, Q c { s' with heap := h3 } → wpAny (model X.prog X.w) (X.A.mark (some (.ref a))) (eval (.Name x np) X.env) Q E { s' with heap := h3 } := fun {Q E} q => by
          obtain ⟨hg, hdbg, hm | ⟨hm, hv, hnn⟩⟩ := hc
          · exact ld_glob (X := X.suite a ((a, ox3) :: (X.pn ++ pins))) In3 hg hm q hdbg
          · exact ld_blt (X := X.suite a ((a, ox3) :: (X.pn ++ pins))) In3 hg hm hv q hnn hdbg
        refine test (lkM.here ?_)
        cases b with
        | true =>
          refine codeAny_handlers_suite_as ?_
          refine HandSPX.lands_againZ fz3 fun h4 fz4 ut4 => ?_
          have Jn4 : Inv X pins σ' H' { s' with heap := h4 } := J.landed nb fz4.1 ((up.trans ut3).trans ut4) os ag
          obtain ⟨ox4, xs4, ob4, zc4, dt4⟩ := fz4.there
          have In4 := Jn4.suite ob4 dt4 na offL offS
          refine store_ok (X := X.suite a ((a, ox4) :: (X.pn ++ pins))) (v := .ref a) In4 hN hi hloc rfl (fun t5 In5 => ?_) (.inr hln)
          refine wpAny_mono ((hsu a ox4 cls d (X.pn ++ pins) zc4 ⟨_, dt4⟩).run [] t5 _ H' _ In5 (yes rfl a na)) (fun f t6 back => ?_) (fun _ _ z => False.elim z)
          have gone : ∀ {σb : St} {Hb : Hp} {Q : Shared → Prop}, Inv (X.suite a ((a, ox4) :: (X.pn ++ pins))) [] σb Hb t6 → (∀ s7, Inv X pins (σb.set i none) Hb s7 → Q s7) →
              wpAny (model X.prog X.w) X.A (do bindName X.env n .none; unbindBehindTheSuite X.env n pos') (fun _ s7 => Q s7) X.xe t6 := fun {σb Hb Q} Inb hq => gone_ok (Inb.unsuite ok) hN hi hln hq
          cases f with
          | next =>
            obtain ⟨σb, Hb, Inb, qb⟩ := back
            exact gone Inb fun s7 J7 => ⟨_, _, J7, qb⟩
          | brk =>
            obtain ⟨σb, Hb, Inb, qb⟩ := back
            exact gone Inb fun s7 J7 => ⟨_, _, J7, qb⟩
          | cont =>
            obtain ⟨σb, Hb, Inb, qb⟩ := back
            exact gone Inb fun s7 J7 => ⟨_, _, J7, qb⟩
          | ret u =>
            obtain ⟨vb, σb, Hb, Inb, rb, qb⟩ := back
            exact gone Inb fun s7 J7 => ⟨_, _, _, J7, rb, qb⟩
        | false =>
          show wpAny _ X.A (handleBy (.ref a) X.env hds2) _ _ _
          exact ih (nay rfl)
    exact go hh w
  · cases f with
    | next =>
      obtain ⟨σ', H', J', q⟩ := back
      exact wpAny_execs_nil ⟨σ', H', J'.ofTry ok, q⟩
    | brk =>
      obtain ⟨σ', H', J', q⟩ := back
      exact ⟨σ', H', J'.ofTry ok, q⟩
    | cont =>
      obtain ⟨σ', H', J', q⟩ := back
      exact ⟨σ', H', J'.ofTry ok, q⟩
    | ret u =>
      obtain ⟨v, σ', H', J', r, q⟩ := back
      exact ⟨v, σ', H', J'.ofTry ok, r, q⟩
end
end L2

namespace Pm
/-! ### forms and blocks -/
def form : Nat → List Nat
  | 0 => [0] | 1 => [1, 0] | 2 => [1, 1] | 3 => [1, 2, 1] | 4 => [1, 2, 2] | 5 => [1, 2, 1, 2] | 6 => [1, 2, 3, 2] | _ => [1, 2, 3, 0]
abbrev Bk := Nat × List Nat
structure Blk (ys : List Nat) (b : Bk) : Prop where
  w : b.1 < 8
  len : b.2.length = (form b.1).length
  sh : ∀ k, k < b.2.length → ys.getD (b.2.getD k 0) 0 = b.2.getD ((form b.1).getD k 0) 0
structure Built (ys : List Nat) (bs : List Bk) : Prop where
  blk : ∀ b ∈ bs, Blk ys b
  perm : (bs.flatMap (·.2)).Perm (List.range ys.length)
theorem form_len (w : Nat) : 0 < (form w).length := by
  unfold form
  split <;> decide
theorem form_lt (w k : Nat) (h : k < (form w).length) : (form w).getD k 0 < (form w).length := by
  unfold form at h ⊢
  split at h <;> (simp at h ⊢; rcases k with _ | _ | _ | _ | k <;> simp at h ⊢ <;> omega)
/-- the least of a list -/
def mn : List Nat → Nat
  | [] => 0
  | [a] => a
  | a :: b :: l => min a (mn (b :: l))
theorem mn_mem : ∀ {l : List Nat}, l ≠ [] → mn l ∈ l
  | [], h => absurd rfl h
  | [a], _ => by simp [mn]
  | a :: b :: l, _ => by
    have ih := mn_mem (l := b :: l) (by simp)
    unfold mn
    by_cases h : a ≤ mn (b :: l)
    · rw [Nat.min_eq_left h]; exact List.mem_cons_self ..
    · rw [Nat.min_eq_right (by omega)]; exact List.mem_cons_of_mem _ ih
theorem mn_le : ∀ {l : List Nat} {x : Nat}, x ∈ l → mn l ≤ x
  | [a], x, h => by
    rw [List.mem_singleton.mp h]
    exact Nat.le_refl _
  | a :: b :: l, x, h => by
    unfold mn
    rcases List.mem_cons.mp h with e | h
    · rw [e]; exact Nat.min_le_left _ _
    · exact Nat.le_trans (Nat.min_le_right _ _) (mn_le h)
theorem uniq : ∀ {bs : List Bk} {b c : Bk} {x : Nat}, (bs.flatMap (·.2)).Nodup → b ∈ bs → c ∈ bs → x ∈ b.2 → x ∈ c.2 → b = c
  | a :: bs, b, c, x, nd, hb, hc, xb, xc => by
    rw [List.flatMap_cons, List.nodup_append] at nd
    rcases List.mem_cons.mp hb with e1 | hb
    · rcases List.mem_cons.mp hc with e2 | hc
      · rw [e1, e2]
      · exact absurd rfl (nd.2.2 x (e1 ▸ xb) x (List.mem_flatMap.mpr ⟨c, hc, xc⟩))
    · rcases List.mem_cons.mp hc with e2 | hc
      · exact absurd rfl (nd.2.2 x (e2 ▸ xc) x (List.mem_flatMap.mpr ⟨b, hb, xb⟩))
      · exact uniq nd.2.1 hb hc xb xc
theorem nd_of : ∀ {bs : List Bk} {b : Bk}, (bs.flatMap (·.2)).Nodup → b ∈ bs → b.2.Nodup
  | a :: bs, b, nd, hb => by
    rw [List.flatMap_cons, List.nodup_append] at nd
    rcases List.mem_cons.mp hb with e1 | hb
    · rw [e1]; exact nd.1
    · exact nd_of nd.2.1 hb
def beta (bs : List Bk) (x : Nat) : Nat := match bs.find? (fun b => b.2.contains x) with
  | some b => mn b.2
  | none => x
section
variable {ys : List Nat} {bs : List Bk}
theorem Built.nd (B : Built ys bs) : (bs.flatMap (·.2)).Nodup := B.perm.nodup_iff.mpr List.nodup_range
theorem Built.lt (B : Built ys bs) {b : Bk} (hb : b ∈ bs) {x : Nat} (hx : x ∈ b.2) : x < ys.length :=
  List.mem_range.mp (B.perm.mem_iff.mp (List.mem_flatMap.mpr ⟨b, hb, hx⟩))
theorem Built.of (B : Built ys bs) {x : Nat} (hx : x < ys.length) : ∃ b ∈ bs, x ∈ b.2 := by
  obtain ⟨b, hb, h⟩ := List.mem_flatMap.mp (B.perm.mem_iff.mpr (List.mem_range.mpr hx))
  exact ⟨b, hb, h⟩
theorem Built.beta_of (B : Built ys bs) {b : Bk} (hb : b ∈ bs) {x : Nat} (hx : x ∈ b.2) : beta bs x = mn b.2 := by
  unfold beta
  cases h : bs.find? (fun b => b.2.contains x) with
  | none =>
    have := List.find?_eq_none.mp h b hb
    simp [hx] at this
  | some c =>
    have h1 := List.mem_of_find?_eq_some h
    have h2 := List.find?_some h
    have h3 : x ∈ c.2 := by simpa using h2
    rw [uniq B.nd hb h1 hx h3]
theorem Built.ne (B : Built ys bs) {b : Bk} (hb : b ∈ bs) : b.2 ≠ [] := fun z => by
  have h := (B.blk b hb).len
  have := form_len b.1
  rw [z] at h
  simp at h
  omega
theorem Built.mn_beta (B : Built ys bs) {b : Bk} (hb : b ∈ bs) : beta bs (mn b.2) = mn b.2 := B.beta_of hb (mn_mem (B.ne hb))
theorem Built.beta_le (B : Built ys bs) {x : Nat} (hx : x < ys.length) : beta bs x ≤ x := by
  obtain ⟨b, hb, h⟩ := B.of hx
  rw [B.beta_of hb h]
  exact mn_le h
theorem getD_mem {l : List Nat} {k : Nat} (h : k < l.length) : l.getD k 0 ∈ l := by
  rw [List.getD_eq_getElem?_getD, List.getElem?_eq_getElem h]
  exact List.getElem_mem h
theorem mem_getD {l : List Nat} {x : Nat} (h : x ∈ l) : ∃ k, k < l.length ∧ l.getD k 0 = x := by
  obtain ⟨k, hk, e⟩ := List.getElem_of_mem h
  exact ⟨k, hk, by rw [List.getD_eq_getElem?_getD, List.getElem?_eq_getElem hk]; exact e⟩
/-- what a record shows is of its block -/
theorem Built.shown (B : Built ys bs) {b : Bk} (hb : b ∈ bs) {x : Nat} (hx : x ∈ b.2) : ys.getD x 0 ∈ b.2 := by
  obtain ⟨k, hk, rfl⟩ := mem_getD hx
  have Q := B.blk b hb
  rw [Q.sh k hk]
  exact getD_mem (by rw [Q.len]; exact form_lt _ _ (by rw [← Q.len]; exact hk))
theorem Built.edge (B : Built ys bs) {x : Nat} (hx : x < ys.length) : ys.getD x 0 < ys.length ∧ beta bs (ys.getD x 0) = beta bs x := by
  obtain ⟨b, hb, h⟩ := B.of hx
  have h2 := B.shown hb h
  exact ⟨B.lt hb h2, by rw [B.beta_of hb h, B.beta_of hb h2]⟩
end
/-! ### the labels -/
def stepL (L : List Nat) (r nm : Nat) : List Nat := if min (L.getD r 0) (L.getD nm 0) = max (L.getD r 0) (L.getD nm 0) then L else L.map fun o => if o = max (L.getD r 0) (L.getD nm 0) then min (L.getD r 0) (L.getD nm 0) else o
def lab (ys : List Nat) : Nat → List Nat
  | 0 => List.range ys.length
  | i + 1 => stepL (lab ys i) i (ys.getD i 0)
structure Lab (ys : List Nat) (bs : List Bk) (i : Nat) (L : List Nat) : Prop where
  len : L.length = ys.length
  le : ∀ x, x < ys.length → L.getD x 0 ≤ x
  fx : ∀ x, x < ys.length → L.getD (L.getD x 0) 0 = L.getD x 0
  bl : ∀ x, x < ys.length → beta bs (L.getD x 0) = beta bs x
  ed : ∀ r, r < i → r < ys.length → L.getD r 0 = L.getD (ys.getD r 0) 0
theorem getD_map {L : List Nat} {f : Nat → Nat} {x : Nat} (h : x < L.length) : (L.map f).getD x 0 = f (L.getD x 0) := by
  rw [List.getD_eq_getElem?_getD, List.getElem?_map, List.getD_eq_getElem?_getD, List.getElem?_eq_getElem h]
  rfl
theorem getD_range {n x : Nat} (h : x < n) : (List.range n).getD x 0 = x := by
  rw [List.getD_eq_getElem?_getD, List.getElem?_range h]
  rfl
theorem lab_ok {ys : List Nat} {bs : List Bk} (B : Built ys bs) : ∀ i, i ≤ ys.length → Lab ys bs i (lab ys i)
  | 0, _ => ⟨List.length_range, fun x hx => by show (List.range _).getD x 0 ≤ x; rw [getD_range hx]; exact Nat.le_refl _,
      fun x hx => by show (List.range _).getD ((List.range _).getD x 0) 0 = (List.range _).getD x 0; rw [getD_range hx, getD_range hx],
      fun x hx => by show beta bs ((List.range _).getD x 0) = _; rw [getD_range hx], fun r h => absurd h (Nat.not_lt_zero _)⟩
  | i + 1, hi => by
    have ih := lab_ok B i (by omega)
    have hin : i < ys.length := by omega
    obtain ⟨hnm, hbe⟩ := B.edge hin
    show Lab ys bs (i + 1) (stepL (lab ys i) i (ys.getD i 0))
    generalize lab ys i = L at ih
    generalize hnmE : ys.getD i 0 = nm at hnm hbe
    unfold stepL
    have a1 := ih.fx i hin
    have b1 := ih.fx nm hnm
    have a2 := ih.le i hin
    have b2 := ih.le nm hnm
    have a3 := ih.bl i hin
    have b3 := ih.bl nm hnm
    generalize ha : L.getD i 0 = a at *
    generalize hb : L.getD nm 0 = b at *
    by_cases heq : min a b = max a b
    · rw [if_pos heq]
      refine ⟨ih.len, ih.le, ih.fx, ih.bl, fun r hr hrn => ?_⟩
      by_cases h : r = i
      · rw [h, ha, hnmE, hb]
        omega
      · exact ih.ed r (by omega) hrn
    · rw [if_neg heq]
      have hlow : L.getD (min a b) 0 = min a b := by
        by_cases h : a ≤ b
        · rw [Nat.min_eq_left h]; exact a1
        · rw [Nat.min_eq_right (by omega)]; exact b1
      have hbl : beta bs (min a b) = beta bs (max a b) := by
        by_cases h : a ≤ b
        · rw [Nat.min_eq_left h, Nat.max_eq_right h, a3, b3, hbe]
        · rw [Nat.min_eq_right (by omega), Nat.max_eq_left (by omega), a3, b3, hbe]
      have at_ : ∀ x, x < ys.length → (L.map fun o => if o = max a b then min a b else o).getD x 0 = if L.getD x 0 = max a b then min a b else L.getD x 0 := fun x hx => getD_map (by rw [ih.len]; exact hx)
      have hminlt : min a b < ys.length := by omega
      refine ⟨by rw [List.length_map]; exact ih.len, fun x hx => ?_, fun x hx => ?_, fun x hx => ?_, fun r hr hrn => ?_⟩
      · rw [at_ x hx]
        have := ih.le x hx
        split <;> omega
      · rw [at_ x hx]
        by_cases h : L.getD x 0 = max a b
        · rw [if_pos h, at_ _ hminlt, hlow, if_neg heq]
        · rw [if_neg h]
          have hl := ih.le x hx
          rw [at_ _ (by omega), ih.fx x hx, if_neg h]
      · rw [at_ x hx]
        by_cases h : L.getD x 0 = max a b
        · rw [if_pos h, hbl, ← h]; exact ih.bl x hx
        · rw [if_neg h]; exact ih.bl x hx
      · rw [at_ r hrn, at_ _ (B.edge hrn).1]
        by_cases h : r = i
        · rw [h, ha, hnmE, hb]
          by_cases hab : a ≤ b
          · rw [Nat.min_eq_left hab, Nat.max_eq_right hab]
            by_cases hq : a = b <;> simp [hq]
          · rw [Nat.min_eq_right (by omega), Nat.max_eq_left (by omega)]
            by_cases hq : b = a <;> simp [hq]
        · rw [ih.ed r (by omega) hrn]
theorem conn {w : Nat} {ms : List Nat} {f : Nat → Nat} (hl : ms.length = (form w).length) (h : ∀ k, k < ms.length → f (ms.getD k 0) = f (ms.getD ((form w).getD k 0) 0)) : ∀ k, k < ms.length → f (ms.getD k 0) = f (ms.getD 0 0) := by
  unfold form at hl h
  split at hl
  all_goals (simp only [List.length_cons, List.length_nil] at hl; intro k hk)
  all_goals (have h0 := h 0 (by omega); try have h1 := h 1 (by omega))
  all_goals (try have h2 := h 2 (by omega))
  all_goals (try have h3 := h 3 (by omega))
  all_goals (rcases k with _ | _ | _ | _ | k)
  all_goals first | omega | rfl | (simp at h0 h1 h2 h3 ⊢; omega) | (simp at h0 h1 h2 ⊢; omega) | (simp at h0 h1 ⊢; omega) | (simp at h0 ⊢; omega)
end Pm

namespace Pm
inductive Cs (g : Nat → Nat) : Nat → List Nat → Prop
  | free (a) : g a = a → Cs g 0 [a]
  | pair (a b) : g a = b → g b = a → Cs g 1 [a, b]
  | claim (a b) : g a = b → g b = b → Cs g 2 [a, b]
  | hook (c a b) : g c = a → g a = b → g b = a → Cs g 3 [c, a, b]
  | relay (c a b) : g c = a → g a = b → g b = b → Cs g 4 [c, a, b]
  | clamp (d a b c) : g d = a → g a = b → g b = a → g c = b → Cs g 5 [d, a, b, c]
  | trail (d c a b) : g d = c → g c = a → g a = b → g b = a → Cs g 6 [d, c, a, b]
  | wheel (a b c d) : g a = b → g b = c → g c = d → g d = a → Cs g 7 [a, b, c, d]
theorem Blk.cs {ys : List Nat} {b : Bk} (Q : Blk ys b) : Cs (fun x => ys.getD x 0) b.1 b.2 := by
  obtain ⟨w, ms⟩ := b
  obtain ⟨hw, hl, h⟩ := Q
  dsimp only at hw hl h
  match w, hw with
  | 0, _ => match ms, hl with | [a], _ => exact .free a (by simpa [form] using h 0 (by simp))
  | 1, _ => match ms, hl with | [a, b], _ => exact .pair a b (by simpa [form] using h 0 (by simp)) (by simpa [form] using h 1 (by simp))
  | 2, _ => match ms, hl with | [a, b], _ => exact .claim a b (by simpa [form] using h 0 (by simp)) (by simpa [form] using h 1 (by simp))
  | 3, _ => match ms, hl with | [a, b, c], _ => exact .hook a b c (by simpa [form] using h 0 (by simp)) (by simpa [form] using h 1 (by simp)) (by simpa [form] using h 2 (by simp))
  | 4, _ => match ms, hl with | [a, b, c], _ => exact .relay a b c (by simpa [form] using h 0 (by simp)) (by simpa [form] using h 1 (by simp)) (by simpa [form] using h 2 (by simp))
  | 5, _ => match ms, hl with | [a, b, c, d], _ => exact .clamp a b c d (by simpa [form] using h 0 (by simp)) (by simpa [form] using h 1 (by simp)) (by simpa [form] using h 2 (by simp)) (by simpa [form] using h 3 (by simp))
  | 6, _ => match ms, hl with | [a, b, c, d], _ => exact .trail a b c d (by simpa [form] using h 0 (by simp)) (by simpa [form] using h 1 (by simp)) (by simpa [form] using h 2 (by simp)) (by simpa [form] using h 3 (by simp))
  | 7, _ => match ms, hl with | [a, b, c, d], _ => exact .wheel a b c d (by simpa [form] using h 0 (by simp)) (by simpa [form] using h 1 (by simp)) (by simpa [form] using h 2 (by simp)) (by simpa [form] using h 3 (by simp))
structure Canon (b : Bk) : Prop where
  pair : b.1 = 1 → b.2.getD 0 0 < b.2.getD 1 0
  clamp : b.1 = 5 → b.2.getD 0 0 < b.2.getD 3 0
  wheel : b.1 = 7 → b.2.getD 0 0 = mn b.2
section
variable {ys : List Nat} {bs : List Bk}
theorem lab_end (B : Built ys bs) {x : Nat} (hx : x < ys.length) : (lab ys ys.length).getD x 0 = beta bs x := by
  have Q := lab_ok B ys.length (Nat.le_refl _)
  generalize lab ys ys.length = L at Q ⊢
  obtain ⟨b, hb, hxb⟩ := B.of hx
  have P := B.blk b hb
  have cn := conn (f := fun x => L.getD x 0) P.len fun k hk => by
    show L.getD (b.2.getD k 0) 0 = _
    have hm := B.lt hb (getD_mem hk)
    rw [Q.ed _ hm hm, P.sh k hk]
  have h0 : 0 < b.2.length := List.length_pos_iff.mpr (B.ne hb)
  have same : ∀ y, y ∈ b.2 → L.getD y 0 = L.getD (b.2.getD 0 0) 0 := fun y hy => by
    obtain ⟨k, hk, rfl⟩ := mem_getD hy
    exact cn k hk
  have hmn := mn_mem (B.ne hb)
  have e1 : L.getD x 0 = L.getD (mn b.2) 0 := by rw [same x hxb, same _ hmn]
  have h1 := Q.le (mn b.2) (B.lt hb hmn)
  have h2 := Q.bl x hx
  have h3 := Q.le x hx
  have h4 := B.beta_le (x := L.getD x 0) (by omega)
  have h5 := B.beta_of hb hxb
  omega
def grp (bs : List Bk) (n m : Nat) : List Nat := (List.range n).filter fun x => decide (beta bs x = m)
def roots (bs : List Bk) (n : Nat) : List Nat := (List.range n).filter fun x => decide (beta bs x = x)
theorem nodup_filter {l : List Nat} (p : Nat → Bool) (h : l.Nodup) : (l.filter p).Nodup := h.sublist List.filter_sublist
theorem grp_nd {n m : Nat} : (grp bs n m).Nodup := nodup_filter _ List.nodup_range
theorem grp_lt {n m : Nat} : (grp bs n m).Pairwise (· < ·) := List.Pairwise.filter _ List.pairwise_lt_range
theorem Built.mem_grp (B : Built ys bs) {b : Bk} (hb : b ∈ bs) {x : Nat} : x ∈ grp bs ys.length (mn b.2) ↔ x ∈ b.2 := by
  unfold grp
  rw [List.mem_filter, List.mem_range, decide_eq_true_eq]
  constructor
  · rintro ⟨h1, h2⟩
    obtain ⟨c, hc, hx⟩ := B.of h1
    rw [B.beta_of hc hx] at h2
    have e := uniq B.nd hc hb (x := mn b.2) (by rw [← h2]; exact mn_mem (B.ne hc)) (mn_mem (B.ne hb))
    exact e ▸ hx
  · exact fun h => ⟨B.lt hb h, B.beta_of hb h⟩
theorem Built.grp_perm (B : Built ys bs) {b : Bk} (hb : b ∈ bs) : (grp bs ys.length (mn b.2)).Perm b.2 :=
  (List.perm_ext_iff_of_nodup grp_nd (nd_of B.nd hb)).mpr fun x => B.mem_grp hb
theorem Built.roots_eq (B : Built ys bs) (hs : bs.Pairwise fun a b => mn a.2 < mn b.2) : roots bs ys.length = bs.map fun b => mn b.2 := by
  have s1 : (roots bs ys.length).Pairwise (· < ·) := List.Pairwise.filter _ List.pairwise_lt_range
  have s2 : (bs.map fun b => mn b.2).Pairwise (· < ·) := List.pairwise_map.mpr hs
  refine List.Perm.eq_of_pairwise (le := (· < ·)) (fun a b _ _ h1 h2 => by omega) s1 s2 ?_
  refine (List.perm_ext_iff_of_nodup (s1.imp fun h => by omega) (s2.imp fun h => by omega)).mpr fun x => ?_
  unfold roots
  rw [List.mem_filter, List.mem_range, decide_eq_true_eq, List.mem_map]
  constructor
  · rintro ⟨h1, h2⟩
    obtain ⟨b, hb, hx⟩ := B.of h1
    exact ⟨b, hb, by rw [← h2, B.beta_of hb hx]⟩
  · rintro ⟨b, hb, rfl⟩
    exact ⟨B.lt hb (mn_mem (B.ne hb)), B.mn_beta hb⟩
/-! ### one group's row -/
def path (b : Bk) : List Nat := if b.1 = 5 then b.2.take 3 else b.2
theorem filter_one {l : List Nat} {q : Nat → Bool} {x : Nat} (nd : l.Nodup) (hx : x ∈ l) (h1 : q x = true) (h2 : ∀ y ∈ l, q y = true → y = x) : l.filter q = [x] := by
  have nd2 := nodup_filter q nd
  have m : ∀ y, y ∈ l.filter q ↔ y = x := fun y => by
    rw [List.mem_filter]
    exact ⟨fun h => h2 y h.1 h.2, fun h => by rw [h]; exact ⟨hx, h1⟩⟩
  match hl : l.filter q with
  | [] => exact absurd ((m x).mpr rfl) (by rw [hl]; simp)
  | [a] => rw [(m a).mp (by rw [hl]; simp)]
  | a :: b :: r =>
    rw [hl] at nd2 m
    have ea := (m a).mp (by simp)
    have eb := (m b).mp (by simp)
    simp [ea, eb] at nd2
theorem mn_sing {a : Nat} : mn [a] = a := rfl
/-- the walk of a form -/
structure Walks (g : Nat → Nat) (p : List Nat) : Prop where
  pos : 0 < p.length
  nd : p.Nodup
  next : ∀ j, j + 1 < p.length → g (p.getD j 0) = p.getD (j + 1) 0
  back : g (p.getD (p.length - 1) 0) ∈ p
theorem Built.walks (B : Built ys bs) {b : Bk} (hb : b ∈ bs) : Walks (fun x => ys.getD x 0) (path b) := by
  have nd := nd_of B.nd hb
  have C := (B.blk b hb).cs
  obtain ⟨w, ms⟩ := b
  dsimp only at C nd
  unfold path
  dsimp only
  generalize (fun x => ys.getD x 0) = g at C
  cases C
  all_goals (simp at nd ⊢)
  all_goals (refine ⟨by simp, by simp; try simp [nd], fun j hj => ?_, by simp [*]⟩)
  all_goals (rcases j with _ | _ | _ | _ | j)
  all_goals first | (simp at hj; done) | (simp [*]; done) | (simp at hj ⊢; omega) | skip
theorem Built.left (B : Built ys bs) {b : Bk} (hb : b ∈ bs) : path b ++ (grp bs ys.length (mn b.2)).filter (fun x => !(path b).contains x) = b.2 := by
  have nd := nd_of B.nd hb
  have C := (B.blk b hb).cs
  have M : ∀ x, x ∈ grp bs ys.length (mn b.2) ↔ x ∈ b.2 := fun x => B.mem_grp hb
  have N : (grp bs ys.length (mn b.2)).Nodup := grp_nd
  generalize grp bs ys.length (mn b.2) = l at M N
  by_cases h5 : b.1 = 5
  · obtain ⟨w, ms⟩ := b
    dsimp only at h5 C nd M ⊢
    subst h5
    cases C
    rename_i d a b c h1 h2 h3 h4
    unfold path
    simp at nd ⊢
    rw [filter_one (x := c) N (by rw [M]; simp) (by simp; omega) fun y hy hq => ?_]
    rw [M] at hy
    simp at hy hq
    omega
  · unfold path
    rw [if_neg h5]
    have e : l.filter (fun x => !b.2.contains x) = [] := by
      rw [List.filter_eq_nil_iff]
      intro x hx
      have := (M x).mp hx
      simp [this]
    rw [e, List.append_nil]
/-- where the walk starts: at the first record that no other of the group shows, or at the first one -/
theorem Built.start (B : Built ys bs) {b : Bk} (hb : b ∈ bs) (K : Canon b) (T : List Nat)
    (hT : T = (grp bs ys.length (mn b.2)).filter (fun x => !((grp bs ys.length (mn b.2)).map fun y => ys.getD y 0).contains x)) :
    (T = [] → (grp bs ys.length (mn b.2)).head? = some (b.2.getD 0 0)) ∧ (T ≠ [] → T.head? = some (b.2.getD 0 0)) := by
  have nd := nd_of B.nd hb
  have C := (B.blk b hb).cs
  have M : ∀ x, x ∈ grp bs ys.length (mn b.2) ↔ x ∈ b.2 := fun x => B.mem_grp hb
  have sh : ∀ x, ((grp bs ys.length (mn b.2)).map fun y => ys.getD y 0).contains x = (b.2.map fun y => ys.getD y 0).contains x := fun x => by
    rw [Bool.eq_iff_iff, List.contains_iff_mem, List.contains_iff_mem, List.mem_map, List.mem_map]
    exact ⟨fun ⟨y, hy, e⟩ => ⟨y, (M y).mp hy, e⟩, fun ⟨y, hy, e⟩ => ⟨y, (M y).mpr hy, e⟩⟩
  have hT2 : T = (List.range ys.length).filter fun x => decide (beta bs x = mn b.2) && !(b.2.map fun y => ys.getD y 0).contains x := by
    rw [hT]
    unfold grp
    rw [List.filter_filter]
    refine List.filter_congr fun x hx => ?_
    have := sh x
    unfold grp at this
    rw [this, Bool.and_comm]
  have inB : ∀ x, x < ys.length → (decide (beta bs x = mn b.2) = true ↔ x ∈ b.2) := fun x hx => by
    rw [← M x]
    unfold grp
    rw [List.mem_filter, List.mem_range]
    exact ⟨fun h => ⟨hx, h⟩, fun h => h.2⟩
  have root : b.2.getD 0 0 = mn b.2 → (grp bs ys.length (mn b.2)).head? = some (b.2.getD 0 0) := fun e => by
    unfold grp
    rw [List.head?_filter, List.find?_range_eq_some, e]
    refine ⟨by rw [decide_eq_true_eq]; exact B.mn_beta hb, List.mem_range.mpr (B.lt hb (mn_mem (B.ne hb))), fun j hj => ?_⟩
    have hjn : j < ys.length := Nat.lt_trans hj (B.lt hb (mn_mem (B.ne hb)))
    have := B.beta_le hjn
    simp
    omega
  have tail : ∀ m0 : Nat, m0 ∈ b.2 → (b.2.map fun y => ys.getD y 0).contains m0 = false → (∀ j, j < m0 → j ∈ b.2 → (b.2.map fun y => ys.getD y 0).contains j = true) → T.head? = some m0 := fun m0 h1 h2 h3 => by
    rw [hT2, List.head?_filter, List.find?_range_eq_some]
    refine ⟨by rw [h2, (inB m0 (B.lt hb h1)).mpr h1]; rfl, List.mem_range.mpr (B.lt hb h1), fun j hj => ?_⟩
    have hjn : j < ys.length := Nat.lt_trans hj (B.lt hb h1)
    by_cases hjb : j ∈ b.2
    · rw [h3 j hj hjb]
      simp
    · have : decide (beta bs j = mn b.2) = false := by
        cases h : decide (beta bs j = mn b.2) with
        | false => rfl
        | true => exact absurd ((inB j hjn).mp h) hjb
      rw [this]
      rfl
  have none : (∀ x ∈ b.2, (b.2.map fun y => ys.getD y 0).contains x = true) → T = [] := fun h => by
    rw [hT2, List.filter_eq_nil_iff]
    intro x hx
    have hxn := List.mem_range.mp hx
    by_cases hxb : x ∈ b.2
    · rw [h x hxb]
      simp
    · intro z
      rw [Bool.and_eq_true] at z
      exact hxb ((inB x hxn).mp z.1)
  obtain ⟨w, ms⟩ := b
  dsimp only at *
  generalize hg : (fun y => ys.getD y 0) = g at C tail none
  clear hT hT2 sh
  cases C with
  | free a h1 =>
    have t := none (by simp [h1])
    exact ⟨fun _ => root rfl, fun h => absurd t h⟩
  | pair a b h1 h2 =>
    have t := none (by simp [h1, h2])
    have := K.pair rfl
    simp at this
    exact ⟨fun _ => root (by simp [mn]; omega), fun h => absurd t h⟩
  | wheel a b c d h1 h2 h3 h4 =>
    have t := none (by simp [h1, h2, h3, h4])
    exact ⟨fun _ => root (K.wheel rfl), fun h => absurd t h⟩
  | claim a b h1 h2 =>
    simp at nd
    have t := tail a (by simp) (by simp [h1, h2]; omega) (fun j hj hm => by simp at hm; simp [h1, h2]; omega)
    exact ⟨fun h => (by rw [h] at t; simp at t), fun _ => t⟩
  | hook c a b h1 h2 h3 =>
    simp at nd
    have t := tail c (by simp) (by simp [h1, h2, h3]; omega) (fun j hj hm => by simp at hm; simp [h1, h2, h3]; omega)
    exact ⟨fun h => (by rw [h] at t; simp at t), fun _ => t⟩
  | relay c a b h1 h2 h3 =>
    simp at nd
    have t := tail c (by simp) (by simp [h1, h2, h3]; omega) (fun j hj hm => by simp at hm; simp [h1, h2, h3]; omega)
    exact ⟨fun h => (by rw [h] at t; simp at t), fun _ => t⟩
  | clamp d a b c h1 h2 h3 h4 =>
    simp at nd
    have kk := K.clamp rfl
    simp at kk
    have t := tail d (by simp) (by simp [h1, h2, h3, h4]; omega) (fun j hj hm => by simp at hm; simp [h1, h2, h3, h4]; omega)
    exact ⟨fun h => (by rw [h] at t; simp at t), fun _ => t⟩
  | trail d c a b h1 h2 h3 h4 =>
    simp at nd
    have t := tail d (by simp) (by simp [h1, h2, h3, h4]; omega) (fun j hj hm => by simp at hm; simp [h1, h2, h3, h4]; omega)
    exact ⟨fun h => (by rw [h] at t; simp at t), fun _ => t⟩
end
end Pm

namespace L2
open PySem PySem.Spec PyProof.Rows
/-! ### a table of the text keyed by tuples of ints -/
def numK (ks : List Nat) : NestedKey := .tup (ks.map fun k : Nat => NestedKey.num (k : Int))
/-- at a, in the written part: a table of the given keys and texts -/
def TabK (P : Program) (w : World) (K : PySem.W.Frag) (a : Addr) (kvs : List (List Nat × Str)) : Prop := (a == sysModules) = false ∧
  ∃ ts : List Tok, ∀ h : Heap, K.In h → h.DictKeyed (nestedKind P w) a ((kvs.zip ts).map fun x => (numK x.1.1, Value.str x.1.2 x.2)) ∧ ts.length = kvs.length
theorem numK_depth : ∀ ks : List Nat, (numK ks).depth ≤ 8 := fun ks => by
  have h : ∀ l : List Nat, NestedKey.depthAll (l.map fun k : Nat => NestedKey.num (k : Int)) ≤ 1 := fun l => by
    induction l with
    | nil => simp [NestedKey.depthAll]
    | cons a l ih =>
      simp only [List.map_cons, NestedKey.depthAll, NestedKey.depth]
      omega
  have := h ks
  unfold numK
  simp only [NestedKey.depth]
  omega
theorem numAll_of {h : Heap} : ∀ {ks : List Nat} {us : List Value}, Vals (ks.map fun k : Nat => V.int (k : Int)) us → NestedAll h (ks.map fun k : Nat => NestedKey.num (k : Int)) us
  | [], _, r => by cases r; exact .nil
  | k :: ks, _, r => by
    cases r with
    | cons r1 r2 =>
      obtain ⟨t, e⟩ := r1
      rw [e]
      exact .cons (.int _ t) (numAll_of r2)
/-- d.get(t) of such a table, the key there -/
def tTabGet (P : Program) (w : World) (K : PySem.W.Frag) (td te : TE) : TE := fun σ H Q => td σ H fun x H1 => ∃ (a : Addr) (kvs : List (List Nat × Str)), x = .ref a ∧ TabK P w K a kvs ∧ te σ H1 fun y H2 => ∃ (p : Addr) (ks : List Nat) (z : Str), y = .ref p ∧ H2 p = some (.tup (ks.map fun k : Nat => V.int (k : Int))) ∧
  (∃ i, kvs[i]? = some (ks, z) ∧ ∀ (j : Nat) (q : List Nat × Str), j < i → kvs[j]? = some q → q.1 ≠ ks) ∧ Q (.str z) H2
theorem numK_inj {a b : List Nat} (h : numK a = numK b) : a = b := by
  unfold numK at h
  injection h with h
  have g : ∀ {l m : List Nat}, (l.map fun k : Nat => NestedKey.num (k : Int)) = (m.map fun k : Nat => NestedKey.num (k : Int)) → l = m := by
    intro l
    induction l with
    | nil =>
      intro m e
      cases m with
      | nil => rfl
      | cons _ _ => cases e
    | cons a l ih =>
      intro m e
      cases m with
      | nil => cases e
      | cons b m =>
        rw [List.map_cons, List.map_cons] at e
        injection e with e1 e2
        injection e1 with e1
        have : a = b := by omega
        rw [this, ih e2]
  exact g h
theorem tab_find {ks : List Nat} {z : Str} : ∀ {kvs : List (List Nat × Str)} {ts : List Tok} {i : Nat}, ts.length = kvs.length → kvs[i]? = some (ks, z) → (∀ (j : Nat) (q : List Nat × Str), j < i → kvs[j]? = some q → q.1 ≠ ks) →
    ∃ t : Tok, valueAt ((kvs.zip ts).map fun x => (numK x.1.1, Value.str x.1.2 x.2)) (numK ks) = some (Value.str z t)
  | [], _, i, _, h, _ => by simp at h
  | _ :: _, [], _, hl, _, _ => by simp at hl
  | (k0, z0) :: kvs, t0 :: ts, 0, _, h, _ => by
    have e := Option.some.inj h
    cases e
    exact ⟨t0, by simp [valueAt]⟩
  | (k0, z0) :: kvs, t0 :: ts, i + 1, hl, h, hn => by
    have ne : k0 ≠ ks := hn 0 (k0, z0) (Nat.succ_pos _) rfl
    have ne2 : ¬ numK k0 = numK ks := fun e => ne (numK_inj e)
    obtain ⟨t, e⟩ := tab_find (ks := ks) (z := z) (kvs := kvs) (ts := ts) (i := i) (by simpa using hl) (by simpa using h) fun j q hj hq => hn (j + 1) q (by omega) (by simpa using hq)
    refine ⟨t, ?_⟩
    unfold valueAt at e ⊢
    rw [List.zip_cons_cons, List.map_cons, List.find?_cons_of_neg (by simpa using ne2)]
    exact e
theorem pe_tabGet {X : Cx} {o e : Expr} {td te : TE} {apos cpos : Pos} (hu : X.A.units + 64 < cLine) (ho : PE X o td) (he : PE X e te) (m : M1 X o "get" apos e cpos) : PE X (.Call (.Attribute o "get" apos) [e] [] cpos) (tTabGet X.prog X.w X.K td te) := by
  refine ⟨fun pins s σ H Q I h => ?_⟩
  refine wpAny_Call_method m.base m.few m.line PySem.F.plainAttrs_dict PySem.F.slot_dict_get PySem.F.type_dict_get (thn (ho.run pins s σ H _ I h) fun u s1 ⟨x, H1, I1, rx, a, kvs, ex, ⟨hsm, ts, hT⟩, q1⟩ => ?_)
  subst ex
  obtain rfl : u = Value.ref a := rx
  obtain ⟨hD, _⟩ := hT _ I1.kIn
  have hD' := hD
  obtain ⟨xs, ⟨ob, es, ep, hob, hcl, hdat, _⟩, _⟩ := hD'
  refine ⟨hD.typeIs, fun b q => by cases q; exact ⟨ob, hob, hcl.2.1⟩, ?_⟩
  rw [m.trees]
  refine Calls.callWith_builtin rfl (Calls.evalArgs_plain (Calls.spliced_cons (thn (he.run pins s1 σ H1 _ I1 q1) fun iv s2 ⟨y, H2, I2, ry, p, ks, z, ey, hp, ⟨i, hi, hlt⟩, q2⟩ => Calls.spliced_nil ?_)))
  subst ey
  obtain rfl : iv = Value.ref p := ry
  obtain ⟨_, its, rv, ot, h1, h2, n, h3⟩ := (show ObjOk X.prog X.w H2 s2.heap p (.tup (ks.map fun k : Nat => V.int (k : Int))) from I2.hok p _ hp)
  obtain ⟨hD2, hlen⟩ := hT _ I2.kIn
  obtain ⟨t, ht⟩ := tab_find hlen hi hlt
  have hk : (nestedKind X.prog X.w).is s2.heap (numK ks) p := ⟨.tup h1 h2 h3 (by simpa using numAll_of (h := s2.heap) rv), numK_depth ks⟩
  refine get_keyed (knd := nestedKind X.prog X.w) (show X.A.in1.units + 8 < cLine by show X.A.units + 1 + 8 < cLine; omega) hk hsm hD2 ?_
  rw [ht]
  exact ⟨.str z, H2, I2.tok _, ⟨t, rfl⟩, q2⟩
/-! ### list(d.values()), list(d.keys()) -/
def tListVals (te : TE) : TE := fun σ H Q => te σ H fun x H1 => ∃ (d : Addr) (kvs : List (Key × V)), x = .ref d ∧ H1 d = some (.dK kvs) ∧ ∀ p, H1 p = none → Q (.ref p) (upd H1 p (.lst (kvs.map (·.2))))
def tListKeys (te : TE) : TE := fun σ H Q => te σ H fun x H1 => ∃ (d : Addr) (kvs : List (Key × V)), x = .ref d ∧ H1 d = some (.dK kvs) ∧ ∀ p, H1 p = none → Q (.ref p) (upd H1 p (.lst (kvs.map fun kv => kV kv.1)))
theorem vals_items {P : Nat → Value → Prop} : ∀ {xs : List V} {us : List Value} (k : Nat), us.length = xs.length → (∀ j v, us[j]? = some v → P (k + j) v) → (∀ j x v, xs[j]? = some x → P (k + j) v → RelV x v) → Vals xs us
  | [], [], _, _, _, _ => .nil
  | [], _ :: _, _, h, _, _ => by simp at h
  | _ :: _, [], _, h, _, _ => by simp at h
  | x :: xs, u :: us, k, h, h1, h2 => .cons (h2 0 x u rfl (h1 0 u rfl)) (vals_items (P := P) (k + 1) (by simpa using h) (fun j v e => by
      have := h1 (j + 1) v (by simpa using e)
      rw [show k + (j + 1) = k + 1 + j by omega] at this
      exact this) fun j y v e p => h2 (j + 1) y v (by simpa using e) (by rw [show k + (j + 1) = k + 1 + j by omega]; exact p))
section
variable {X : Cx} {e : Expr} {te : TE} {p apos cpos pos : Pos}
theorem pe_listVals (hc : X.calm = true) (he : PE X e te) (hg : Gl X "list") (hm : X.mg "list" = none) (hbase : attributeBase e "values" X.env (eval e X.env) = eval e X.env := by rfl) (hline : (apos.endLine == cpos.line) = true := by rfl)
    (hs : starEach [.Call (.Attribute e "values" apos) [] [] cpos] X.env = (false, eval (.Call (.Attribute e "values" apos) [] [] cpos) X.env) :: starEach [] X.env := by rfl) :
    PE X (.Call (.Name "list" p) [.Call (.Attribute e "values" apos) [] [] cpos] [] pos) (tListVals te) := by
  refine ⟨fun pins s σ H Q I hq => ?_⟩
  refine wpAny_Call_Name_kw (ld_blt I hg hm (by decide +kernel : bootBuiltins "list" = some (.type "list")) ?_)
  refine PyProof.Rows.callWith_type1 ?_ hs rfl
  rw [hs]
  show wpAny _ _ (spliced ((false, eval (.Call (.Attribute e "values" apos) [] [] cpos) X.env) :: backTo pos (starEach [] X.env))) _ _ s
  refine Calls.spliced_cons ?_
  refine wpAny_Call_method (T := "dict") (id := "dict.values") hbase rfl hline F.plainAttrs_dict F.slot_dict_values F.type_dict_values (thn (he.run pins s σ H _ I hq) fun u s1 ⟨x, H1, I1, rx, d, kvs, ex, hd, q⟩ => ?_)
  subst ex
  obtain rfl : u = Value.ref d := rx
  obtain ⟨hz, hs0, vs, kv, hdo⟩ := I1.hok d _ hd
  obtain ⟨ep, hat⟩ := hdo.dictAt
  have lk : kvs.length = vs.length := Paired.length kv
  refine ⟨hdo.typeIs, hdo.mapOf.noDict, ?_⟩
  show wpAny _ _ (callWith cpos (.builtin "dict.values") [.ref d] [] []) _ X.xe s1
  refine method_meetsIn F.slot_dict_values F.entry_dict_values rfl (PySem.evalArgs_none ⟨rfl, hdo.typeIs, F.args_dict_values_1 _, _, meets_dict_values (mixKind X.prog X.w) d hs0, ⟨vs, hdo⟩, ?_⟩)
  refine Calls.spliced_nil ?_
  refine PySem.W.kdl_call (PySem.W.kdl_values (knd := mixKind X.prog X.w) (kvs := vs) (ep := ep) (r := s1.heap.objs.size)) (I1.ok.hd hc) ⟨⟨_, Heap.get?_push_size _ rfl, rfl, rfl⟩, hat.push _⟩ (by omega) fun h' tk acc c hk hS hI => ?_
  have keep : ∀ b o, s1.heap.get? b = some o → h'.get? b = some o := fun b o z => hk b o (Heap.get?_push_of_some _ z)
  have hl : acc.toList.length = (kvs.map (·.2)).length := by rw [Array.length_toList, List.length_map, hI.1]; omega
  have rv : Vals (kvs.map (·.2)) acc.toList := vals_items (P := fun i v => ∃ k, vs[i]? = some (k, v)) 0 hl (fun j v z => by rw [Nat.zero_add]; exact hI.2 j v (by rw [← Array.getElem?_toList]; exact z)) fun j y v z ⟨k, w'⟩ => by
    rw [Nat.zero_add] at w'
    obtain ⟨q0, g1, g2⟩ : ∃ q0, kvs[j]? = some q0 ∧ y = q0.2 := by
      rw [List.getElem?_map] at z
      cases h : kvs[j]? with
      | none => rw [h] at z; cases z
      | some q0 => rw [h] at z; exact ⟨q0, rfl, (Option.some.inj z).symm⟩
    obtain ⟨pk, e2, e3⟩ := LiI.paired_get kv g1
    rw [w'] at e2
    cases e2
    rw [g2]
    exact e3.2
  refine ⟨.ref _, upd H1 _ (.lst (kvs.map (·.2))), I1.laid (t' := tk) keep (Nat.le_succ _ |> fun z => by rw [Heap.size_push]; exact z) ⟨by rw [List.length_map]; omega, acc.toList, c, rv, by simpa using hS⟩, rfl, q _ (I1.hok.fresh (by rw [Heap.size_push]; exact Nat.le_succ _))⟩
theorem pe_listKeys (hc : X.calm = true) (he : PE X e te) (hg : Gl X "list") (hm : X.mg "list" = none) (hbase : attributeBase e "keys" X.env (eval e X.env) = eval e X.env := by rfl) (hline : (apos.endLine == cpos.line) = true := by rfl)
    (hs : starEach [.Call (.Attribute e "keys" apos) [] [] cpos] X.env = (false, eval (.Call (.Attribute e "keys" apos) [] [] cpos) X.env) :: starEach [] X.env := by rfl) :
    PE X (.Call (.Name "list" p) [.Call (.Attribute e "keys" apos) [] [] cpos] [] pos) (tListKeys te) := by
  refine ⟨fun pins s σ H Q I hq => ?_⟩
  refine wpAny_Call_Name_kw (ld_blt I hg hm (by decide +kernel : bootBuiltins "list" = some (.type "list")) ?_)
  refine PyProof.Rows.callWith_type1 ?_ hs rfl
  rw [hs]
  show wpAny _ _ (spliced ((false, eval (.Call (.Attribute e "keys" apos) [] [] cpos) X.env) :: backTo pos (starEach [] X.env))) _ _ s
  refine Calls.spliced_cons ?_
  refine wpAny_Call_method (T := "dict") (id := "dict.keys") hbase rfl hline F.plainAttrs_dict F.slot_dict_keys F.type_dict_keys (thn (he.run pins s σ H _ I hq) fun u s1 ⟨x, H1, I1, rx, d, kvs, ex, hd, q⟩ => ?_)
  subst ex
  obtain rfl : u = Value.ref d := rx
  obtain ⟨hz, hs0, vs, kv, hdo⟩ := I1.hok d _ hd
  obtain ⟨ep, hat⟩ := hdo.dictAt
  have lk : kvs.length = vs.length := Paired.length kv
  refine ⟨hdo.typeIs, hdo.mapOf.noDict, ?_⟩
  show wpAny _ _ (callWith cpos (.builtin "dict.keys") [.ref d] [] []) _ X.xe s1
  refine method_meetsIn F.slot_dict_keys F.entry_dict_keys rfl (PySem.evalArgs_none ⟨rfl, hdo.typeIs, F.args_dict_keys_1 _, _, PySem.W.kdl_meets_keys (mixKind X.prog X.w) d hs0, ⟨vs, hdo⟩, ?_⟩)
  refine Calls.spliced_nil ?_
  refine PySem.W.kdl_call (PySem.W.kdl_keys (knd := mixKind X.prog X.w) (kvs := vs) (ep := ep) (r := s1.heap.objs.size)) (I1.ok.hd hc) ⟨⟨_, Heap.get?_push_size _ rfl, rfl, rfl⟩, hat.push _⟩ (by omega) fun h' tk acc c hk hS hI => ?_
  have keep : ∀ b o, s1.heap.get? b = some o → h'.get? b = some o := fun b o z => hk b o (Heap.get?_push_of_some _ z)
  have hl : acc.toList.length = (kvs.map fun kv => kV kv.1).length := by rw [Array.length_toList, List.length_map, hI.1]; omega
  have rv : Vals (kvs.map fun kv => kV kv.1) acc.toList := vals_items (P := fun i v => ∃ k x, vs[i]? = some (k, x) ∧ (mixKind X.prog X.w).is k v = true) 0 hl (fun j v z => by rw [Nat.zero_add]; exact hI.2 j v (by rw [← Array.getElem?_toList]; exact z)) fun j y v z ⟨k, x, w', w2⟩ => by
    rw [Nat.zero_add] at w'
    obtain ⟨q0, g1, g2⟩ : ∃ q0, kvs[j]? = some q0 ∧ y = kV q0.1 := by
      rw [List.getElem?_map] at z
      cases h : kvs[j]? with
      | none => rw [h] at z; cases z
      | some q0 => rw [h] at z; exact ⟨q0, rfl, (Option.some.inj z).symm⟩
    obtain ⟨pk, e2, e3⟩ := LiI.paired_get kv g1
    rw [w'] at e2
    cases e2
    rw [g2]
    rw [e3.1]
    exact relV_key (show keyIs k v = true from w2)
  refine ⟨.ref _, upd H1 _ (.lst (kvs.map fun kv => kV kv.1)), I1.laid (t' := tk) keep (Nat.le_succ _ |> fun z => by rw [Heap.size_push]; exact z) ⟨by rw [List.length_map]; omega, acc.toList, c, rv, by simpa using hS⟩, rfl, q _ (I1.hok.fresh (by rw [Heap.size_push]; exact Nat.le_succ _))⟩
end
end L2

namespace SrtO
open PySem PyProof.Rows PySem.W
/-- a tuple of two ints and an object -/
def IsRow (h : Heap) (v : Value) (x : Int) : Prop := ∃ a o t y u c n, v = .ref a ∧ h.get? a = some o ∧ o.cls = .type "tuple" ∧ o.data = .seq #[.int x t, .int y u, .ref c] n
theorem IsRow.keeps {h h' : Heap} {v : Value} {x : Int} (p : IsRow h v x) (k : ∀ b o, h.get? b = some o → o.cls = .type "tuple" → h'.get? b = some o) : IsRow h' v x := by
  obtain ⟨a, o, t, y, u, c, n, e, ho, hc, hd⟩ := p
  exact ⟨a, o, t, y, u, c, n, e, k _ _ ho hc, hc, hd⟩
theorem row_firsts {h : Heap} : ∀ {vs : List Value}, (∀ v ∈ vs, ∃ x, IsRow h v x) → ∃ fs : List Value, PySem.W.KatTups h vs fs ∧ fs.length = vs.length ∧ ∀ f ∈ fs, ∃ x t, f = Value.int x t
  | [], _ => ⟨[], PySem.W.KatTups.nil, rfl, fun _ hm => by simp at hm⟩
  | v :: vs, hv => by
    obtain ⟨fs, h1, h2, h3⟩ := row_firsts (h := h) (vs := vs) fun w hw => hv w (List.mem_cons_of_mem _ hw)
    obtain ⟨x, a, o, t, y, u, c, n, e, ho, hc, hd⟩ := hv v List.mem_cons_self
    subst e
    refine ⟨.int x t :: fs, .cons ho hc hd rfl h1, by simp [h2], fun f hf => ?_⟩
    rcases List.mem_cons.mp hf with e | hf
    · exact ⟨x, t, e⟩
    · exact h3 f hf
theorem swo_key (k : Value → Int) : Swo fun v u => decide (k v < k u) := by
  refine ⟨fun x y h => ?_, fun x y z h1 h2 => ?_⟩
  · have a := of_decide_eq_true h
    exact decide_eq_false (by omega)
  · have a := of_decide_eq_false h1
    have b := of_decide_eq_false h2
    exact decide_eq_false (by omega)
section
variable {prog : Program} {w : World} {A : Around} {E : Value → Shared → Prop} {s : Shared}
theorem row_cmp {vs : List Value} {k : Value → Int} (hp : ∀ v ∈ vs, IsRow s.heap v (k v)) (hi : ∀ v ∈ vs, ∀ u ∈ vs, k v = k u → v = u) : Cmp prog w A s (tuples' true) (fun p => p.1 ∈ vs) (lt2 fun v u => decide (k v < k u)) := by
  intro p q hm hm'
  have h1 := hp _ hm
  have h2 := hp _ hm'
  have h3 := hi _ hm _ hm'
  show wpAny (model prog w) A (keyLt' (tuples' true) p.1 q.1) (fun r s' => s' = s ∧ r = decide (k p.1 < k q.1)) (fun _ _ => False) s
  generalize k p.1 = x at h1 h3 ⊢
  generalize k q.1 = x' at h2 h3 ⊢
  obtain ⟨a, o, t, y, u, c, n, e, ho, hc, hd⟩ := h1
  obtain ⟨a', o', t', y', u', c', n', e', ho', hc', hd'⟩ := h2
  rw [e, e'] at h3 ⊢
  refine PySem.W.kat_lt ho hd ho' hd' ?_
  show PySem.W.KatLex prog w A true (decide (3 < 3)) _ [(.int x t, .int x' t'), (.int y u, .int y' u'), (.ref c, .ref c')] 0 s
  refine PySem.W.kat_cons (SeqAt.EqAt.int_int x t x' t' prog w _ _ ?_)
  refine PySem.W.kat_go (fun e1 => ?_) (fun e1 => ?_)
  · have ex : x = x' := by simpa using e1
    have ea : a = a' := Value.ref.inj (h3 ex)
    subst ea
    rw [ho] at ho'
    have eo := Option.some.inj ho'
    subst eo
    rw [hd] at hd'
    injection hd' with ed _
    have ey : y = y' := by
      have z := congrArg (fun a : Array Value => a[1]?) ed
      simp at z
      exact z.1
    have ec : c = c' := by
      have z := congrArg (fun a : Array Value => a[2]?) ed
      simpa using z
    subst ec
    refine PySem.W.kat_yes (PySem.W.kat_cons (SeqAt.EqAt.int_int y u y' u' prog w _ _ ?_))
    refine PySem.W.kat_go (fun e2 => ?_) (fun e2 => ?_)
    · refine PySem.W.kat_yes (PySem.W.kat_cons (SeqAt.EqAt.same (.ref c) prog w _ _ ?_))
      refine PySem.W.kat_go (fun _ => ?_) (fun z => nomatch z)
      refine PySem.W.kat_yes (PySem.W.kat_nil ⟨rfl, ?_⟩)
      rw [ex]
      exact (decide_eq_false (by omega)).symm
    · exact absurd ey (by simpa using e2)
  · have ex : ¬ x = x' := by simpa using e1
    exact PySem.W.kat_no (oneLt_int ⟨rfl, rfl⟩)
theorem rows_sortableO {a : Addr} {vs : List Value} {k : Value → Int} (h0 : 0 < vs.length) (hp : ∀ v ∈ vs, IsRow s.heap v (k v)) (hi : ∀ v ∈ vs, ∀ u ∈ vs, k v = k u → v = u) (ha : ∀ o, s.heap.get? a = some o → o.cls ≠ .type "tuple") : SortableO prog w A s a vs fun v u => decide (k v < k u) := by
  intro h' keep
  have hp' : ∀ v ∈ vs, IsRow h' v (k v) := fun v hm => (hp v hm).keeps fun b o e c => keep b o (fun z => by subst z; exact ha o e c) e
  obtain ⟨fs, h1, h2, h3⟩ := row_firsts fun v hm => ⟨_, hp' v hm⟩
  refine ⟨tuples' true, fun Q E hq => ?_, row_cmp hp' hi⟩
  refine PySem.W.kat_kind (T := .type "int") h1 (by omega) (fun f hm => ?_) (by rfl) ?_
  · obtain ⟨x, t, rfl⟩ := h3 f hm
    exact PySem.W.Looks.now
  · have e : (Value.type "int" != Value.type "tuple") = true := by first | decide +kernel | rfl | decide
    rw [e]
    exact hq
theorem sorted_rowsO {l : Addr} {vs : List Value} {k : Value → Int} {Q : Value → Shared → Prop} (hl : s.heap.IsList l vs.toArray) (hz : vs.length ≤ sizeLine) (hp : ∀ v ∈ vs, IsRow s.heap v (k v)) (hi : ∀ v ∈ vs, ∀ u ∈ vs, k v = k u → v = u)
    (h : ∀ (h' : Heap) (d : Addr) (out : List Value), Srtd (fun v u => decide (k v < k u)) out → Stb (fun v u => decide (k v < k u)) out vs → (∀ b o, s.heap.get? b = some o → h'.get? b = some o) → s.heap.objs.size ≤ d → (∃ n, h'.get? d = some (seqObj "list" out.toArray n)) → Q (.ref d) { s with heap := h' }) :
    wpAny (model prog w) A (call (.builtin "sorted") [.ref l]) Q E s := by
  refine sorted_ord (swo_key k) hl hz (fun h2 h₁ a ha kk => ?_) fun out hs hb => ?_
  · refine rows_sortableO (s := { s with heap := h₁ }) (by omega) (fun v hm => (hp v hm).keeps fun b o e _ => (kk b o e).2) hi fun o e => ?_
    have e' : some o = some (seqObj "list" vs.toArray 0) := e.symm.trans ha
    cases e'
    intro c
    exact absurd (Value.type.inj c) (by decide)
  · exact h _ _ out hs hb (fun b o e => sortedAll_old e) (Nat.le_succ _) (sortedAll_at s.heap vs out.toArray)
end
end SrtO
namespace L2
open PySem PySem.Spec PyProof.Rows
def rSortedR (K : PySem.W.Frag) : List V → Hp → VK → Prop := fun vs H Q => ∃ (a : Addr) (rs : List Addr) (k : Addr → Int), vs = [V.ref a] ∧ SqL K H a (rs.map V.ref) ∧ (∀ r ∈ rs, ∃ (y : Int) (c : Addr), H r = some (.tup [.int (k r), .int y, .ref c])) ∧
  (∀ r ∈ rs, ∀ r' ∈ rs, k r = k r' → r = r') ∧ ∀ (rs' : List Addr) (p : Addr), rs'.Perm rs → rs'.Pairwise (fun a b => k a ≤ k b) → H p = none → Q (.ref p) (upd H p (.lst (rs'.map V.ref)))
theorem vals_refs_eq : ∀ {rs : List Addr} {us : List Value}, Vals (rs.map V.ref) us → us = rs.map Value.ref
  | [], _, r => by cases r; rfl
  | a :: rs, _, r => by
    cases r with
    | cons r1 r2 =>
      rw [vals_refs_eq r2]
      cases r1
      rfl
def addrV : Value → Addr
  | .ref a => a
  | _ => 0
theorem cr_sortedR {X : Cx} : CallR X (.builtin "sorted") (rSortedR X.K) := by
  intro pins s σ H vs us Q I r h
  obtain ⟨a, rs, k, rfl, hs, hx, hi, q⟩ := h
  obtain ⟨its, rv, hl, hz⟩ := I.list hs
  obtain ⟨u, rfl, ru⟩ := vals1 r
  obtain rfl : u = Value.ref a := ru
  have ei := vals_refs_eq rv
  subst ei
  refine SrtO.sorted_rowsO (k := fun u => k (addrV u)) hl.isList (by rw [List.length_map] at *; exact hz) (fun v hv => ?_) (fun v hv u hu e => ?_) fun h' d out h1 h2 kp hd hn => ?_
  · obtain ⟨t, ht, rfl⟩ := List.mem_map.mp hv
    obtain ⟨y, c, e⟩ := hx t ht
    obtain ⟨_, its2, r2, o, ho, hc, n, hdt⟩ := (show ObjOk X.prog X.w H s.heap t (.tup [.int (k t), .int y, .ref c]) from I.hok _ _ e)
    cases r2 with
    | cons a1 r2 =>
      cases r2 with
      | cons a2 r2 =>
        cases r2 with
        | cons a3 r2 =>
          cases r2
          obtain ⟨t1, rfl⟩ := a1
          obtain ⟨t2, rfl⟩ := a2
          cases a3
          exact ⟨t, o, t1, y, t2, c, n, rfl, ho, hc, hdt⟩
  · obtain ⟨t, ht, rfl⟩ := List.mem_map.mp hv
    obtain ⟨t', ht', rfl⟩ := List.mem_map.mp hu
    rw [hi t ht t' ht' e]
  · obtain ⟨n, hn⟩ := hn
    have hp := h2.perm
    have eo : out = (out.map addrV).map Value.ref := by
      rw [List.map_map]
      have : ∀ u ∈ out, Value.ref (addrV u) = u := fun u hu => by
        obtain ⟨t, _, rfl⟩ := List.mem_map.mp (hp.mem_iff.mp hu)
        rfl
      conv => lhs; rw [← List.map_id out]
      exact List.map_congr_left fun u hu => (this u hu).symm
    have hp2 : (out.map addrV).Perm rs := by
      have z := hp.map addrV
      rw [List.map_map] at z
      have id : (rs.map (addrV ∘ Value.ref)) = rs := by
        conv => rhs; rw [← List.map_id rs]
        rfl
      rw [id] at z
      exact z
    have hs2 : (out.map addrV).Pairwise (fun a b => k a ≤ k b) := by
      rw [List.pairwise_map]
      refine List.Pairwise.imp (fun {a b} h => ?_) h1
      have := of_decide_eq_false h
      omega
    refine ⟨.ref d, upd H d (.lst ((out.map addrV).map V.ref)), I.laid (t' := s.toks) kp hd ⟨?_, out, n, ?_, hn⟩, rfl, q _ d hp2 hs2 (I.hok.fresh hd)⟩
    · rw [List.length_map, hp2.length_eq]
      rw [List.length_map] at hz
      exact hz
    · rw [eo]
      have g : ∀ l : List Addr, Vals (l.map V.ref) (l.map Value.ref) := fun l => by
        induction l with
        | nil => exact .nil
        | cons a l ih => exact .cons rfl ih
      rw [← eo]
      conv => arg 2; rw [eo]
      exact g _
/-- list.index within a comprehension -/
theorem pe_indexK {X : Cx} {K : PySem.W.Frag} (h : X.K = K) {o e : Expr} {to te : TE} {apos cpos : Pos} (p : PE X (.Call (.Attribute o "index" apos) [e] [] cpos) (tBM X.K "list" (rIndex X.K) to (tCons te tNil))) : PE X (.Call (.Attribute o "index" apos) [e] [] cpos) (tBM K "list" (rIndex K) to (tCons te tNil)) := by
  subst h
  exact p
theorem op_notInK {X : Cx} {K : PySem.W.Frag} (h : X.K = K) : OpR X (compareOp .NotIn) (rIn K true) := by
  subst h
  exact op_notIn_seq
end L2

namespace L2
open PySem PySem.Spec PyProof.Rows
section
variable {X : Cx}
/-- a name of the def's own, on the line of the comprehension: stored within its frame -/
theorem swd_true {kx vx : Expr} {gs : List Comprehension} {scope : Scope} {pos py : Pos} {y : Str} {l : Nat} {env : Env} (e1 : env.scope.kind = .function) (e2 : env.scope.names.lookup y = some .local) (e3 : (py.line == pos.line) = true)
    (e4 : (scope.names.any fun (n, k) => n == y && (k == .local || k == .cell)) = false) : swapsWith (.DictComp kx vx gs scope pos) (some (.Name y py)) l env = pure true := by
  have a1 : env.kindOf y = some .local := e2
  have a2 : env.blockKind = .function := (by unfold Env.blockKind; rw [e1]; rfl)
  unfold swapsWith
  simp only [a2, a1, e4, Expr.pos, e3]
  rfl
/-- y = {k: v for x in xs} -/
theorem ps_setDc {i : Nat} {y : Str} {py pos spos : Pos} {kx vx tg iter : Expr} {ifs : List Expr} {scope : Scope} {own : List (Str × Nat)} {wi : TI} {g : TG} {tt : TT} {tk tv : TE} (calm : X.calm = true) (nd : X.N.Nodup) (at_y : X.N[i]? = some y) (loc : X.env.scope.names.lookup y = some .local)
    (sw : swapsWith (.DictComp kx vx [⟨tg, iter, ifs, 0⟩] scope pos) (some (.Name y py)) spos.line X.env = pure true) (walk : PI X tg iter wi) (ok : BlkOk X.N X.env.scope scope own)
    (rg : ∀ (s : Shared) (H : Hp) (C : Addr) (cl : List (Str × Addr)) (fp : List Addr), PG (X.blk s H scope (compEnvC scope cl C X.env) fp) tg g)
    (rt : ∀ (s : Shared) (H : Hp) (C : Addr) (cl : List (Str × Addr)) (fp : List Addr), PTs (X.blk s H scope (compEnvC scope cl C X.env) fp) ifs tt)
    (rk : ∀ (s : Shared) (H : Hp) (C : Addr) (cl : List (Str × Addr)) (fp : List Addr), PE (X.blk s H scope (compEnvC scope cl C X.env) fp) kx tk)
    (rv : ∀ (s : Shared) (H : Hp) (C : Addr) (cl : List (Str × Addr)) (fp : List Addr), PE (X.blk s H scope (compEnvC scope cl C X.env) fp) vx tv)
    (fold : ∀ x, foldedSetIterable iter X.env x = pure x := by intro _; rfl) :
    PS X (.Assign [.Name y py] (.DictComp kx vx [⟨tg, iter, ifs, 0⟩] scope pos) spos) (tAsg (tDc wi g tt tk tv (own.map (·.2))) (gName i)) := by
  constructor
  intro pins s σ H D I q
  have q : tDc wi g tt tk tv (own.map (·.2)) σ H (fun x H1 => gName i x σ H1 D.nx) := q
  rw [exec_Assign_Name_used _ _ _ _ sw]
  apply wpAny_bind
  apply wpAny_standAt
  apply wpAny_bind
  show wpAny _ X.A (do let _ ← comprehension (.DictComp kx vx [⟨tg, iter, ifs, 0⟩] scope pos) scope X.env (firstIterPos [⟨tg, iter, ifs, 0⟩] pos) newDict false (eval iter X.env) (some (assign (.Name y py) X.env))) _ _ s
  apply wpAny_bind
  refine thn (dc_core (Qf := fun _ s' => SP X pins D .next s') calm nd I walk ok rg rt rk rv fold q ?_) fun _ _ z => wpAny_pure (wpAny_pure z)
  intro d c t n H2 J nx ns fr
  show wpAny _ _ (assign (.Name y py) X.env (.ref d)) _ _ _
  refine wpAny_assign_Name (store_ok2 (v := V.ref d) J nd at_y (.inl loc) rfl ?_ (.inr loc))
  rintro u JU ⟨b, same, which⟩
  obtain ⟨r0, r1, r2, r3, r4, r5⟩ := fr
  have far : c ≠ b := by
    cases which with
    | inl z => exact z ▸ r1
    | inr z => exact fun e => r4 y b z e.symm
  exact ⟨n, ns.sameBut same far, fun _ rest => ⟨_, H2, JU.turned (t' := u.toks) (fun a o ha e => (rest.2 a ha).trans e) r0 r1 r3 r4 r5, nx⟩⟩
end
end L2

namespace SrtO
open PySem PyProof.Rows Srt
section
variable {prog : Program} {w : World} {A : Around} {E : Value → Shared → Prop} {s : Shared}
/-- the heap with the items of a tuple in a new list -/
def gath (h : Heap) (its : List Value) : Heap := (h.push (seqObj "list" #[] 0)).update h.objs.size (Obj.mapSeq (· ++ its.toArray))
theorem gath_at (h : Heap) (its : List Value) : ∃ k, (gath h its).get? h.objs.size = some (seqObj "list" its.toArray k) := by
  have e := get?_update_seq (c := "list") (xs := #[]) (n := 0) (Heap.get?_push_size h rfl) (· ++ its.toArray)
  rw [Array.empty_append] at e
  exact ⟨_, e⟩
theorem gath_old {h : Heap} {its : List Value} {b : Addr} {o : Obj} (e : h.get? b = some o) : (gath h its).get? b = some o := by
  unfold gath
  rw [Heap.get?_update_ne _ _ _ _ (Nat.ne_of_lt (Heap.lt_size e))]
  exact Heap.get?_push_of_some _ e
theorem gath_size (h : Heap) (its : List Value) : (gath h its).objs.size = h.objs.size + 1 := by
  unfold gath
  rw [Heap.size_update, size_push']
theorem gather_tup {t : Addr} {o : Obj} {its : List Value} {k : Nat} {Q : List Value → Shared → Prop} (there : s.heap.get? t = some o) (cls : o.cls = .type "tuple") (dat : o.data = .seq its.toArray k) (few : its.length ≤ sizeLine)
    (next : Q its { s with heap := gath s.heap its }) : wpAny (model prog w) A (collect (.ref t)) Q E s := by
  have there' : (s.heap.push (seqObj "list" #[] 0)).get? t = some o := Heap.get?_push_of_some _ there
  have new0 : (s.heap.push (seqObj "list" #[] 0)).get? s.heap.objs.size = some (seqObj "list" #[] 0) := Heap.get?_push_size _ rfl
  unfold collect
  apply wpAny_bind
  refine wpAny_runValue (codeAny_builtin entry_proto_collect' ?_)
  show wpAny _ _ (newList [] >>= fun l => again (.builtin "list.__iadd__" ⟨[l, .ref t], []⟩)) _ _ s
  apply wpAny_bind
  refine wpAny_newList (wpAny_pure ⟨Code.quiet_builtin _ (by decide +kernel), codeAny_builtin entry_list_iadd' ?_⟩)
  show wpAny _ _ (Builtin.List.listExtendWith (.ref s.heap.objs.size) (.ref t) (.ref s.heap.objs.size)) _ _ { s with heap := s.heap.push (seqObj "list" #[] 0) }
  unfold Builtin.List.listExtendWith
  apply wpAny_bind
  refine wpAny_typeOf (T := "tuple") ⟨o, there', cls⟩ ?_
  have isT : (Value.type "tuple" == Value.type "tuple") = true := by rfl
  rw [if_pos (by rw [isT]; simp)]
  refine wpAny_bind (listItems_at there' dat ?_)
  refine wpAny_bind (listItems_at new0 rfl ?_)
  rw [if_neg (by simp)]
  refine wpAny_bind (listUpdate_at new0 rfl ?_ (Nat.zero_le _) (by show (#[] ++ its.toArray).size ≤ sizeLine + 1; simp only [Array.size_append, List.size_toArray, List.length_nil]; omega))
  refine wpAny_pure ?_
  obtain ⟨k2, e⟩ := gath_at s.heap its
  show wpAny (model prog w) A (do
      let o ← load s.heap.objs.size
      match o.data with
      | .seq xs _ => pure xs.toList
      | _ => unsupported "internal:collect") Q E { s with heap := gath s.heap its }
  exact wpAny_bind (wpAny_load e (wpAny_pure next))
/-- sorted(t), t a tuple of ints -/
theorem sorted_tupI {t : Addr} {o : Obj} {its : List Value} {ns : List Int} {k : Nat} {Q : Value → Shared → Prop} (I : IntsAre its ns) (there : s.heap.get? t = some o) (cls : o.cls = .type "tuple") (dat : o.data = .seq its.toArray k) (few : its.length ≤ sizeLine)
    (next : ∀ (out : List Value) (h' : Heap) (e : Nat), Srtd ltIv out → Stb ltIv out its → (∀ b u, s.heap.get? b = some u → h'.get? b = some u) → h'.get? (s.heap.objs.size + 1) = some (seqObj "list" out.toArray e) → Q (.ref (s.heap.objs.size + 1)) { s with heap := h' }) :
    wpAny (model prog w) A (call (.builtin "sorted") [.ref t]) Q E s := by
  refine Calls.call_function_entry kind_sorted plain_sorted entry_sorted (args_sorted1 _) ?_
  unfold Builtin.«sorted»
  refine wpAny_bind (m := checkCount "sorted" 1 1 _) (wpAny_pure ?_)
  refine wpAny_bind (gather_tup there cls dat few ?_)
  refine wpAny_bind (wpAny_newList ?_ few)
  show wpAny _ _ _ _ _ { s with heap := (gath s.heap its).push (seqObj "list" its.toArray 0) }
  have at_l : ((gath s.heap its).push (seqObj "list" its.toArray 0)).get? (gath s.heap its).objs.size = some (seqObj "list" its.toArray 0) := Heap.get?_push_size _ rfl
  refine wpAny_bind (wpAny_holding (wpAny_call_entry slot_list_sort ⟨_, at_l, rfl⟩ entry_list_sort (list_sort_ord swo_int at_l few (fun two => ints_sortable I two) fun out h1 h2 => ⟨_, rfl, ?_⟩) (args_list_sort _)))
  obtain ⟨e, he⟩ := sortedHeap_at (vs := its) (out := out.toArray) at_l
  rw [gath_size] at he ⊢
  refine wpAny_pure ⟨_, rfl, next out _ e h1 h2 (fun b u z => ?_) he⟩
  have lt : b < s.heap.objs.size := Heap.lt_size z
  rw [sortedHeap_old (Nat.ne_of_lt (Nat.lt_succ_of_lt lt)) (by rw [size_push', gath_size]; exact Nat.lt_succ_of_lt (Nat.lt_succ_of_lt lt))]
  exact Heap.get?_push_of_some _ (gath_old z)
end
end SrtO
namespace L2
open PySem PySem.Spec PyProof.Rows
def rSortedTI (K : PySem.W.Frag) : List V → Hp → VK → Prop := fun vs H Q => ∃ (a : Addr) (ns : List Int), vs = [V.ref a] ∧ SqT K H a (ns.map V.int) ∧ ∀ (ns' : List Int) (p : Addr), ns'.Perm ns → ns'.Pairwise (· ≤ ·) → H p = none → Q (.ref p) (upd H p (.lst (ns'.map V.int)))
theorem cr_sortedTI {X : Cx} : CallR X (.builtin "sorted") (rSortedTI X.K) := by
  intro pins s σ H vs us Q I r h
  obtain ⟨a, ns, rfl, hs, q⟩ := h
  obtain ⟨its, rv, ⟨o, ho, hc, k, hd⟩, hz⟩ := I.tuple hs
  rw [Vals.ref1 r]
  have hz' : ns.length ≤ sizeLine := by
    rw [List.length_map] at hz
    exact hz
  refine SrtO.sorted_tupI rv.ints ho hc hd (by rw [← rv.length]; exact hz) fun out h' e h1 h2 old new => ?_
  obtain ⟨k1, k2, k3⟩ := SrtO.ints_out rv.ints h1 h2
  exact ⟨.ref _, upd H (s.heap.objs.size + 1) (.lst ((out.map SrtO.iv).map V.int)), I.laid (t' := s.toks) old (Nat.le_succ _) ⟨by rw [List.length_map, k2.length_eq]; exact hz', out, e, vals_of_ints k1, new⟩, rfl, q _ _ k2 k3 (I.hok.fresh (Nat.le_succ _))⟩
end L2

namespace L2
open PySem PySem.Spec PyProof.Rows
section
variable {X : Cx} {st : Stmt} {rest : List Stmt} {t : TS}
/-- a statement behind which nothing is ever run -/
def tStop (t : TS) : TS := fun D σ H => t { D with nx := fun _ _ => False } σ H
theorem pss_stop (h1 : PS X st t) : PSs X (st :: rest) (tStop t) := by
  refine ⟨fun pins s σ H D I h => ?_⟩
  refine wpAny_execs_cons (thn (h1.run pins s σ H { D with nx := fun _ _ => False } I h) fun f s1 q => ?_)
  cases f with
  | next =>
    obtain ⟨σ', H', I', q⟩ := q
    exact False.elim q
  | ret v => exact q
  | brk => exact q
  | cont => exact q
end
end L2

namespace L2
open PySem PySem.Spec PyProof.Rows
/-- d.get(t) of a written table, whether the key is there or not -/
def tTabLook (P : Program) (w : World) (K : PySem.W.Frag) (td te : TE) : TE := fun σ H Q => td σ H fun x H1 => ∃ (a : Addr) (kvs : List (List Nat × Str)), x = .ref a ∧ TabK P w K a kvs ∧ te σ H1 fun y H2 => ∃ (p : Addr) (ks : List Nat), y = .ref p ∧ H2 p = some (.tup (ks.map fun k : Nat => V.int (k : Int))) ∧
  (∀ q, (kvs.find? fun q => decide (q.1 = ks)) = some q → Q (.str q.2) H2) ∧ ((kvs.find? fun q => decide (q.1 = ks)) = none → Q .non H2)
theorem tab_look {ks : List Nat} : ∀ {kvs : List (List Nat × Str)} {ts : List Tok}, ts.length = kvs.length →
    (∀ q, (kvs.find? fun q => decide (q.1 = ks)) = some q → ∃ t : Tok, valueAt ((kvs.zip ts).map fun x => (numK x.1.1, Value.str x.1.2 x.2)) (numK ks) = some (Value.str q.2 t)) ∧
    ((kvs.find? fun q => decide (q.1 = ks)) = none → valueAt ((kvs.zip ts).map fun x => (numK x.1.1, Value.str x.1.2 x.2)) (numK ks) = none)
  | [], ts, _ => ⟨fun q h => by simp at h, fun _ => by simp [valueAt]⟩
  | _ :: _, [], hl => by simp at hl
  | (k0, z0) :: kvs, t0 :: ts, hl => by
    have ih := tab_look (ks := ks) (kvs := kvs) (ts := ts) (by simpa using hl)
    by_cases c : k0 = ks
    · subst c
      refine ⟨fun q h => ?_, fun h => ?_⟩
      · rw [List.find?_cons_of_pos (by simp)] at h
        cases Option.some.inj h
        exact ⟨t0, by simp [valueAt]⟩
      · rw [List.find?_cons_of_pos (by simp)] at h
        cases h
    · have ne2 : ¬ numK k0 = numK ks := fun e => c (numK_inj e)
      rw [List.find?_cons_of_neg (by simpa using c)]
      unfold valueAt at ih ⊢
      rw [List.zip_cons_cons, List.map_cons, List.find?_cons_of_neg (by simpa using ne2)]
      exact ih
theorem pe_tabLook {X : Cx} {o e : Expr} {td te : TE} {apos cpos : Pos} (hu : X.A.units + 64 < cLine) (ho : PE X o td) (he : PE X e te) (m : M1 X o "get" apos e cpos) : PE X (.Call (.Attribute o "get" apos) [e] [] cpos) (tTabLook X.prog X.w X.K td te) := by
  refine ⟨fun pins s σ H Q I h => ?_⟩
  refine wpAny_Call_method m.base m.few m.line PySem.F.plainAttrs_dict PySem.F.slot_dict_get PySem.F.type_dict_get (thn (ho.run pins s σ H _ I h) fun u s1 ⟨x, H1, I1, rx, a, kvs, ex, ⟨hsm, ts, hT⟩, q1⟩ => ?_)
  subst ex
  obtain rfl : u = Value.ref a := rx
  obtain ⟨hD, _⟩ := hT _ I1.kIn
  have hD' := hD
  obtain ⟨xs, ⟨ob, es, ep, hob, hcl, hdat, _⟩, _⟩ := hD'
  refine ⟨hD.typeIs, fun b q => by cases q; exact ⟨ob, hob, hcl.2.1⟩, ?_⟩
  rw [m.trees]
  refine Calls.callWith_builtin rfl (Calls.evalArgs_plain (Calls.spliced_cons (thn (he.run pins s1 σ H1 _ I1 q1) fun iv s2 ⟨y, H2, I2, ry, p, ks, ey, hp, q2, q3⟩ => Calls.spliced_nil ?_)))
  subst ey
  obtain rfl : iv = Value.ref p := ry
  obtain ⟨_, its, rv, ot, h1, h2, n, h3⟩ := (show ObjOk X.prog X.w H2 s2.heap p (.tup (ks.map fun k : Nat => V.int (k : Int))) from I2.hok p _ hp)
  obtain ⟨hD2, hlen⟩ := hT _ I2.kIn
  obtain ⟨f1, f2⟩ := tab_look (ks := ks) hlen
  have hk : (nestedKind X.prog X.w).is s2.heap (numK ks) p := ⟨.tup h1 h2 h3 (by simpa using numAll_of (h := s2.heap) rv), numK_depth ks⟩
  refine get_keyed (knd := nestedKind X.prog X.w) (show X.A.in1.units + 8 < cLine by show X.A.units + 1 + 8 < cLine; omega) hk hsm hD2 ?_
  cases hf : kvs.find? fun q => decide (q.1 = ks) with
  | some q =>
    obtain ⟨t, ht⟩ := f1 q hf
    rw [ht]
    exact ⟨.str q.2, H2, I2.tok _, ⟨t, rfl⟩, q2 q hf⟩
  | none =>
    rw [f2 hf]
    exact ⟨.non, H2, I2.tok _, rfl, q3 hf⟩
end L2

/-! exceptions whose context is known to be None: raised by defs, caught where the suite calls defs -/
namespace L2N
open PySem PySem.Spec PyProof.Rows L2
theorem takes0N {X : Cx} : Takes X (fun _ _ _ _ => False) := fun _ _ x => by
  obtain ⟨a, B, sI, pins, σ, H, cls, d, e, I, nb, up, sky, na, os, ag, w⟩ := x
  exact False.elim w
section
variable {X : Cx} {e : Expr} {es : List Expr} {ta : TA} {p pos : Pos}
/-- raise X(e, ..), own __init__: the new exception has no context -/
theorem pmk_oexN {CX : CXT} {x : Str} {C fI : Addr} {k : Nat} {fd : FuncData} {ps : List Str} {sp : Sp} (T : OexC X.K C) (iC : PySem.W.findIn X.K (.ref C) "__init__" = some (some (.ref fI))) (tI : PySem.W.typeIn X.K (.ref fI) = some (.type "function"))
    (F1 : FnOk X.prog X.w X.K X.mg X.base CX k fI fd ps sp) (hr : Room (k + 1) X.A) (hb : Binds X.K fd ps []) (hx : Passes CX X (fun _ _ _ => False)) (hg : Gl X x) (hm : X.mg x = some (.ref C)) (ha : PA X (e :: es) ta)
    (hdb : (x == ("__debug__" : Str)) = false := by decide) (he : starEach (e :: es) X.env = (false, eval e X.env) :: starEach es X.env := by rfl) (hpl : (backTo pos (starEach es X.env)).any (·.1) = false := by rfl) :
    PMk X (.Call (.Name x p) (e :: es) [] pos) (tMkO C sp [] ta) := by
  intro pins s σ H Q I h
  obtain ⟨c1, c2, c3, c4, c5, c6, c7, c8, c9, d0, d1, d2, d3, d4, d5, hC, hbm⟩ := T.cls
  refine wpAny_Call_Name_kw (ld_glob I hg hm ?_ hdb)
  refine PySem.W.callWith_K (h₀ := X.base) I.ok.mod.kin T.kC (thn (ha.run pos pins s σ H _ I h) fun us s1 ⟨vs, H1, I1, r1, hz, q1⟩ => ⟨I1.kIn, ?_⟩) he hpl
  show wpAny _ _ (call (.ref C) us) _ _ _
  obtain ⟨h1, g1, w1, k1, o1⟩ := s1
  have up1 : h1.objs.size ≤ h1.objs.size + 1 := Nat.le_succ _
  have fr : H1 (h1.objs.size + 1) = none := I1.hok.fresh up1
  have pr := q1 (h1.objs.size + 1) fr
  rw [List.append_nil] at pr
  have kp : ∀ b o, h1.get? b = some o → ((h1.push (PySem.W.kdv_tup us)).push (PySem.HandSPX.excO C h1.objs.size)).get? b = some o := fun b o z => Heap.get?_push_of_some _ (Heap.get?_push_of_some _ z)
  have ob : ((h1.push (PySem.W.kdv_tup us)).push (PySem.HandSPX.excO C h1.objs.size)).get? (h1.objs.size + 1) = some (PySem.HandSPX.excO C h1.objs.size) := by heap_get
  have J : Inv X pins σ (upd H1 (h1.objs.size + 1) (exo (h1.objs.size + 1) C none)) ⟨(h1.push (PySem.W.kdv_tup us)).push (PySem.HandSPX.excO C h1.objs.size), g1, w1, k1, o1⟩ :=
    I1.laid (t' := k1) (a := h1.objs.size + 1) (o := exo (h1.objs.size + 1) C none) (h' := (h1.push (PySem.W.kdv_tup us)).push (PySem.HandSPX.excO C h1.objs.size)) kp up1 (exo_ok ob)
  have rl : Vals (V.ref (h1.objs.size + 1) :: vs) (Value.ref (h1.objs.size + 1) :: us) := .cons rfl r1
  have ln : (Value.ref (h1.objs.size + 1) :: us).length = ps.length := by
    have z := rl.length
    rw [F1.len _ _ _ _ pr] at z
    exact z.symm
  have few : us.length ≤ sizeLine := by
    rw [← Paired.length r1, sizeLine_eq]
    omega
  have bd := hb ⟨(h1.push (PySem.W.kdv_tup us)).push (PySem.HandSPX.excO C h1.objs.size), g1, w1, k1, o1⟩ (Value.ref (h1.objs.size + 1) :: us) J.kIn (by rw [List.append_nil]; exact ln)
  rw [List.append_nil] at bd
  refine wpAny_call (PySem.HandSPX.call_own F.excBase_ValueError (fun Y => PySem.HandSPX.refsVE_contains Y c5 hbm) (I1.kIn _ _ hC) (PySem.W.looks_findIn I1.kIn iC) (fun self => PySem.W.bind_fn I1.kIn self tI) few
    (codeAny_mono (F1.run _ X.stack _ _ ⟨Value.ref (h1.objs.size + 1) :: us, []⟩ (Value.ref (h1.objs.size + 1) :: us) _ _ (fun _ _ _ => False) (hr.make C us []) (J.env0.make C us []) bd rl pr) fun r s' hq => ?_))
  cases r with
  | error er => exact hx pins σ _ _ er s' J hq
  | ok fl =>
    cases fl with
    | ret u =>
      obtain ⟨v, H2, os2, bare2, un2, hok2, rv, ev, d, fs, ea, ed, hd1, q2⟩ := hq
      subst ev
      obtain ⟨h2, g2, w2, k2, o2⟩ := s'
      obtain ⟨t0, G, JG, kG, ge, hoe, na⟩ := mk_end0 (d2 := w2) (t2 := k2) I1 up1 kp un2 hok2 os2 bare2 ea ed hd1
      exact ⟨rv, h1.objs.size + 1, _, _, ⟨G, g2, w2, k2, o2⟩, _, .ref C, some d, rfl, JG, kG, ge, hoe, ⟨rfl, rfl, fun vs hv => by cases hv; rfl⟩, rfl, rfl, na, rfl, bare2, raises_own T.exC T.tyC, q2⟩
    | next => exact False.elim hq
    | brk => exact False.elim hq
    | cont => exact False.elim hq
variable {C : Addr} {bmB : List Value} {B newId initId : String} {x : Str}
/-- raise X(), no own __init__ -/
theorem pmk_own0N (F : ExcBaseFacts B newId initId bmB) (q : PySem.W.excIn X.K C bmB newId = true) (gC : X.mg x = some (.ref C)) (kC : PySem.W.keepIn X.K (.ref C) = true) (r : Raises X (.ref C)) (hg : Gl X x)
    (hdb : (x == ("__debug__" : Str)) = false := by decide) : PMk X (.Call (.Name x p) [] [] pos) (fun _ H Q => Q (.ref C) none H) := by
  intro pins s σ H Q I h
  refine wpAny_Call_Name_kw (ld_glob I hg gC ?_ hdb)
  refine PySem.W.callWith_K0 I.kIn kC ?_
  obtain ⟨bm, N, nm, qn, bs, hdct, sn, sub, ab, col, dd, k0, k1, k2, k3, k5, mN, hC, hN, hni, T⟩ := exc_obj I.kIn q
  refine wpAny_call_exc_subT F T hC hN hni (fun h' e hm => ?_) (Nat.zero_le _)
  exact mk_of I hm r h (I.hok.gone hm.new)
end
end L2N
namespace L2
open PySem PySem.Spec PyProof.Rows
section
variable {P : Program} {w : World} {K : PySem.W.Frag} {mg : Str → Option Value} {base : Heap}
/-- a def that may raise, what it raises has no context -/
theorem Fun.okN {x qual : Str} {st : Stmt} {f : Addr} {fd : FuncData} {N ps : List Str} {k : Nat} {sp : Sp} (F : Fun K x qual st f fd) (S : FnScope N ps (defScope st)) (len : ∀ vs H Q E, sp vs H Q E → vs.length = ps.length)
    (hbody : ∀ (cdv : Value) (A : Around) (outer : List Env) (s : Shared) (H : Hp) (vs : List V) (Q : VK) (E : XK), Room k (A.deeper (envOfC qual (defScope st) s.heap.objs.size f cdv)) → sp vs H Q E →
      ∃ t, PSs (cxOf (L2N.CX P w) P w K mg base N qual (defScope st) f cdv A outer s H E) (defBody st) t ∧ t { nx := fun _ H' => Q .non H', rt := Q } (start N vs) H) : FnOk P w K mg base (L2N.CX P w) (k + 1) f fd ps sp := by
  obtain ⟨oc, od, kV, doc, pm, an, cdv, ct, osl, rfl, lk, hcd⟩ := F.ex
  exact fn_of lk hcd S len fun A outer s H vs Q E hr hsp => hbody cdv A outer s H vs Q E hr hsp
/-- a def called where an exception is handled, lets none out -/
theorem Fun.okH {x qual : Str} {st : Stmt} {f : Addr} {fd : FuncData} {N ps : List Str} {k : Nat} {sp : Sp} (F : Fun K x qual st f fd) (S : FnScope N ps (defScope st)) (len : ∀ vs H Q E, sp vs H Q E → vs.length = ps.length)
    (hbody : ∀ (cdv : Value) (A : Around) (outer : List Env) (s : Shared) (H : Hp) (vs : List V) (Q : VK) (E : XK) (p : Addr × Obj), L2H.Hot1 A p → L2H.RoomH k (A.deeper (envOfC qual (defScope st) s.heap.objs.size f cdv)) → sp vs H Q E →
      ∃ t, PSs (L2H.cxH CX0 P w K mg base N qual (defScope st) f cdv A outer s H E p).nox (defBody st) t ∧ t { nx := fun _ H' => Q .non H', rt := Q } (start N vs) H) : L2H.FnH P w K mg base CX0 (k + 1) f fd ps sp := by
  obtain ⟨oc, od, kV, doc, pm, an, cdv, ct, osl, rfl, lk, hcd⟩ := F.ex
  refine L2H.fn_ofH lk hcd S len fun A outer s H vs Q E p hot hr hsp => ?_
  obtain ⟨t, h, q⟩ := hbody cdv A outer s H vs Q E p hot hr hsp
  exact ⟨t, h.nox, q⟩
end
/-- within a suite: the exception that is handled has no context -/
theorem hot_suite {X : Cx} {a : Addr} {oe : Obj} {cls : Value} {d : Option Addr} {pn : List (Addr × Obj)} (hz : L2N.Zn cls d oe) (hf : ∃ vs, oe.data = .fields vs) : L2H.HotC (X.suite a ((a, oe) :: pn)) := by
  obtain ⟨vs, hv⟩ := hf
  exact ⟨(a, oe), ⟨rfl, vs, hv, hz.2.2 vs hv⟩, List.mem_cons_self⟩
end L2
namespace L2
open PySem PySem.Spec PyProof.Rows
/-- nothing is let out -/
theorem passH0 {X : Cx} (E : St → XK) : ∀ σ, PassesAt CX0 X σ (E σ) := fun _ _ _ _ _ _ _ z => False.elim z
theorem call_isiQ {X : Cx} {K : PySem.W.Frag} (h : X.K = K) : CallR X (.builtin "isinstance") (rIsi K) := by
  subst h
  exact call_isi
theorem call_lenK {X : Cx} {K : PySem.W.Frag} (h : X.K = K) : CallR X (.builtin "len") (fun xs H Q => ∃ p ys, xs = [.ref p] ∧ (SqL K H p ys ∨ SqT K H p ys) ∧ Q (.int ys.length) H) := by
  subst h
  exact call_len_seq
end L2

namespace Pm
/-- a group alone: ascending, the records of one form -/
structure Grp (g : Nat → Nat) (gp : List Nat) (b : Bk) : Prop where
  asc : gp.Pairwise (· < ·)
  perm : gp.Perm b.2
  cs : Cs g b.1 b.2
  can : Canon b
section
variable {g : Nat → Nat} {gp : List Nat} {b : Bk}
theorem Grp.nd (G : Grp g gp b) : gp.Nodup := G.asc.imp fun {a b} h => Nat.ne_of_lt h
theorem Grp.ndb (G : Grp g gp b) : b.2.Nodup := G.perm.nodup_iff.mp G.nd
theorem Grp.mem (G : Grp g gp b) {x : Nat} : x ∈ gp ↔ x ∈ b.2 := G.perm.mem_iff
theorem head_asc : ∀ {l : List Nat} {q : Nat → Bool} {x : Nat}, l.Pairwise (· < ·) → x ∈ l → q x = true → (∀ y ∈ l, y < x → q y = false) → (l.filter q).head? = some x
  | [], _, _, _, h, _, _ => by simp at h
  | a :: l, q, x, p, h, hq, hn => by
    by_cases e : a = x
    · subst e
      rw [List.filter_cons, if_pos hq]
      rfl
    · have hx : x ∈ l := (List.mem_cons.mp h).resolve_left (Ne.symm e)
      have lt := List.rel_of_pairwise_cons p hx
      rw [List.filter_cons, if_neg (by rw [hn a (List.mem_cons_self ..) lt]; decide)]
      exact head_asc p.of_cons hx hq fun y hy => hn y (List.mem_cons_of_mem _ hy)
theorem head_least {l : List Nat} {x : Nat} (p : l.Pairwise (· < ·)) (h : x ∈ l) (hn : ∀ y ∈ l, x ≤ y) : l.head? = some x := by
  have := head_asc (q := fun _ => true) p h rfl fun y hy hlt => absurd (hn y hy) (by omega)
  rw [List.filter_eq_self.mpr (fun _ _ => rfl)] at this
  exact this
theorem Grp.walks (G : Grp g gp b) : Walks g (path b) := by
  have nd := G.ndb
  have C := G.cs
  clear G
  obtain ⟨w, ms⟩ := b
  dsimp only at C nd
  unfold path
  dsimp only
  cases C
  all_goals (simp at nd ⊢)
  all_goals (refine ⟨by simp, by simp; try simp [nd], fun j hj => ?_, by simp [*]⟩)
  all_goals (rcases j with _ | _ | _ | _ | j)
  all_goals first | (simp at hj; done) | (simp [*]; done) | (simp at hj ⊢; omega) | skip
theorem Grp.left (G : Grp g gp b) : path b ++ gp.filter (fun x => !(path b).contains x) = b.2 := by
  have nd := G.ndb
  have C := G.cs
  have M : ∀ x, x ∈ gp ↔ x ∈ b.2 := fun x => G.mem
  have N := G.nd
  clear G
  by_cases h5 : b.1 = 5
  · obtain ⟨w, ms⟩ := b
    dsimp only at h5 C nd M ⊢
    subst h5
    cases C
    rename_i d a b c h1 h2 h3 h4
    unfold path
    simp at nd ⊢
    rw [filter_one (x := c) N (by rw [M]; simp) (by simp; omega) fun y hy hq => ?_]
    rw [M] at hy
    simp at hy hq
    omega
  · unfold path
    rw [if_neg h5]
    have e : gp.filter (fun x => !b.2.contains x) = [] := by
      rw [List.filter_eq_nil_iff]
      intro x hx
      have := (M x).mp hx
      simp [this]
    rw [e, List.append_nil]
theorem Grp.start (G : Grp g gp b) (T : List Nat) (hT : T = gp.filter fun x => !(gp.map g).contains x) :
    (T = [] → gp.head? = some (b.2.getD 0 0)) ∧ (T ≠ [] → T.head? = some (b.2.getD 0 0)) := by
  have nd := G.ndb
  have C := G.cs
  have K := G.can
  have M : ∀ x, x ∈ gp ↔ x ∈ b.2 := fun x => G.mem
  have S := G.asc
  clear G
  have sh : ∀ x, (gp.map g).contains x = (b.2.map g).contains x := fun x => by
    rw [Bool.eq_iff_iff, List.contains_iff_mem, List.contains_iff_mem, List.mem_map, List.mem_map]
    exact ⟨fun ⟨y, hy, e⟩ => ⟨y, (M y).mp hy, e⟩, fun ⟨y, hy, e⟩ => ⟨y, (M y).mpr hy, e⟩⟩
  have root : ∀ m0, m0 ∈ b.2 → (∀ y ∈ b.2, m0 ≤ y) → gp.head? = some m0 := fun m0 h1 h2 => head_least S ((M m0).mpr h1) fun y hy => h2 y ((M y).mp hy)
  have tail : ∀ m0 : Nat, m0 ∈ b.2 → (b.2.map g).contains m0 = false → (∀ j, j < m0 → j ∈ b.2 → (b.2.map g).contains j = true) → T.head? = some m0 := fun m0 h1 h2 h3 => by
    rw [hT]
    refine head_asc S ((M m0).mpr h1) (by rw [sh, h2]; rfl) fun y hy hlt => ?_
    rw [sh, h3 y hlt ((M y).mp hy)]
    rfl
  have none : (∀ x ∈ b.2, (b.2.map g).contains x = true) → T = [] := fun h => by
    rw [hT, List.filter_eq_nil_iff]
    intro x hx
    rw [sh, h x ((M x).mp hx)]
    decide
  obtain ⟨w, ms⟩ := b
  dsimp only at *
  clear hT sh
  cases C with
  | free a h1 =>
    have t := none (by simp [h1])
    exact ⟨fun _ => root a (by simp) (by simp), fun h => absurd t h⟩
  | pair a b h1 h2 =>
    have t := none (by simp [h1, h2])
    have := K.pair rfl
    simp at this
    exact ⟨fun _ => root a (by simp) (by simp; omega), fun h => absurd t h⟩
  | wheel a b c d h1 h2 h3 h4 =>
    have t := none (by simp [h1, h2, h3, h4])
    have hk : a = mn [a, b, c, d] := K.wheel rfl
    exact ⟨fun _ => root a (by simp) (fun y hy => by rw [hk]; exact mn_le hy), fun h => absurd t h⟩
  | claim a b h1 h2 =>
    simp at nd
    have t := tail a (by simp) (by simp [h1, h2]; omega) (fun j hj hm => by simp at hm; simp [h1, h2]; omega)
    exact ⟨fun h => (by rw [h] at t; simp at t), fun _ => t⟩
  | hook c a b h1 h2 h3 =>
    simp at nd
    have t := tail c (by simp) (by simp [h1, h2, h3]; omega) (fun j hj hm => by simp at hm; simp [h1, h2, h3]; omega)
    exact ⟨fun h => (by rw [h] at t; simp at t), fun _ => t⟩
  | relay c a b h1 h2 h3 =>
    simp at nd
    have t := tail c (by simp) (by simp [h1, h2, h3]; omega) (fun j hj hm => by simp at hm; simp [h1, h2, h3]; omega)
    exact ⟨fun h => (by rw [h] at t; simp at t), fun _ => t⟩
  | clamp d a b c h1 h2 h3 h4 =>
    simp at nd
    have kk := K.clamp rfl
    simp at kk
    have t := tail d (by simp) (by simp [h1, h2, h3, h4]; omega) (fun j hj hm => by simp at hm; simp [h1, h2, h3, h4]; omega)
    exact ⟨fun h => (by rw [h] at t; simp at t), fun _ => t⟩
  | trail d c a b h1 h2 h3 h4 =>
    simp at nd
    have t := tail d (by simp) (by simp [h1, h2, h3, h4]; omega) (fun j hj hm => by simp at hm; simp [h1, h2, h3, h4]; omega)
    exact ⟨fun h => (by rw [h] at t; simp at t), fun _ => t⟩
end
end Pm

namespace Pm
theorem nd_getD' {l : List Nat} (nd : l.Nodup) {i j : Nat} (hi : i < l.length) (hj : j < l.length) (h : l.getD i 0 = l.getD j 0) : i = j := by
  rw [List.getD_eq_getElem?_getD, List.getD_eq_getElem?_getD, List.getElem?_eq_getElem hi, List.getElem?_eq_getElem hj] at h
  exact (List.getElem_inj (h₀ := hi) (h₁ := hj) nd).mp h
/-- two walks from one record are one walk -/
theorem walks_at {g : Nat → Nat} {p q : List Nat} (P : Walks g p) (Q : Walks g q) (h : p.getD 0 0 = q.getD 0 0) : ∀ j, j < p.length → j < q.length → p.getD j 0 = q.getD j 0
  | 0, _, _ => h
  | j + 1, h1, h2 => by
    rw [← P.next j h1, ← Q.next j h2, walks_at P Q h j (by omega) (by omega)]
theorem walks_le {g : Nat → Nat} {p q : List Nat} (P : Walks g p) (Q : Walks g q) (h : p.getD 0 0 = q.getD 0 0) : q.length ≤ p.length := by
  rcases Nat.lt_or_ge p.length q.length with c | c
  · exfalso
    have hp := P.pos
    have e := Q.next (p.length - 1) (by omega)
    rw [← walks_at P Q h (p.length - 1) (by omega) (by omega)] at e
    obtain ⟨k, hk, ek⟩ := mem_getD P.back
    rw [← ek, walks_at P Q h k hk (by omega)] at e
    have := nd_getD' Q.nd (by omega) (by omega) e
    omega
  · exact c
theorem walks_eq {g : Nat → Nat} {p q : List Nat} (P : Walks g p) (Q : Walks g q) (h : p.getD 0 0 = q.getD 0 0) : p = q := by
  have l : p.length = q.length := Nat.le_antisymm (walks_le Q P h.symm) (walks_le P Q h)
  refine List.ext_getElem l fun j h1 h2 => ?_
  have e := walks_at P Q h j h1 h2
  rw [List.getD_eq_getElem?_getD, List.getD_eq_getElem?_getD, List.getElem?_eq_getElem h1, List.getElem?_eq_getElem h2] at e
  exact e
theorem path_0 {b : Bk} : (path b).getD 0 0 = b.2.getD 0 0 := by
  unfold path
  split
  · cases b.2 <;> rfl
  · rfl
/-- a group has one order of one form -/
theorem Grp.uniq {g : Nat → Nat} {gp : List Nat} {b c : Bk} (B : Grp g gp b) (C : Grp g gp c) : b.2 = c.2 := by
  have s1 := B.start _ rfl
  have s2 := C.start _ rfl
  have h0 : b.2.getD 0 0 = c.2.getD 0 0 := by
    by_cases t : (gp.filter fun x => !(gp.map g).contains x) = []
    · exact Option.some.inj ((s1.1 t).symm.trans (s2.1 t))
    · exact Option.some.inj ((s1.2 t).symm.trans (s2.2 t))
  have e := walks_eq B.walks C.walks (by rw [path_0, path_0]; exact h0)
  rw [← B.left, ← C.left, e]
/-- and one form -/
theorem Grp.form_one {g : Nat → Nat} {gp : List Nat} {b c : Bk} (B : Grp g gp b) (C : Grp g gp c) : b.1 = c.1 := by
  have e := B.uniq C
  have nd := B.ndb
  have c1 := B.cs
  have c2 := C.cs
  clear B C
  obtain ⟨w, ms⟩ := b
  obtain ⟨u, ns⟩ := c
  dsimp only at *
  subst e
  cases c1 <;> cases c2 <;> first | rfl | (simp at nd; omega)
end Pm

namespace Pm
theorem cs_of {g : Nat → Nat} {w : Nat} {ms : List Nat} (hw : w < 8) (hl : ms.length = (form w).length) (sh : ∀ k, k < ms.length → g (ms.getD k 0) = ms.getD ((form w).getD k 0) 0) : Cs g w ms := by
  rcases w with _ | _ | _ | _ | _ | _ | _ | _ | w
  · match ms, hl with
    | [a], _ => exact .free a (sh 0 (by simp))
  · match ms, hl with
    | [a, b], _ => exact .pair a b (sh 0 (by simp)) (sh 1 (by simp))
  · match ms, hl with
    | [a, b], _ => exact .claim a b (sh 0 (by simp)) (sh 1 (by simp))
  · match ms, hl with
    | [a, b, c], _ => exact .hook a b c (sh 0 (by simp)) (sh 1 (by simp)) (sh 2 (by simp))
  · match ms, hl with
    | [a, b, c], _ => exact .relay a b c (sh 0 (by simp)) (sh 1 (by simp)) (sh 2 (by simp))
  · match ms, hl with
    | [a, b, c, d], _ => exact .clamp a b c d (sh 0 (by simp)) (sh 1 (by simp)) (sh 2 (by simp)) (sh 3 (by simp))
  · match ms, hl with
    | [a, b, c, d], _ => exact .trail a b c d (sh 0 (by simp)) (sh 1 (by simp)) (sh 2 (by simp)) (sh 3 (by simp))
  · match ms, hl with
    | [a, b, c, d], _ => exact .wheel a b c d (sh 0 (by simp)) (sh 1 (by simp)) (sh 2 (by simp)) (sh 3 (by simp))
  · omega
theorem head_le {l : List Nat} {x y : Nat} (p : l.Pairwise (· < ·)) (h : l.head? = some x) (hy : y ∈ l) : x ≤ y := by
  cases l with
  | nil => cases h
  | cons a l =>
    cases Option.some.inj h
    rcases List.mem_cons.mp hy with e | hy
    · rw [e]
      exact Nat.le_refl _
    · exact Nat.le_of_lt (List.rel_of_pairwise_cons p hy)
theorem le_mn {l : List Nat} {x : Nat} (h0 : l ≠ []) (h : ∀ y ∈ l, x ≤ y) : x ≤ mn l := h _ (mn_mem h0)
/-- a row that begins where the walk begins and fits a form is the form's order -/
theorem Grp.of_row {g : Nat → Nat} {gp ms : List Nat} {w : Nat} (asc : gp.Pairwise (· < ·)) (perm : gp.Perm ms) (hw : w < 8) (hl : ms.length = (form w).length)
    (sh : ∀ k, k < ms.length → g (ms.getD k 0) = ms.getD ((form w).getD k 0) 0)
    (h1 : (gp.filter fun x => !(gp.map g).contains x) = [] → gp.head? = some (ms.getD 0 0)) (h2 : (gp.filter fun x => !(gp.map g).contains x) ≠ [] → (gp.filter fun x => !(gp.map g).contains x).head? = some (ms.getD 0 0)) : Grp g gp (w, ms) := by
  have C := cs_of hw hl sh
  have M : ∀ x, x ∈ gp ↔ x ∈ ms := fun x => perm.mem_iff
  have nd : ms.Nodup := perm.nodup_iff.mp (asc.imp fun {a b} h => Nat.ne_of_lt h)
  have ascT : (gp.filter fun x => !(gp.map g).contains x).Pairwise (· < ·) := asc.filter _
  have mT : ∀ x, x ∈ (gp.filter fun x => !(gp.map g).contains x) ↔ x ∈ ms ∧ ∀ y ∈ ms, g y ≠ x := fun x => by
    rw [List.mem_filter, M x]
    refine and_congr_right fun _ => ?_
    rw [Bool.not_eq_true', ← Bool.not_eq_true, List.contains_iff_mem, List.mem_map]
    exact ⟨fun h y hy e => h ⟨y, (M y).mpr hy, e⟩, fun h ⟨y, hy, e⟩ => h y ((M y).mp hy) e⟩
  generalize (gp.filter fun x => !(gp.map g).contains x) = T at *
  refine ⟨asc, perm, C, ?_⟩
  clear sh hl
  have none : (∀ x ∈ ms, ∃ y ∈ ms, g y = x) → T = [] := fun h => by
    match T, mT with
    | [], _ => rfl
    | t :: T, mT =>
      obtain ⟨a, b⟩ := (mT t).mp (by simp)
      obtain ⟨y, hy, e⟩ := h t a
      exact absurd e (b y hy)
  refine ⟨fun e => ?_, fun e => ?_, fun e => ?_⟩
  · simp only at e
    subst e
    cases C with
    | pair a b q1 q2 =>
      have t := none (by simp [q1, q2])
      have := head_le asc (h1 t) ((M b).mpr (by simp))
      simp at nd this
      show a < b
      omega
  · simp only at e
    subst e
    cases C with
    | clamp d a b c q1 q2 q3 q4 =>
      simp at nd
      have hc : c ∈ T := (mT c).mpr ⟨by simp, by simp [q1, q2, q3, q4]; omega⟩
      have := head_le ascT (h2 (fun z => by rw [z] at hc; simp at hc)) hc
      show d < c
      have this : d ≤ c := this
      omega
  · simp only at e
    subst e
    cases C with
    | wheel a b c d q1 q2 q3 q4 =>
      have t := none (by simp [q1, q2, q3, q4])
      have hh := h1 t
      show a = mn [a, b, c, d]
      have l1 : mn [a, b, c, d] ≤ a := mn_le (by simp)
      have l2 : a ≤ mn [a, b, c, d] := le_mn (by simp) fun y hy => head_le asc hh ((M y).mpr hy)
      omega
end Pm

namespace Pm
/-- all rows of k different records of a group -/
def ords (gp : List Nat) : Nat → List (List Nat)
  | 0 => [[]]
  | k + 1 => (ords gp k).flatMap fun row => (gp.filter fun x => !row.contains x).map fun x => row ++ [x]
theorem mem_ords {gp : List Nat} : ∀ {k : Nat} {row : List Nat}, row ∈ ords gp k ↔ row.length = k ∧ row.Nodup ∧ ∀ x ∈ row, x ∈ gp
  | 0, row => by
    unfold ords
    rw [List.mem_singleton]
    exact ⟨fun h => by subst h; exact ⟨rfl, List.nodup_nil, fun _ h => nomatch h⟩, fun h => List.length_eq_zero_iff.mp h.1⟩
  | k + 1, row => by
    unfold ords
    rw [List.mem_flatMap]
    constructor
    · rintro ⟨r, hr, h⟩
      obtain ⟨x, hx, rfl⟩ := List.mem_map.mp h
      obtain ⟨h1, h2, h3⟩ := mem_ords.mp hr
      rw [List.mem_filter] at hx
      have hn : x ∉ r := fun z => by
        have := hx.2
        rw [List.contains_iff_mem.mpr z] at this
        cases this
      refine ⟨by rw [List.length_append, h1]; rfl, ?_, fun y hy => ?_⟩
      · rw [List.nodup_append]
        exact ⟨h2, by simp, fun a ha b hb e => by simp at hb; subst hb; subst e; exact hn ha⟩
      · rcases List.mem_append.mp hy with hy | hy
        · exact h3 y hy
        · rw [List.mem_singleton.mp hy]
          exact hx.1
    · rintro ⟨h1, h2, h3⟩
      have ne : row ≠ [] := fun z => by subst z; cases h1
      have e := List.dropLast_concat_getLast ne
      have hl : row.dropLast.length = k := by rw [List.length_dropLast, h1]; rfl
      rw [← e, List.nodup_append] at h2
      have hlast : row.getLast ne ∈ gp := h3 _ (List.getLast_mem ne)
      have hni : row.getLast ne ∉ row.dropLast := fun z => h2.2.2 _ z _ (List.mem_singleton_self _) rfl
      refine ⟨row.dropLast, mem_ords.mpr ⟨hl, h2.1, fun x hx => h3 x (List.dropLast_subset row hx)⟩, ?_⟩
      refine List.mem_map.mpr ⟨row.getLast ne, ?_, e⟩
      rw [List.mem_filter]
      refine ⟨hlast, ?_⟩
      cases c : row.dropLast.contains (row.getLast ne) with
      | false => rfl
      | true => exact absurd (List.contains_iff_mem.mp c) hni
/-- as many different records of a group as it has: all of them -/
theorem perm_of_sub : ∀ {row gp : List Nat}, row.Nodup → (∀ x ∈ row, x ∈ gp) → row.length = gp.length → row.Perm gp
  | [], gp, _, _, h => by
    rw [List.length_eq_zero_iff.mp h.symm]
  | x :: row, gp, nd, sub, h => by
    have hx := sub x (List.mem_cons_self ..)
    have nd' := List.nodup_cons.mp nd
    have p := List.perm_cons_erase hx
    have ih := perm_of_sub (row := row) (gp := gp.erase x) nd'.2 (fun y hy => (List.mem_erase_of_ne (fun z => nd'.1 (by rw [← z]; exact hy))).mpr (sub y (List.mem_cons_of_mem _ hy))) (by
      rw [List.length_erase_of_mem hx]
      simp at h
      omega)
    exact (List.Perm.cons x ih).trans p.symm
end Pm

namespace Pm
/-- the labels of any image whose entries are records -/
structure LabG (ys : List Nat) (i : Nat) (L : List Nat) : Prop where
  len : L.length = ys.length
  le : ∀ x, x < ys.length → L.getD x 0 ≤ x
  idem : ∀ x, x < ys.length → L.getD (L.getD x 0) 0 = L.getD x 0
  ed : ∀ x, x < i → L.getD x 0 = L.getD (ys.getD x 0) 0
theorem labG_ok {ys : List Nat} (ok : ∀ x, x < ys.length → ys.getD x 0 < ys.length) : ∀ i, i ≤ ys.length → LabG ys i (lab ys i)
  | 0, _ => by
    refine ⟨List.length_range, fun x hx => ?_, fun x hx => ?_, fun x hx => absurd hx (Nat.not_lt_zero _)⟩
    · show (List.range ys.length).getD x 0 ≤ x
      rw [getD_range hx]
      exact Nat.le_refl _
    · show (List.range ys.length).getD ((List.range ys.length).getD x 0) 0 = (List.range ys.length).getD x 0
      rw [getD_range hx, getD_range hx]
  | i + 1, h => by
    have Q := labG_ok ok i (by omega)
    show LabG ys (i + 1) (stepL (lab ys i) i (ys.getD i 0))
    generalize lab ys i = L at Q
    have hi : i < ys.length := by omega
    have hn := ok i hi
    unfold stepL
    by_cases e : min (L.getD i 0) (L.getD (ys.getD i 0) 0) = max (L.getD i 0) (L.getD (ys.getD i 0) 0)
    · rw [if_pos e]
      refine ⟨Q.len, Q.le, Q.idem, fun x hx => ?_⟩
      by_cases c : x = i
      · subst c
        omega
      · exact Q.ed x (by omega)
    · rw [if_neg e]
      have l1 := Q.le i hi
      have l2 := Q.le _ hn
      have d1 := Q.idem i hi
      have d2 := Q.idem _ hn
      have hlo : L.getD (min (L.getD i 0) (L.getD (ys.getD i 0) 0)) 0 = min (L.getD i 0) (L.getD (ys.getD i 0) 0) := by
        rcases Nat.le_total (L.getD i 0) (L.getD (ys.getD i 0) 0) with c | c
        · rw [Nat.min_eq_left c]
          exact d1
        · rw [Nat.min_eq_right c]
          exact d2
      have hends : (L.getD i 0 = min (L.getD i 0) (L.getD (ys.getD i 0) 0) ∧ L.getD (ys.getD i 0) 0 = max (L.getD i 0) (L.getD (ys.getD i 0) 0)) ∨ (L.getD i 0 = max (L.getD i 0) (L.getD (ys.getD i 0) 0) ∧ L.getD (ys.getD i 0) 0 = min (L.getD i 0) (L.getD (ys.getD i 0) 0)) := by omega
      have hlt : min (L.getD i 0) (L.getD (ys.getD i 0) 0) < ys.length := by omega
      have lu : min (L.getD i 0) (L.getD (ys.getD i 0) 0) < max (L.getD i 0) (L.getD (ys.getD i 0) 0) := by omega
      generalize min (L.getD i 0) (L.getD (ys.getD i 0) 0) = lo at *
      generalize max (L.getD i 0) (L.getD (ys.getD i 0) 0) = up at *
      have new : ∀ x, x < ys.length → (L.map fun o => if o = up then lo else o).getD x 0 = if L.getD x 0 = up then lo else L.getD x 0 := fun x hx => getD_map (f := fun o => if o = up then lo else o) (by rw [Q.len]; exact hx)
      refine ⟨by rw [List.length_map]; exact Q.len, fun x hx => ?_, fun x hx => ?_, fun x hx => ?_⟩
      · rw [new x hx]
        have := Q.le x hx
        split <;> omega
      · rw [new x hx]
        have lx := Q.le x hx
        by_cases c : L.getD x 0 = up
        · rw [if_pos c, new lo hlt, hlo, if_neg (by omega)]
        · rw [if_neg c, new _ (by omega), Q.idem x hx, if_neg c]
      · have hx' : x < ys.length := by omega
        rw [new x hx', new _ (ok x hx')]
        by_cases c : x = i
        · subst c
          rcases hends with ⟨a, b⟩ | ⟨a, b⟩
          · rw [a, b, if_neg (by omega), if_pos rfl]
          · rw [a, b, if_pos rfl, if_neg (by omega)]
        · rw [Q.ed x (by omega)]
end Pm

namespace Pm
structure Fits (g : Nat → Nat) (row : List Nat) (w : Nat) : Prop where
  len : row.length = (form w).length
  sh : ∀ k, k < row.length → g (row.getD k 0) = row.getD ((form w).getD k 0) 0
  can : Canon (w, row)
def FormOf (g : Nat → Nat) (gp : List Nat) : Option Bk → Prop
  | none => ∀ (w : Nat) (row : List Nat), w < 8 → row.Perm gp → ¬ Fits g row w
  | some b => b.1 < 8 ∧ b.2.Perm gp ∧ Fits g b.2 b.1
/-! ### the labels of any image, its groups -/
def labF (ys : List Nat) (x : Nat) : Nat := (lab ys ys.length).getD x 0
def rootsF (ys : List Nat) : List Nat := (List.range ys.length).filter fun x => decide (labF ys x = x)
def grpF (ys : List Nat) (r : Nat) : List Nat := (List.range ys.length).filter fun y => decide (labF ys y = r)
def Rec (ys : List Nat) : Prop := ∀ x, x < ys.length → ys.getD x 0 < ys.length
section
variable {ys : List Nat}
theorem mem_grpF {r x : Nat} : x ∈ grpF ys r ↔ x < ys.length ∧ labF ys x = r := by
  unfold grpF
  rw [List.mem_filter, List.mem_range]
  simp
theorem grpF_asc (r : Nat) : (grpF ys r).Pairwise (· < ·) := List.pairwise_lt_range.filter _
theorem grpF_closed (ok : Rec ys) {r x : Nat} (h : x ∈ grpF ys r) : ys.getD x 0 ∈ grpF ys r := by
  have h := mem_grpF.mp h
  refine mem_grpF.mpr ⟨ok x h.1, ?_⟩
  rw [← h.2]
  exact ((labG_ok ok ys.length (Nat.le_refl _)).ed x h.1).symm
theorem grpF_len (r : Nat) : (grpF ys r).length ≤ ys.length := by
  have := List.length_filter_le (fun y => decide (labF ys y = r)) (List.range ys.length)
  rw [List.length_range] at this
  exact this
theorem root_mem {r : Nat} (h : r ∈ rootsF ys) : r ∈ grpF ys r := by
  unfold rootsF at h
  rw [List.mem_filter, List.mem_range] at h
  exact mem_grpF.mpr ⟨h.1, by simpa using h.2⟩
theorem root_ne {r : Nat} (h : r ∈ rootsF ys) : grpF ys r ≠ [] := fun z => by
  have := root_mem h
  rw [z] at this
  cases this
end
/-! ### the walk through any group -/
def wk (g : Nat → Nat) : Nat → Nat → List Nat → List Nat
  | 0, _, R => R
  | m + 1, h, R => if R.contains h then R else wk g m (g h) (R ++ [h])
/-- a group: closed, ascending, not empty -/
structure Gp (g : Nat → Nat) (gp : List Nat) : Prop where
  asc : gp.Pairwise (· < ·)
  cl : ∀ x ∈ gp, g x ∈ gp
  ne : gp ≠ []
def startF (g : Nat → Nat) (gp : List Nat) : Nat := match gp.filter fun x => !(gp.map g).contains x with
  | [] => gp.headD 0
  | x :: _ => x
def walkF (g : Nat → Nat) (gp : List Nat) : List Nat := wk g (gp.length + 1) (startF g gp) []
def rowF (g : Nat → Nat) (gp : List Nat) : List Nat := walkF g gp ++ gp.filter fun x => !(walkF g gp).contains x
def shapeF (g : Nat → Nat) (row : List Nat) : List Nat := row.map fun x => row.idxOf (g x)
def pieceF (g : Nat → Nat) (gp : List Nat) : Option Bk := ((List.range 8).find? fun w => decide (form w = shapeF g (rowF g gp))).map fun w => (w, rowF g gp)
section
variable {g : Nat → Nat} {gp : List Nat}
theorem Gp.nd (G : Gp g gp) : gp.Nodup := G.asc.imp fun {a b} h => Nat.ne_of_lt h
theorem Gp.start (G : Gp g gp) : startF g gp ∈ gp := by
  unfold startF
  split
  · cases gp with
    | nil => exact absurd rfl G.ne
    | cons a l => exact List.mem_cons_self ..
  · rename_i x l e
    have : x ∈ gp.filter fun x => !(gp.map g).contains x := by rw [e]; exact List.mem_cons_self ..
    exact (List.mem_filter.mp this).1
theorem nd_len : ∀ {R gp : List Nat}, R.Nodup → (∀ x ∈ R, x ∈ gp) → R.length ≤ gp.length
  | [], _, _, _ => Nat.zero_le _
  | x :: R, gp, nd, sub => by
    have nd' := List.nodup_cons.mp nd
    have hx := sub x (List.mem_cons_self ..)
    have ih := nd_len (R := R) (gp := gp.erase x) nd'.2 fun y hy => (List.mem_erase_of_ne (fun z => nd'.1 (by rw [← z]; exact hy))).mpr (sub y (List.mem_cons_of_mem _ hy))
    have := List.length_erase_of_mem hx
    have hp : 0 < gp.length := List.length_pos_of_mem hx
    show R.length + 1 ≤ gp.length
    omega
theorem nd_app {R : List Nat} {h : Nat} (nd : R.Nodup) (c : R.contains h = false) : (R ++ [h]).Nodup := by
  rw [List.nodup_append]
  refine ⟨nd, by simp, fun a ha b hb e => ?_⟩
  rw [List.mem_singleton] at hb
  rw [e, hb] at ha
  rw [List.contains_iff_mem.mpr ha] at c
  cases c
theorem Gp.wk_ok (G : Gp g gp) : ∀ (m h : Nat) (R : List Nat), R.Nodup → (∀ x ∈ R, x ∈ gp) → h ∈ gp → gp.length + 1 = m + R.length →
    (wk g m h R).Nodup ∧ (∀ x ∈ wk g m h R, x ∈ gp) ∧ ∃ S, wk g m h R = R ++ S ∧ (R = [] → S.head? = some h)
  | 0, h, R, nd, sub, hh, e => by
    have := nd_len nd sub
    omega
  | m + 1, h, R, nd, sub, hh, e => by
    unfold Pm.wk
    cases c : R.contains h with
    | true =>
      rw [if_pos rfl]
      refine ⟨nd, sub, [], (List.append_nil _).symm, fun z => ?_⟩
      rw [z] at c
      cases c
    | false =>
      rw [if_neg (by decide)]
      obtain ⟨a, b, S, h1, h2⟩ := G.wk_ok m (g h) (R ++ [h]) (nd_app nd c) (fun x hx => by
        rcases List.mem_append.mp hx with hx | hx
        · exact sub x hx
        · rw [List.mem_singleton.mp hx]
          exact hh) (G.cl h hh) (by rw [List.length_append]; show _ = m + (R.length + 1); omega)
      refine ⟨a, b, h :: S, by rw [h1, List.append_assoc]; rfl, fun _ => rfl⟩
theorem Gp.walk (G : Gp g gp) : (walkF g gp).Nodup ∧ (∀ x ∈ walkF g gp, x ∈ gp) ∧ (walkF g gp).head? = some (startF g gp) := by
  obtain ⟨a, b, S, h1, h2⟩ := G.wk_ok (gp.length + 1) (startF g gp) [] List.nodup_nil (fun _ h => nomatch h) G.start rfl
  exact ⟨a, b, by
    show (wk g (gp.length + 1) (startF g gp) []).head? = _
    rw [h1]
    exact h2 rfl⟩
theorem Gp.row_mem (G : Gp g gp) {x : Nat} : x ∈ rowF g gp ↔ x ∈ gp := by
  unfold rowF
  rw [List.mem_append, List.mem_filter]
  constructor
  · rintro (h | h)
    · exact G.walk.2.1 x h
    · exact h.1
  · intro h
    cases c : (walkF g gp).contains x with
    | true => exact Or.inl (List.contains_iff_mem.mp c)
    | false => exact Or.inr ⟨h, rfl⟩
theorem Gp.row_nd (G : Gp g gp) : (rowF g gp).Nodup := by
  unfold rowF
  rw [List.nodup_append]
  refine ⟨G.walk.1, nodup_filter _ G.nd, fun a ha b hb e => ?_⟩
  rw [e] at ha
  have := (List.mem_filter.mp hb).2
  rw [List.contains_iff_mem.mpr ha] at this
  cases this
theorem perm_of_mem {a b : List Nat} (na : a.Nodup) (nb : b.Nodup) (h : ∀ x, x ∈ a ↔ x ∈ b) : a.Perm b :=
  perm_of_sub na (fun x hx => (h x).mp hx) (Nat.le_antisymm (nd_len na fun x hx => (h x).mp hx) (nd_len nb fun x hx => (h x).mpr hx))
theorem Gp.row_perm (G : Gp g gp) : gp.Perm (rowF g gp) := perm_of_mem G.nd G.row_nd fun x => G.row_mem.symm
theorem Gp.row_len (G : Gp g gp) : (rowF g gp).length = gp.length := G.row_perm.length_eq.symm
theorem headD_of {l : List Nat} {x : Nat} (h : l.head? = some x) : l.getD 0 0 = x := by
  cases l with
  | nil => cases h
  | cons a l => exact Option.some.inj h
theorem head_app {l m : List Nat} {x : Nat} (h : l.head? = some x) : (l ++ m).head? = some x := by
  cases l with
  | nil => cases h
  | cons a l => exact h
theorem Gp.row_0 (G : Gp g gp) : (rowF g gp).getD 0 0 = startF g gp := headD_of (head_app G.walk.2.2)
theorem Gp.start_1 (G : Gp g gp) (h : (gp.filter fun x => !(gp.map g).contains x) = []) : gp.head? = some (startF g gp) := by
  unfold startF
  rw [h]
  cases gp with
  | nil => exact absurd rfl G.ne
  | cons a l => rfl
theorem Gp.start_2 (h : (gp.filter fun x => !(gp.map g).contains x) ≠ []) : (gp.filter fun x => !(gp.map g).contains x).head? = some (startF g gp) := by
  unfold startF
  cases e : gp.filter fun x => !(gp.map g).contains x with
  | nil => exact absurd e h
  | cons a l => rfl
theorem getD_take_mem {p : List Nat} {j : Nat} : ∀ {x : Nat}, x ∈ p.take j → ∃ k, k < j ∧ k < p.length ∧ p.getD k 0 = x := fun {x} h => by
  obtain ⟨k, hk, e⟩ := List.getElem_of_mem h
  rw [List.length_take] at hk
  rw [List.getElem_take] at e
  refine ⟨k, by omega, by omega, ?_⟩
  rw [List.getD_eq_getElem?_getD, List.getElem?_eq_getElem (by omega)]
  exact e
theorem walks_notin {g : Nat → Nat} {p : List Nat} (w : Walks g p) {j : Nat} (h : j < p.length) : (p.take j).contains (p.getD j 0) = false := by
  cases c : (p.take j).contains (p.getD j 0) with
  | false => rfl
  | true =>
    rw [List.contains_iff_mem] at c
    obtain ⟨k, h1, h2, e⟩ := getD_take_mem c
    rw [List.getD_eq_getElem?_getD, List.getD_eq_getElem?_getD, List.getElem?_eq_getElem h2, List.getElem?_eq_getElem h] at e
    have := (List.getElem_inj (h₀ := h2) (h₁ := h) w.nd).mp e
    omega
theorem take_one {p : List Nat} {j : Nat} (h : j < p.length) : p.take (j + 1) = p.take j ++ [p.getD j 0] := by
  rw [List.take_add_one, List.getElem?_eq_getElem h, List.getD_eq_getElem?_getD, List.getElem?_eq_getElem h]
  rfl
/-- a walk that is known is what the walk finds -/
theorem wk_of {p : List Nat} (W : Walks g p) : ∀ (m j : Nat), j ≤ p.length → p.length < m + j → wk g m (if j < p.length then p.getD j 0 else g (p.getD (p.length - 1) 0)) (p.take j) = p
  | 0, j, h1, h2 => absurd h1 (by omega)
  | m + 1, j, h1, h2 => by
    have hni := fun j h => walks_notin W (j := j) h
    unfold wk
    by_cases c : j < p.length
    · rw [if_pos c, hni j c, if_neg (by decide), ← take_one c]
      have := wk_of W m (j + 1) (by omega) (by omega)
      have e : g (p.getD j 0) = (if j + 1 < p.length then p.getD (j + 1) 0 else g (p.getD (p.length - 1) 0)) := by
        split
        · exact W.next j (by assumption)
        · rw [show p.length - 1 = j by omega]
      rw [e]
      exact this
    · rw [if_neg c, List.take_of_length_le (by omega), List.contains_iff_mem.mpr W.back, if_pos rfl]
theorem Grp.startF_eq {b : Bk} (B : Grp g gp b) (hne : gp ≠ []) : startF g gp = b.2.getD 0 0 := by
  obtain ⟨h1, h2⟩ := B.start _ rfl
  unfold startF
  cases e : gp.filter fun x => !(gp.map g).contains x with
  | nil =>
    have := h1 e
    cases gp with
    | nil => exact absurd rfl hne
    | cons a l => exact Option.some.inj this
  | cons a l =>
    have := h2 (by rw [e]; exact List.cons_ne_nil _ _)
    rw [e] at this
    exact Option.some.inj this
theorem path_le' {b : Bk} (B : Grp g gp b) : (path b).length ≤ gp.length := by
  have h := congrArg List.length B.left
  have h2 := B.perm.length_eq
  rw [List.length_append] at h
  omega
theorem Grp.rowF_eq {b : Bk} (B : Grp g gp b) (hne : gp ≠ []) : rowF g gp = b.2 := by
  have W := B.walks
  have e : walkF g gp = path b := by
    unfold walkF
    rw [B.startF_eq hne, ← path_0]
    have := wk_of W (gp.length + 1) 0 (Nat.zero_le _) (by have := path_le' B; omega)
    rw [if_pos W.pos] at this
    exact this
  unfold rowF
  rw [e]
  exact B.left
theorem idx_nd {row : List Nat} (nd : row.Nodup) {k : Nat} (h : k < row.length) : row.idxOf (row.getD k 0) = k := by
  rw [List.getD_eq_getElem?_getD, List.getElem?_eq_getElem h]
  exact nd.idxOf_getElem k h
theorem Fits.shape {row : List Nat} {w : Nat} (F : Fits g row w) (nd : row.Nodup) : shapeF g row = form w := by
  unfold shapeF
  refine List.ext_getElem (by rw [List.length_map, F.len]) fun k h1 h2 => ?_
  rw [List.length_map] at h1
  rw [List.getElem_map]
  have e := F.sh k h1
  rw [List.getD_eq_getElem?_getD, List.getElem?_eq_getElem h1] at e
  have e : g row[k] = row.getD ((form w).getD k 0) 0 := e
  rw [e, idx_nd nd (by rw [F.len]; exact form_lt w k h2)]
  rw [List.getD_eq_getElem?_getD, List.getElem?_eq_getElem h2]
  rfl
theorem idx_mem {row : List Nat} {x : Nat} (h : x ∈ row) : row.getD (row.idxOf x) 0 = x := by
  have hl := List.idxOf_lt_length_of_mem h
  rw [List.getD_eq_getElem?_getD, List.getElem?_eq_getElem hl]
  exact List.getElem_idxOf hl
theorem Gp.grp_of (G : Gp g gp) {w : Nat} (hw : w < 8) (e : shapeF g (rowF g gp) = form w) : Grp g gp (w, rowF g gp) ∧ Fits g (rowF g gp) w := by
  have hl : (rowF g gp).length = (form w).length := by
    rw [← e]
    unfold shapeF
    rw [List.length_map]
  have sh : ∀ k, k < (rowF g gp).length → g ((rowF g gp).getD k 0) = (rowF g gp).getD ((form w).getD k 0) 0 := fun k hk => by
    have h1 : (form w).getD k 0 = (rowF g gp).idxOf (g ((rowF g gp).getD k 0)) := by
      rw [← e]
      unfold shapeF
      rw [List.getD_eq_getElem?_getD, List.getElem?_map, List.getElem?_eq_getElem hk, List.getD_eq_getElem?_getD, List.getElem?_eq_getElem hk]
      rfl
    have hm : g ((rowF g gp).getD k 0) ∈ rowF g gp := G.row_mem.mpr (G.cl _ (G.row_mem.mp (getD_mem hk)))
    rw [h1, idx_mem hm]
  have B : Grp g gp (w, rowF g gp) := Grp.of_row G.asc G.row_perm hw hl sh (fun h => by rw [G.row_0]; exact G.start_1 h) (fun h => by rw [G.row_0]; exact Gp.start_2 h)
  exact ⟨B, hl, sh, B.can⟩
theorem grp_of_fits {row : List Nat} {w : Nat} (asc : gp.Pairwise (· < ·)) (hw : w < 8) (p : row.Perm gp) (F : Fits g row w) : Grp g gp (w, row) := ⟨asc, p.symm, cs_of hw F.len F.sh, F.can⟩
theorem form_inj : ∀ {w v : Nat}, w < 8 → v < 8 → form w = form v → w = v := by
  have d : ∀ w v : Fin 8, form w.val = form v.val → w = v := by decide
  intro w v hw hv h
  exact congrArg Fin.val (d ⟨w, hw⟩ ⟨v, hv⟩ h)
theorem Gp.piece_of (G : Gp g gp) {row : List Nat} {w : Nat} (hw : w < 8) (p : row.Perm gp) (F : Fits g row w) : pieceF g gp = some (w, row) := by
  have B := grp_of_fits G.asc hw p F
  have e : rowF g gp = row := B.rowF_eq G.ne
  have nd : row.Nodup := p.nodup_iff.mpr G.nd
  unfold pieceF
  rw [e, F.shape nd]
  cases h : (List.range 8).find? fun v => decide (form v = form w) with
  | none =>
    have := List.find?_eq_none.mp h w (List.mem_range.mpr hw)
    simp at this
  | some v =>
    have h1 := List.mem_range.mp (List.mem_of_find?_eq_some h)
    have h2 := List.find?_some h
    rw [form_inj h1 hw (by simpa using h2)]
    rfl
theorem Gp.formOf (G : Gp g gp) : FormOf g gp (pieceF g gp) := by
  cases h : pieceF g gp with
  | none =>
    intro w row hw hp F
    rw [G.piece_of hw hp F] at h
    cases h
  | some b =>
    unfold pieceF at h
    cases hf : (List.range 8).find? fun w => decide (form w = shapeF g (rowF g gp)) with
    | none => rw [hf] at h; cases h
    | some w =>
      rw [hf] at h
      have h := Option.some.inj h
      subst h
      have hw := List.mem_range.mp (List.mem_of_find?_eq_some hf)
      have e := List.find?_some hf
      have F := (G.grp_of hw (by simpa using (of_decide_eq_true e).symm)).2
      exact ⟨hw, G.row_perm.symm, F⟩
theorem Gp.form_one (G : Gp g gp) {o : Option Bk} (h : FormOf g gp o) : o = pieceF g gp := by
  have h2 := G.formOf
  cases o with
  | some b => exact (G.piece_of h.1 h.2.1 h.2.2).symm
  | none =>
    cases e : pieceF g gp with
    | none => rfl
    | some b =>
      rw [e] at h2
      exact absurd h2.2.2 (h b.1 b.2 h2.1 h2.2.1)
theorem Gp.grp (G : Gp g gp) {b : Bk} (h : pieceF g gp = some b) : Grp g gp b ∧ b.1 < 8 := by
  have h2 := G.formOf
  rw [h] at h2
  exact ⟨grp_of_fits G.asc h2.1 h2.2.1 h2.2.2, h2.1⟩
end
theorem gp_of {ys : List Nat} (ok : Rec ys) {r : Nat} (h : r ∈ rootsF ys) : Gp (fun x => ys.getD x 0) (grpF ys r) := ⟨grpF_asc r, fun _ hx => grpF_closed ok hx, root_ne h⟩
/-- all groups, in order; the first one that is no piece -/
def gpsF (ys : List Nat) : List (List Nat) := (rootsF ys).map (grpF ys)
def formsF (ys : List Nat) : List (Option Bk) := (gpsF ys).map (pieceF fun x => ys.getD x 0)
def badF (ys : List Nat) : Option (List Nat) := (gpsF ys).find? fun gp => (pieceF (fun x => ys.getD x 0) gp).isNone
end Pm

namespace Pv
open PySem L2
/-! ### error classes -/
def veM (M : Addr) : List Value := [.ref M, .type "ValueError", .type "Exception", .type "BaseException", .type "object"]
structure ErrK (K : PySem.W.Frag) (mg : Str → Option Value) (M C : Addr) (x : Str) : Prop where
  g : mg x = some (.ref C)
  k : PySem.W.keepIn K (.ref C) = true
  l : ∃ nm q N bs sn sub ab col dd k0 k1 k2 k3 k5, K.lookup C = some (excClassObj nm q C N bs (veM M) true sn sub ab col dd k0 k1 k2 k3 k5 "ValueError.__new__")
  sa : PySem.W.findIn K (.ref C) "__setattr__" = some (some (.builtin "object.__setattr__"))
  ga : PySem.W.findIn K (.ref C) "__getattribute__" = some (some (.builtin "BaseException.__getattribute__"))
  gg : PySem.W.findIn K (.ref C) "__getattr__" = some none
  ca : PySem.W.findIn K (.ref C) "__class__" = some (some (.builtin "object.__class__"))
structure ErrM (K : PySem.W.Frag) (mg : Str → Option Value) (M : Addr) : Prop where
  g : mg "MendError" = some (.ref M)
  l : ∃ nm q N bs bm sn sub ab col dd k0 k1 k2 k3 k5, K.lookup M = some (excClassObj nm q M N bs bm true sn sub ab col dd k0 k1 k2 k3 k5 "ValueError.__new__")
structure ErrF (K : PySem.W.Frag) (C I : Addr) (qual f : Str) (st : Stmt) : Prop where
  i : PySem.W.findIn K (.ref C) "__init__" = some (some (.ref I))
  t : PySem.W.typeIn K (.ref I) = some (.type "function")
  nf : PySem.W.findIn K (.ref C) f = some none
  fn : ∃ fd, Fun K "__init__" qual st I fd
section
variable {K : PySem.W.Frag} {mg : Str → Option Value} {M C D : Addr} {x : Str}
theorem ErrK.ty (E : ErrK K mg M C x) : PySem.W.typeIn K (.ref C) = some (.type "type") := by
  obtain ⟨nm, q, N, bs, sn, sub, ab, col, dd, k0, k1, k2, k3, k5, h⟩ := E.l
  show (K.lookup C).map (·.cls) = _
  rw [h]
  rfl
theorem ErrM.ty (E : ErrM K mg M) : PySem.W.typeIn K (.ref M) = some (.type "type") := by
  obtain ⟨nm, q, N, bs, bm, sn, sub, ab, col, dd, k0, k1, k2, k3, k5, h⟩ := E.l
  show (K.lookup M).map (·.cls) = _
  rw [h]
  rfl
theorem ErrM.cls (E : ErrM K mg M) : (PySem.W.clsIn K M).isSome = true := by
  obtain ⟨nm, q, N, bs, bm, sn, sub, ab, col, dd, k0, k1, k2, k3, k5, h⟩ := E.l
  unfold PySem.W.clsIn
  rw [h]
  rfl
theorem ErrK.mro (E : ErrK K mg M C x) (v : Value) : PySem.W.mroIn K C v = some ((Value.ref C :: veM M).contains v) := by
  obtain ⟨nm, q, N, bs, sn, sub, ab, col, dd, k0, k1, k2, k3, k5, h⟩ := E.l
  unfold PySem.W.mroIn PySem.W.clsIn
  rw [h]
  rfl
theorem ErrK.cls (E : ErrK K mg M C x) : (PySem.W.clsIn K C).isSome = true := by
  obtain ⟨nm, q, N, bs, sn, sub, ab, col, dd, k0, k1, k2, k3, k5, h⟩ := E.l
  unfold PySem.W.clsIn
  rw [h]
  rfl
theorem ErrK.hd (E : ErrK K mg M C x) : PySem.W.hasDictIn K C = true := by
  obtain ⟨nm, q, N, bs, sn, sub, ab, col, dd, k0, k1, k2, k3, k5, h⟩ := E.l
  unfold PySem.W.hasDictIn PySem.W.clsIn
  rw [h]
  rfl
theorem ErrK.sub (E : ErrK K mg M C x) : PySem.W.subIn K (.ref C) (.type "BaseException") = some true := by
  show PySem.W.mroIn K C _ = _
  rw [E.mro]
  simp [veM]
theorem ErrK.xfc (E : ErrK K mg M C x) : XfC K C := ⟨E.ga, E.gg, E.sub, E.hd⟩
theorem ErrK.oex (E : ErrK K mg M C x) : OexC K C := by
  obtain ⟨nm, q, N, bs, sn, sub, ab, col, dd, k0, k1, k2, k3, k5, h⟩ := E.l
  exact ⟨⟨nm, q, N, bs, veM M, sn, sub, ab, col, dd, k0, k1, k2, k3, k5, h, rfl⟩, E.sa, E.sub, E.ty, E.k⟩
theorem ErrK.exc (E : ErrK K mg M C x) (cn : PySem.W.specialIn K (.builtin "object.__class__") "__get__" = some (some (.builtin "getset_descriptor.__get__"))) (ct : PySem.W.takesIn K (.builtin "object.__class__") = some true) : ExcC K C :=
  ⟨E.ga, E.gg, E.sub, E.hd, E.ca, cn, ct, by rw [E.mro]; simp [veM]⟩
theorem kitCls_ref {t : Value} (h1 : (PySem.W.clsIn K D).isSome = true) (h2 : PySem.W.typeIn K (.ref D) = some (.type "type")) : PySem.W.kitCls K t (.ref D) = PySem.W.subIn K t (.ref D) := by
  show (if ((PySem.W.clsIn K D).isSome && PySem.W.typeIn K (.ref D) == some (.type "type")) = true then PySem.W.subIn K t (.ref D) else none) = _
  rw [h1, h2, if_pos (by simp)]
/-- isinstance against the class itself, its base, ValueError, another class -/
theorem kit_self : PySem.W.kitOne K (.ref C) (.ref C) = some true := by
  unfold PySem.W.kitOne
  rw [if_pos (by simp)]
theorem ErrK.kit_ne {y : Str} (E : ErrK K mg M C x) (F : ErrK K mg M D y) (h : C ≠ D) (hM : M ≠ D) : PySem.W.kitOne K (.ref C) (.ref D) = some false := by
  unfold PySem.W.kitOne
  rw [if_neg (by simp [h])]
  rw [kitCls_ref F.cls F.ty]
  show PySem.W.mroIn K C _ = _
  rw [E.mro]
  have h1 : D ≠ C := fun z => h z.symm
  have h2 : D ≠ M := fun z => hM z.symm
  simp [veM, h1, h2]
theorem ErrK.kit_base (E : ErrK K mg M C x) (F : ErrM K mg M) (h : C ≠ M) : PySem.W.kitOne K (.ref C) (.ref M) = some true := by
  unfold PySem.W.kitOne
  rw [if_neg (by simp [h])]
  rw [kitCls_ref F.cls F.ty]
  show PySem.W.mroIn K C _ = _
  rw [E.mro]
  simp [veM]
theorem ErrK.kit_ve (E : ErrK K mg M C x) : PySem.W.kitOne K (.ref C) (.type "ValueError") = some true := by
  unfold PySem.W.kitOne
  rw [if_neg (by simp)]
  unfold PySem.W.kitCls
  show (if PySem.W.kitMeta "ValueError" = true then PySem.W.mroIn K C (.type "ValueError") else none) = _
  rw [if_pos (by decide +kernel), E.mro]
  simp [veM]
theorem ErrK.exm (E : ErrK K mg M C x) : PySem.W.exmOne K (.ref C) (.ref C) = some true := by
  unfold PySem.W.exmOne
  rw [E.sub, if_pos (by simp)]
  rw [kitCls_ref E.cls E.ty]
  show PySem.W.mroIn K C _ = _
  rw [E.mro]
  simp
theorem ErrK.exm_ne {y : Str} (E : ErrK K mg M C x) (F : ErrK K mg M D y) (h : C ≠ D) (hM : M ≠ D) : PySem.W.exmOne K (.ref C) (.ref D) = some false := by
  unfold PySem.W.exmOne
  rw [F.sub, if_pos (by simp)]
  rw [kitCls_ref F.cls F.ty]
  show PySem.W.mroIn K C _ = _
  rw [E.mro]
  have h1 : D ≠ C := fun z => h z.symm
  have h2 : D ≠ M := fun z => hM z.symm
  simp [veM, h1, h2]
end
def word : Nat → Str
  | 0 => "free" | 1 => "pair" | 2 => "claim" | 3 => "hook" | 4 => "relay" | 5 => "clamp" | 6 => "trail" | _ => "wheel"
def wordsV : List V := [.str "free", .str "pair", .str "claim", .str "hook", .str "relay", .str "clamp", .str "trail", .str "wheel"]
def formsT : List (List Nat × Str) := [([0], "free"), ([1, 0], "pair"), ([1, 1], "claim"), ([1, 2, 1], "hook"), ([1, 2, 2], "relay"), ([1, 2, 1, 2], "clamp"), ([1, 2, 3, 2], "trail"), ([1, 2, 3, 0], "wheel")]
/-- a def with its promise: how it binds, too -/
def Okd (P : Program) (w : World) (K : PySem.W.Frag) (mg : Str → Option Value) (base : Heap) (CX : CXT) (k : Nat) (f : Addr) (ps : List Str) (sp : Sp) : Prop := ∃ fd, FnOk P w K mg base CX k f fd ps sp ∧ Binds K fd ps []
/-- a def called where an exception is handled, with its promise -/
def Okh (P : Program) (w : World) (K : PySem.W.Frag) (mg : Str → Option Value) (base : Heap) (CX : CXT) (k : Nat) (f : Addr) (ps : List Str) (sp : Sp) : Prop := ∃ fd, L2H.FnH P w K mg base CX k f fd ps sp ∧ Binds K fd ps []
/-! ### the text -/
def top (i : Nat) : Stmt := PySem.Challenge.pw_peermend_k02_whole_bad_groups.main.body.getD i (.Pass ⟨0, 0, 0, 0⟩)
abbrev s_own : Stmt := top 5
abbrev s_check_image : Stmt := top 7
abbrev s_groups : Stmt := top 8
abbrev s_least_records : Stmt := top 9
abbrev s_pieces : Stmt := top 14
abbrev s_is_repairable : Stmt := top 15
abbrev s_census : Stmt := top 16
abbrev s_torn_pieces : Stmt := top 17
abbrev s_piece_of : Stmt := top 18
abbrev s_row_of : Stmt := top 19
abbrev s_image_number : Stmt := top 22
abbrev s_law_bag : Stmt := top 31
abbrev s_law_take : Stmt := top 32
abbrev s_law_order : Stmt := top 33
abbrev s_law_words : Stmt := top 34
abbrev s_law_pattern : Stmt := top 35
abbrev s_law_forms : Stmt := top 36
abbrev s_law_built : Stmt := top 37
abbrev s_law_drawn : Stmt := top 38
abbrev s_law_first_stray : Stmt := top 39
abbrev s_law_joined : Stmt := top 40
abbrev s_law_orders : Stmt := top 41
abbrev s_law_fits_form : Stmt := top 42
abbrev s_law_form_of : Stmt := top 43
abbrev s_law_row_meets : Stmt := top 44
abbrev s_law_groups_meet : Stmt := top 45
abbrev s_law_pieces_meet : Stmt := top 46
abbrev s_law_asked : Stmt := top 47
abbrev s_law_refused_stray : Stmt := top 48
abbrev s_law_refused_group : Stmt := top 49
abbrev s_law : Stmt := top 50
abbrev s_InvalidImage : Stmt := inClass (top 3) 0
abbrev s_Unrepairable : Stmt := inClass (top 4) 0
structure Ad where
  own : Addr
  check_image : Addr
  groups : Addr
  least_records : Addr
  pieces : Addr
  is_repairable : Addr
  census : Addr
  torn_pieces : Addr
  piece_of : Addr
  row_of : Addr
  image_number : Addr
  law_bag : Addr
  law_take : Addr
  law_order : Addr
  law_words : Addr
  law_pattern : Addr
  law_forms : Addr
  law_built : Addr
  law_drawn : Addr
  law_first_stray : Addr
  law_joined : Addr
  law_orders : Addr
  law_fits_form : Addr
  law_form_of : Addr
  law_row_meets : Addr
  law_groups_meet : Addr
  law_pieces_meet : Addr
  law_asked : Addr
  law_refused_stray : Addr
  law_refused_group : Addr
  law : Addr
  WORDS : Addr
  WHOLE : Addr
  FORMS : Addr
  MendError : Addr
  InvalidImage : Addr
  Unrepairable : Addr
  i_InvalidImage : Addr
  i_Unrepairable : Addr
abbrev N_own : List Str := ["given"]
abbrev P_own : List Str := ["given"]
theorem sc_own : FnScope N_own P_own (defScope s_own) := ⟨rfl, rfl, rfl, by decide +kernel, rfl, by decide +kernel, by decide +kernel⟩
abbrev N_check_image : List Str := ["image", "size", "record", "name"]
abbrev P_check_image : List Str := ["image"]
theorem sc_check_image : FnScope N_check_image P_check_image (defScope s_check_image) := ⟨rfl, rfl, rfl, by decide +kernel, rfl, by decide +kernel, by decide +kernel⟩
abbrev N_groups : List Str := ["image", "found", "record", "least"]
abbrev P_groups : List Str := ["image"]
theorem sc_groups : FnScope N_groups P_groups (defScope s_groups) := ⟨rfl, rfl, rfl, by decide +kernel, rfl, by decide +kernel, by decide +kernel⟩
abbrev N_least_records : List Str := ["image", "least", "record", "name", "low", "high", "old"]
abbrev P_least_records : List Str := ["image"]
theorem sc_least_records : FnScope N_least_records P_least_records (defScope s_least_records) := ⟨rfl, rfl, rfl, by decide +kernel, rfl, by decide +kernel, by decide +kernel⟩
abbrev N_pieces : List Str := ["image", "found", "group", "piece"]
abbrev P_pieces : List Str := ["image"]
theorem sc_pieces : FnScope N_pieces P_pieces (defScope s_pieces) := ⟨rfl, rfl, rfl, by decide +kernel, rfl, by decide +kernel, by decide +kernel⟩
abbrev N_is_repairable : List Str := ["image", "group"]
abbrev P_is_repairable : List Str := ["image"]
theorem sc_is_repairable : FnScope N_is_repairable P_is_repairable (defScope s_is_repairable) := ⟨rfl, rfl, rfl, by decide +kernel, rfl, by decide +kernel, by decide +kernel⟩
abbrev N_census : List Str := ["image", "counts", "word", "_"]
abbrev P_census : List Str := ["image"]
theorem sc_census : FnScope N_census P_census (defScope s_census) := ⟨rfl, rfl, rfl, by decide +kernel, rfl, by decide +kernel, by decide +kernel⟩
abbrev N_torn_pieces : List Str := ["image", "piece"]
abbrev P_torn_pieces : List Str := ["image"]
theorem sc_torn_pieces : FnScope N_torn_pieces P_torn_pieces (defScope s_torn_pieces) := ⟨rfl, rfl, rfl, by decide +kernel, rfl, by decide +kernel, by decide +kernel⟩
abbrev N_piece_of : List Str := ["image", "group", "records", "shape", "word", "record"]
abbrev P_piece_of : List Str := ["image", "group"]
theorem sc_piece_of : FnScope N_piece_of P_piece_of (defScope s_piece_of) := ⟨rfl, rfl, rfl, by decide +kernel, rfl, by decide +kernel, by decide +kernel⟩
abbrev N_row_of : List Str := ["image", "group", "shown", "tails", "here", "row", "record"]
abbrev P_row_of : List Str := ["image", "group"]
theorem sc_row_of : FnScope N_row_of P_row_of (defScope s_row_of) := ⟨rfl, rfl, rfl, by decide +kernel, rfl, by decide +kernel, by decide +kernel⟩
abbrev N_image_number : List Str := ["image", "found", "totals", "left", "number", "_", "records", "group", "record"]
abbrev P_image_number : List Str := ["image"]
theorem sc_image_number : FnScope N_image_number P_image_number (defScope s_image_number) := ⟨rfl, rfl, rfl, by decide +kernel, rfl, by decide +kernel, by decide +kernel⟩
abbrev N_law_bag : List Str := ["script", "great", "first", "second", "cell"]
abbrev P_law_bag : List Str := ["script"]
theorem sc_law_bag : FnScope N_law_bag P_law_bag (defScope s_law_bag) := ⟨rfl, rfl, rfl, by decide +kernel, rfl, by decide +kernel, by decide +kernel⟩
abbrev N_law_take : List Str := ["bag", "size", "digit"]
abbrev P_law_take : List Str := ["bag", "size"]
theorem sc_law_take : FnScope N_law_take P_law_take (defScope s_law_take) := ⟨rfl, rfl, rfl, by decide +kernel, rfl, by decide +kernel, by decide +kernel⟩
abbrev N_law_order : List Str := ["bag", "size", "spare", "order", "k"]
abbrev P_law_order : List Str := ["bag", "size"]
theorem sc_law_order : FnScope N_law_order P_law_order (defScope s_law_order) := ⟨rfl, rfl, rfl, by decide +kernel, rfl, by decide +kernel, by decide +kernel⟩
abbrev N_law_words : List Str := []
abbrev P_law_words : List Str := []
theorem sc_law_words : FnScope N_law_words P_law_words (defScope s_law_words) := ⟨rfl, rfl, rfl, by decide +kernel, rfl, by decide +kernel, by decide +kernel⟩
abbrev N_law_pattern : List Str := ["which", "forms"]
abbrev P_law_pattern : List Str := ["which"]
theorem sc_law_pattern : FnScope N_law_pattern P_law_pattern (defScope s_law_pattern) := ⟨rfl, rfl, rfl, by decide +kernel, rfl, by decide +kernel, by decide +kernel⟩
abbrev N_law_forms : List Str := ["bag", "forms", "used", "k", "which", "many", "form", "at"]
abbrev P_law_forms : List Str := ["bag"]
theorem sc_law_forms : FnScope N_law_forms P_law_forms (defScope s_law_forms) := ⟨rfl, rfl, rfl, by decide +kernel, rfl, by decide +kernel, by decide +kernel⟩
abbrev N_law_built : List Str := ["bag", "forms", "order", "shown", "used", "form", "k", "at"]
abbrev P_law_built : List Str := ["bag"]
theorem sc_law_built : FnScope N_law_built P_law_built (defScope s_law_built) := ⟨rfl, rfl, rfl, by decide +kernel, rfl, by decide +kernel, by decide +kernel⟩
abbrev N_law_drawn : List Str := ["bag", "spoilt", "size", "shown", "at", "far", "k"]
abbrev P_law_drawn : List Str := ["bag"]
theorem sc_law_drawn : FnScope N_law_drawn P_law_drawn (defScope s_law_drawn) := ⟨rfl, rfl, rfl, by decide +kernel, rfl, by decide +kernel, by decide +kernel⟩
abbrev N_law_first_stray : List Str := ["shown", "k"]
abbrev P_law_first_stray : List Str := ["shown"]
theorem sc_law_first_stray : FnScope N_law_first_stray P_law_first_stray (defScope s_law_first_stray) := ⟨rfl, rfl, rfl, by decide +kernel, rfl, by decide +kernel, by decide +kernel⟩
abbrev N_law_joined : List Str := ["shown", "leader", "k", "low", "high", "at", "found"]
abbrev P_law_joined : List Str := ["shown"]
theorem sc_law_joined : FnScope N_law_joined P_law_joined (defScope s_law_joined) := ⟨rfl, rfl, rfl, by decide +kernel, rfl, by decide +kernel, by decide +kernel⟩
abbrev N_law_orders : List Str := ["group", "rows", "k", "longer", "row", "at"]
abbrev P_law_orders : List Str := ["group"]
theorem sc_law_orders : FnScope N_law_orders P_law_orders (defScope s_law_orders) := ⟨rfl, rfl, rfl, by decide +kernel, rfl, by decide +kernel, by decide +kernel⟩
abbrev N_law_fits_form : List Str := ["shown", "row", "which", "form", "k"]
abbrev P_law_fits_form : List Str := ["shown", "row", "which"]
theorem sc_law_fits_form : FnScope N_law_fits_form P_law_fits_form (defScope s_law_fits_form) := ⟨rfl, rfl, rfl, by decide +kernel, rfl, by decide +kernel, by decide +kernel⟩
abbrev N_law_form_of : List Str := ["shown", "group", "row", "which"]
abbrev P_law_form_of : List Str := ["shown", "group"]
theorem sc_law_form_of : FnScope N_law_form_of P_law_form_of (defScope s_law_form_of) := ⟨rfl, rfl, rfl, by decide +kernel, rfl, by decide +kernel, by decide +kernel⟩
abbrev N_law_row_meets : List Str := ["told", "due", "k"]
abbrev P_law_row_meets : List Str := ["told", "due"]
theorem sc_law_row_meets : FnScope N_law_row_meets P_law_row_meets (defScope s_law_row_meets) := ⟨rfl, rfl, rfl, by decide +kernel, rfl, by decide +kernel, by decide +kernel⟩
abbrev N_law_groups_meet : List Str := ["told", "due", "k"]
abbrev P_law_groups_meet : List Str := ["told", "due"]
theorem sc_law_groups_meet : FnScope N_law_groups_meet P_law_groups_meet (defScope s_law_groups_meet) := ⟨rfl, rfl, rfl, by decide +kernel, rfl, by decide +kernel, by decide +kernel⟩
abbrev N_law_pieces_meet : List Str := ["told", "due", "k"]
abbrev P_law_pieces_meet : List Str := ["told", "due"]
theorem sc_law_pieces_meet : FnScope N_law_pieces_meet P_law_pieces_meet (defScope s_law_pieces_meet) := ⟨rfl, rfl, rfl, by decide +kernel, rfl, by decide +kernel, by decide +kernel⟩
abbrev N_law_asked : List Str := ["way", "handed"]
abbrev P_law_asked : List Str := ["way", "handed"]
theorem sc_law_asked : FnScope N_law_asked P_law_asked (defScope s_law_asked) := ⟨rfl, rfl, rfl, by decide +kernel, rfl, by decide +kernel, by decide +kernel⟩
abbrev N_law_refused_stray : List Str := ["way", "handed", "stray", "raised"]
abbrev P_law_refused_stray : List Str := ["way", "handed", "stray"]
theorem sc_law_refused_stray : FnScope N_law_refused_stray P_law_refused_stray (defScope s_law_refused_stray) := ⟨rfl, rfl, rfl, by decide +kernel, rfl, by decide +kernel, by decide +kernel⟩
abbrev N_law_refused_group : List Str := ["way", "handed", "group", "raised"]
abbrev P_law_refused_group : List Str := ["way", "handed", "group"]
theorem sc_law_refused_group : FnScope N_law_refused_group P_law_refused_group (defScope s_law_refused_group) := ⟨rfl, rfl, rfl, by decide +kernel, rfl, by decide +kernel, by decide +kernel⟩
abbrev N_law : List Str := ["script", "bag", "shown", "handed", "stray", "way", "due", "good", "forms", "first", "group"]
abbrev P_law : List Str := ["script"]
theorem sc_law : FnScope N_law P_law (defScope s_law) := ⟨rfl, rfl, rfl, by decide +kernel, rfl, by decide +kernel, by decide +kernel⟩
abbrev N_InvalidImage : List Str := ["self", "record"]
abbrev P_InvalidImage : List Str := ["self", "record"]
theorem sc_InvalidImage : FnScope N_InvalidImage P_InvalidImage (defScope s_InvalidImage) := ⟨rfl, rfl, rfl, by decide +kernel, rfl, by decide +kernel, by decide +kernel⟩
abbrev N_Unrepairable : List Str := ["self", "group"]
abbrev P_Unrepairable : List Str := ["self", "group"]
theorem sc_Unrepairable : FnScope N_Unrepairable P_Unrepairable (defScope s_Unrepairable) := ⟨rfl, rfl, rfl, by decide +kernel, rfl, by decide +kernel, by decide +kernel⟩
structure Txt (K : PySem.W.Frag) (mg : Str → Option Value) (A : Ad) : Prop where
  g_own : mg "_own" = some (.ref A.own)
  k_own : PySem.W.keepIn K (.ref A.own) = true
  d_own : ∃ fd, Fun K "_own" "_own" s_own A.own fd
  g_check_image : mg "check_image" = some (.ref A.check_image)
  k_check_image : PySem.W.keepIn K (.ref A.check_image) = true
  d_check_image : ∃ fd, Fun K "check_image" "check_image" s_check_image A.check_image fd
  g_groups : mg "groups" = some (.ref A.groups)
  k_groups : PySem.W.keepIn K (.ref A.groups) = true
  d_groups : ∃ fd, Fun K "groups" "groups" s_groups A.groups fd
  g_least_records : mg "_least_records" = some (.ref A.least_records)
  k_least_records : PySem.W.keepIn K (.ref A.least_records) = true
  d_least_records : ∃ fd, Fun K "_least_records" "_least_records" s_least_records A.least_records fd
  g_pieces : mg "pieces" = some (.ref A.pieces)
  k_pieces : PySem.W.keepIn K (.ref A.pieces) = true
  d_pieces : ∃ fd, Fun K "pieces" "pieces" s_pieces A.pieces fd
  g_is_repairable : mg "is_repairable" = some (.ref A.is_repairable)
  k_is_repairable : PySem.W.keepIn K (.ref A.is_repairable) = true
  d_is_repairable : ∃ fd, Fun K "is_repairable" "is_repairable" s_is_repairable A.is_repairable fd
  g_census : mg "census" = some (.ref A.census)
  k_census : PySem.W.keepIn K (.ref A.census) = true
  d_census : ∃ fd, Fun K "census" "census" s_census A.census fd
  g_torn_pieces : mg "torn_pieces" = some (.ref A.torn_pieces)
  k_torn_pieces : PySem.W.keepIn K (.ref A.torn_pieces) = true
  d_torn_pieces : ∃ fd, Fun K "torn_pieces" "torn_pieces" s_torn_pieces A.torn_pieces fd
  g_piece_of : mg "_piece_of" = some (.ref A.piece_of)
  k_piece_of : PySem.W.keepIn K (.ref A.piece_of) = true
  d_piece_of : ∃ fd, Fun K "_piece_of" "_piece_of" s_piece_of A.piece_of fd
  g_row_of : mg "_row_of" = some (.ref A.row_of)
  k_row_of : PySem.W.keepIn K (.ref A.row_of) = true
  d_row_of : ∃ fd, Fun K "_row_of" "_row_of" s_row_of A.row_of fd
  g_image_number : mg "image_number" = some (.ref A.image_number)
  k_image_number : PySem.W.keepIn K (.ref A.image_number) = true
  d_image_number : ∃ fd, Fun K "image_number" "image_number" s_image_number A.image_number fd
  g_law_bag : mg "_law_bag" = some (.ref A.law_bag)
  k_law_bag : PySem.W.keepIn K (.ref A.law_bag) = true
  d_law_bag : ∃ fd, Fun K "_law_bag" "_law_bag" s_law_bag A.law_bag fd
  g_law_take : mg "_law_take" = some (.ref A.law_take)
  k_law_take : PySem.W.keepIn K (.ref A.law_take) = true
  d_law_take : ∃ fd, Fun K "_law_take" "_law_take" s_law_take A.law_take fd
  g_law_order : mg "_law_order" = some (.ref A.law_order)
  k_law_order : PySem.W.keepIn K (.ref A.law_order) = true
  d_law_order : ∃ fd, Fun K "_law_order" "_law_order" s_law_order A.law_order fd
  g_law_words : mg "_law_words" = some (.ref A.law_words)
  k_law_words : PySem.W.keepIn K (.ref A.law_words) = true
  d_law_words : ∃ fd, Fun K "_law_words" "_law_words" s_law_words A.law_words fd
  g_law_pattern : mg "_law_pattern" = some (.ref A.law_pattern)
  k_law_pattern : PySem.W.keepIn K (.ref A.law_pattern) = true
  d_law_pattern : ∃ fd, Fun K "_law_pattern" "_law_pattern" s_law_pattern A.law_pattern fd
  g_law_forms : mg "_law_forms" = some (.ref A.law_forms)
  k_law_forms : PySem.W.keepIn K (.ref A.law_forms) = true
  d_law_forms : ∃ fd, Fun K "_law_forms" "_law_forms" s_law_forms A.law_forms fd
  g_law_built : mg "_law_built" = some (.ref A.law_built)
  k_law_built : PySem.W.keepIn K (.ref A.law_built) = true
  d_law_built : ∃ fd, Fun K "_law_built" "_law_built" s_law_built A.law_built fd
  g_law_drawn : mg "_law_drawn" = some (.ref A.law_drawn)
  k_law_drawn : PySem.W.keepIn K (.ref A.law_drawn) = true
  d_law_drawn : ∃ fd, Fun K "_law_drawn" "_law_drawn" s_law_drawn A.law_drawn fd
  g_law_first_stray : mg "_law_first_stray" = some (.ref A.law_first_stray)
  k_law_first_stray : PySem.W.keepIn K (.ref A.law_first_stray) = true
  d_law_first_stray : ∃ fd, Fun K "_law_first_stray" "_law_first_stray" s_law_first_stray A.law_first_stray fd
  g_law_joined : mg "_law_joined" = some (.ref A.law_joined)
  k_law_joined : PySem.W.keepIn K (.ref A.law_joined) = true
  d_law_joined : ∃ fd, Fun K "_law_joined" "_law_joined" s_law_joined A.law_joined fd
  g_law_orders : mg "_law_orders" = some (.ref A.law_orders)
  k_law_orders : PySem.W.keepIn K (.ref A.law_orders) = true
  d_law_orders : ∃ fd, Fun K "_law_orders" "_law_orders" s_law_orders A.law_orders fd
  g_law_fits_form : mg "_law_fits_form" = some (.ref A.law_fits_form)
  k_law_fits_form : PySem.W.keepIn K (.ref A.law_fits_form) = true
  d_law_fits_form : ∃ fd, Fun K "_law_fits_form" "_law_fits_form" s_law_fits_form A.law_fits_form fd
  g_law_form_of : mg "_law_form_of" = some (.ref A.law_form_of)
  k_law_form_of : PySem.W.keepIn K (.ref A.law_form_of) = true
  d_law_form_of : ∃ fd, Fun K "_law_form_of" "_law_form_of" s_law_form_of A.law_form_of fd
  g_law_row_meets : mg "_law_row_meets" = some (.ref A.law_row_meets)
  k_law_row_meets : PySem.W.keepIn K (.ref A.law_row_meets) = true
  d_law_row_meets : ∃ fd, Fun K "_law_row_meets" "_law_row_meets" s_law_row_meets A.law_row_meets fd
  g_law_groups_meet : mg "_law_groups_meet" = some (.ref A.law_groups_meet)
  k_law_groups_meet : PySem.W.keepIn K (.ref A.law_groups_meet) = true
  d_law_groups_meet : ∃ fd, Fun K "_law_groups_meet" "_law_groups_meet" s_law_groups_meet A.law_groups_meet fd
  g_law_pieces_meet : mg "_law_pieces_meet" = some (.ref A.law_pieces_meet)
  k_law_pieces_meet : PySem.W.keepIn K (.ref A.law_pieces_meet) = true
  d_law_pieces_meet : ∃ fd, Fun K "_law_pieces_meet" "_law_pieces_meet" s_law_pieces_meet A.law_pieces_meet fd
  g_law_asked : mg "_law_asked" = some (.ref A.law_asked)
  k_law_asked : PySem.W.keepIn K (.ref A.law_asked) = true
  d_law_asked : ∃ fd, Fun K "_law_asked" "_law_asked" s_law_asked A.law_asked fd
  g_law_refused_stray : mg "_law_refused_stray" = some (.ref A.law_refused_stray)
  k_law_refused_stray : PySem.W.keepIn K (.ref A.law_refused_stray) = true
  d_law_refused_stray : ∃ fd, Fun K "_law_refused_stray" "_law_refused_stray" s_law_refused_stray A.law_refused_stray fd
  g_law_refused_group : mg "_law_refused_group" = some (.ref A.law_refused_group)
  k_law_refused_group : PySem.W.keepIn K (.ref A.law_refused_group) = true
  d_law_refused_group : ∃ fd, Fun K "_law_refused_group" "_law_refused_group" s_law_refused_group A.law_refused_group fd
  g_law : mg "law" = some (.ref A.law)
  k_law : PySem.W.keepIn K (.ref A.law) = true
  d_law : ∃ fd, Fun K "law" "law" s_law A.law fd
  e_MendError : ErrM K mg A.MendError
  e_InvalidImage : ErrK K mg A.MendError A.InvalidImage "InvalidImage"
  e_Unrepairable : ErrK K mg A.MendError A.Unrepairable "Unrepairable"
  f_InvalidImage : ErrF K A.InvalidImage A.i_InvalidImage "InvalidImage.__init__" "record" s_InvalidImage
  f_Unrepairable : ErrF K A.Unrepairable A.i_Unrepairable "Unrepairable.__init__" "group" s_Unrepairable
  g_WORDS : mg "WORDS" = some (.ref A.WORDS)
  g_WHOLE : mg "_WHOLE" = some (.ref A.WHOLE)
  g_FORMS : mg "_FORMS" = some (.ref A.FORMS)
  n_int : mg "int" = none
  n_bool : mg "bool" = none
  n_list : mg "list" = none
  n_str : mg "str" = none
  n_tuple : mg "tuple" = none
  n_dict : mg "dict" = none
  n_len : mg "len" = none
  n_range : mg "range" = none
  n_enumerate : mg "enumerate" = none
  n_isinstance : mg "isinstance" = none
  n_all : mg "all" = none
  n_min : mg "min" = none
  n_max : mg "max" = none
  n_sorted : mg "sorted" = none
  n_sum : mg "sum" = none
  w_WORDS : ∀ H, SqT K H A.WORDS wordsV
  w_WHOLE : ∀ H, SqT K H A.WHOLE [.str "free", .str "pair"]
  cn : PySem.W.specialIn K (.builtin "object.__class__") "__get__" = some (some (.builtin "getset_descriptor.__get__"))
  ct : PySem.W.takesIn K (.builtin "object.__class__") = some true
  nd : [A.MendError, A.InvalidImage, A.Unrepairable].Nodup
end Pv

namespace Pv
open PySem L2
/-- all but what stands at b is as it was -/
def Mut (b : Addr) (H H' : Hp) : Prop := ∀ a o, a ≠ b → H a = some o → H' a = some o
theorem Mut.refl (b : Addr) (H : Hp) : Mut b H H := fun _ _ _ e => e
theorem Mut.trans {b : Addr} {H H1 H2 : Hp} (x : Mut b H H1) (y : Mut b H1 H2) : Mut b H H2 := fun a o n e => y a o n (x a o n e)
theorem Mut.upd {b : Addr} {H H1 : Hp} {o : HO} (x : Mut b H H1) : Mut b H (L2.upd H1 b o) := fun a u n e => by
  rw [upd_ne n]
  exact x a u n e
theorem Mut.new {b p : Addr} {H H1 : Hp} {o : HO} (x : Mut b H H1) (hp : H1 p = none) : Mut b H (L2.upd H1 p o) := fun a u n e => by
  have e1 := x a u n e
  rw [upd_ne (ne_of_none e1 hp)]
  exact e1
theorem Mut.free {b p : Addr} {H H1 : Hp} (x : Mut b H H1) (h : p ≠ b) (hp : H1 p = none) : H p = none := by
  cases e : H p with
  | none => rfl
  | some o =>
    rw [x p o h e] at hp
    cases hp
/-- the bag of the draws -/
def bagL (g f s : Int) : List V := [.int g, .int f, .int s]
structure BagOk (g f s : Int) : Prop where
  g0 : 0 ≤ g
  f0 : 0 ≤ f
  f1 : f < 2147483647
  s0 : 0 ≤ s
  s1 : s < 2147483647
def Bag (H : Hp) (b : Addr) : Prop := ∃ g f s : Int, H b = some (.lst (bagL g f s)) ∧ BagOk g f s
def spBag (K : PySem.W.Frag) : Sp := fun vs H Q _ => ∃ (a : Addr) (ns : List Int), vs = [.ref a] ∧ SqL K H a (ns.map V.int) ∧ ∀ b g f s, H b = none → BagOk g f s → Q (.ref b) (upd H b (.lst (bagL g f s)))
def spTake : Sp := fun vs H Q _ => ∃ (b : Addr) (n : Int), vs = [.ref b, .int n] ∧ 0 < n ∧ n < 1152921504606846976 ∧ Bag H b ∧ ∀ d H', 0 ≤ d → d < n → Bag H' b → Mut b H H' → Q (.int d) H'
/-- ints from 0 to below n -/
def Below (n : Int) (xs : List Int) : Prop := ∀ x ∈ xs, 0 ≤ x ∧ x < n
def ListI (H : Hp) (p : Addr) (xs : List Int) : Prop := H p = some (.lst (xs.map V.int))
def spOrder : Sp := fun vs H Q _ => ∃ (b : Addr) (n : Nat), vs = [.ref b, .int (n : Int)] ∧ n ≤ 64 ∧ Bag H b ∧ ∀ p xs H', H p = none → p ≠ b → xs.length = n → Below n xs → ListI H' p xs → Bag H' b → Mut b H H' → Q (.ref p) H'
def spSize : Sp := fun vs H Q _ => ∃ b : Addr, vs = [.ref b] ∧ Bag H b ∧ ∀ (d : Int) H', 0 ≤ d → d ≤ 64 → Bag H' b → Mut b H H' → Q (.int d) H'
def spEntry : Sp := fun vs H Q _ => ∃ (b : Addr) (n : Nat), vs = [.ref b, .int (n : Int)] ∧ 0 < n ∧ n ≤ 64 ∧ Bag H b ∧ ∀ (d : Int) H', Bag H' b → Mut b H H' → Q (.int d) H'
def spDrawn : Sp := fun vs H Q _ => ∃ (b : Addr) (n : Nat), vs = [.ref b, .int (n : Int)] ∧ n ≤ 64 ∧ Bag H b ∧ ∀ p xs H', H p = none → p ≠ b → xs.length = n → ListI H' p xs → Bag H' b → Mut b H H' → Q (.ref p) H'
theorem Bag.ne {H : Hp} {b p : Addr} (B : Bag H b) (h : H p = none) : p ≠ b := fun e => by
  obtain ⟨g, f, s, hb, _⟩ := B
  rw [e, hb] at h
  cases h
theorem Bag.keep {H H' : Hp} {b : Addr} (B : Bag H b) (h : ∀ o, H b = some o → H' b = some o) : Bag H' b := by
  obtain ⟨g, f, s, hb, ok⟩ := B
  exact ⟨g, f, s, h _ hb, ok⟩
theorem map_erase {α β : Type} (f : α → β) : ∀ (l : List α) (i : Nat), (l.map f).eraseIdx i = (l.eraseIdx i).map f
  | [], _ => rfl
  | _ :: _, 0 => rfl
  | a :: l, i + 1 => by
    show f a :: (l.map f).eraseIdx i = f a :: (l.eraseIdx i).map f
    rw [map_erase f l i]
theorem rgV_map (n : Nat) : rgV 0 (n : Int) = ((List.range n).map fun i : Nat => (i : Int)).map V.int := by
  unfold rgV
  have e : ((n : Int) - 0).toNat = n := by omega
  rw [e, List.map_map]
  refine List.map_congr_left fun i _ => ?_
  show V.int (0 + (i : Int)) = V.int (i : Int)
  rw [Int.zero_add]
theorem below_rg (n : Nat) : Below (n : Int) ((List.range n).map fun i : Nat => (i : Int)) := fun x hx => by
  obtain ⟨i, hi, rfl⟩ := List.mem_map.mp hx
  have := List.mem_range.mp hi
  omega
theorem ListI.sz {K : PySem.W.Frag} {H : Hp} {p : Addr} {xs : List Int} (h : ListI H p xs) : SqL K H p (xs.map V.int) := SqL.of h
theorem ix_map {xs : List Int} {j : Nat} (h : j < xs.length) : (xs.map V.int)[j]? = some (V.int xs[j]) := by
  rw [List.getElem?_map, List.getElem?_eq_getElem h]
  rfl
theorem at_map {xs : List Int} {j : Nat} (h : j < xs.length) : atI (xs.map V.int) (j : Int) = some (V.int xs[j]) := atI_nat (ix_map h)
theorem set_map {xs : List Int} {j : Nat} {v : Int} : (xs.map V.int).set j (V.int v) = (xs.set j v).map V.int := List.map_set.symm
theorem ite_b {b : Bool} {X Y : Prop} (h1 : b = true → X) (h2 : b = false → Y) : if b = true then X else Y := by
  cases b with
  | true => exact h1 rfl
  | false => exact h2 rfl
theorem int_at {ns : List Int} {i : Nat} {y : V} (h : (ns.map V.int)[i]? = some y) : ∃ z, ns[i]? = some z ∧ y = V.int z := by
  rw [List.getElem?_map] at h
  cases e : ns[i]? with
  | none =>
    rw [e] at h
    cases h
  | some z =>
    rw [e] at h
    exact ⟨z, rfl, (Option.some.inj h).symm⟩
end Pv

namespace Pv
open PySem L2 Evl Pm
def nI (xs : List Nat) : List V := xs.map fun x : Nat => V.int (x : Int)
def ListN (H : Hp) (p : Addr) (xs : List Nat) : Prop := H p = some (.lst (nI xs))
theorem nI_len (xs : List Nat) : (nI xs).length = xs.length := List.length_map ..
theorem ListN.sz {K : PySem.W.Frag} {H : Hp} {p : Addr} {xs : List Nat} (h : ListN H p xs) : SqL K H p (nI xs) := SqL.of h
theorem ListN.ex {H H1 : Hp} {a : Addr} {xs : List Nat} (e : Ex H H1) (h : ListN H a xs) : ListN H1 a xs := e a _ h
theorem nat_at {ns : List Nat} {i : Nat} {y : V} (h : (nI ns)[i]? = some y) : i < ns.length ∧ y = V.int ((ns.getD i 0 : Nat) : Int) := by
  unfold nI at h
  rw [List.getElem?_map] at h
  cases e : ns[i]? with
  | none =>
    rw [e] at h
    cases h
  | some z =>
    rw [e] at h
    refine ⟨(List.getElem?_eq_some_iff.mp e).1, ?_⟩
    rw [List.getD_eq_getElem?_getD, e]
    exact (Option.some.inj h).symm
theorem ixN_ {xs : List Nat} {j : Nat} (h : j < xs.length) : (nI xs)[j]? = some (V.int ((xs.getD j 0 : Nat) : Int)) := by
  unfold nI
  rw [List.getElem?_map, List.getD_eq_getElem?_getD, List.getElem?_eq_getElem h]
  rfl
theorem atN {xs : List Nat} {j : Nat} (h : j < xs.length) : atI (nI xs) (j : Int) = some (V.int ((xs.getD j 0 : Nat) : Int)) := atI_nat (ixN_ h)
theorem ex_new {H H1 : Hp} {p : Addr} {o : HO} (e : Ex H H1) (h : H1 p = none) : Ex H (upd H1 p o) := e.trans (Ex.new h)
theorem nI_app {xs : List Nat} {v : Nat} : nI (xs ++ [v]) = nI xs ++ [V.int (v : Int)] := by
  unfold nI
  rw [List.map_append]
  rfl
theorem acc_step {G H' : Hp} {D : Addr} {ls : List Nat} {v : Nat} (hD : G D = none) (e : Ex G H') : Ex G (upd H' D (.lst (nI ls ++ [V.int (v : Int)]))) ∧ ListN (upd H' D (.lst (nI ls ++ [V.int (v : Int)]))) D (ls ++ [v]) := by
  refine ⟨fun b o hb => ?_, ?_⟩
  · rw [upd_ne (ne_of_none hb hD)]
    exact e b o hb
  · show upd H' D _ D = _
    rw [upd_same, nI_app]
theorem take_map_succ {xs : List Nat} {j : Nat} (h : j < xs.length) (f : Nat → Nat) : (xs.take (j + 1)).map f = (xs.take j).map f ++ [f (xs.getD j 0)] := by
  rw [List.take_add_one, List.getElem?_eq_getElem h, List.map_append, List.getD_eq_getElem?_getD, List.getElem?_eq_getElem h]
  rfl
theorem take_succ {xs : List Nat} {j : Nat} (h : j < xs.length) : xs.take (j + 1) = xs.take j ++ [xs.getD j 0] := by
  rw [List.take_add_one, List.getElem?_eq_getElem h, List.getD_eq_getElem?_getD, List.getElem?_eq_getElem h]
  rfl
theorem take_filter_pos {xs : List Nat} {j : Nat} (h : j < xs.length) {q : Nat → Bool} (c : q (xs.getD j 0) = true) : (xs.take (j + 1)).filter q = (xs.take j).filter q ++ [xs.getD j 0] := by
  rw [take_succ h, List.filter_append, List.filter_cons, if_pos c]
  rfl
theorem take_filter_neg {xs : List Nat} {j : Nat} (h : j < xs.length) {q : Nat → Bool} (c : q (xs.getD j 0) = false) : (xs.take (j + 1)).filter q = (xs.take j).filter q := by
  rw [take_succ h, List.filter_append, List.filter_cons, if_neg (by rw [c]; decide)]
  exact List.append_nil _
theorem flat_nI : ∀ xs : List Nat, (nI xs).all flatV = true
  | [] => rfl
  | _ :: xs => flat_nI xs
theorem inV_nI {x : Nat} : ∀ xs : List Nat, inV (V.int (x : Int)) (nI xs) = xs.contains x
  | [] => rfl
  | y :: xs => by
    show (eqV (V.int (y : Int)) (V.int (x : Int)) || inV (V.int (x : Int)) (nI xs)) = _
    rw [inV_nI xs, List.contains_cons]
    congr 1
    show ((y : Int) == (x : Int)) = (x == y)
    rw [Bool.eq_iff_iff, beq_iff_eq, beq_iff_eq]
    omega
theorem eqV_nat {x y : Nat} : eqV (V.int (x : Int)) (V.int (y : Int)) = true ↔ x = y := by
  show ((x : Int) == (y : Int)) = true ↔ _
  rw [beq_iff_eq]
  omega
/-! ### images of any integers -/
def ListI' (H : Hp) (p : Addr) (xs : List Int) : Prop := H p = some (.lst (xs.map V.int))
def badN (xs : List Int) (k : Nat) : Bool := decide (xs.getD k 0 < 0) || decide ((xs.length : Int) ≤ xs.getD k 0)
def firstOf (p : Nat → Bool) (n : Nat) : Option Nat := (List.range n).find? p
theorem firstOf_some {p : Nat → Bool} {n i : Nat} (hi : i < n) (hp : p i = true) (h : ∀ j, j < i → p j = false) : firstOf p n = some i := by
  unfold firstOf
  rw [List.find?_range_eq_some]
  exact ⟨hp, List.mem_range.mpr hi, fun j hj => by rw [h j hj]; rfl⟩
theorem firstOf_none {p : Nat → Bool} {n : Nat} (h : ∀ j, j < n → p j = false) : firstOf p n = none := by
  unfold firstOf
  rw [List.find?_range_eq_none]
  exact fun j hj => by rw [h j hj]; rfl
theorem firstOf_no {p : Nat → Bool} {n : Nat} (h : firstOf p n = none) : ∀ j, j < n → p j = false := by
  unfold firstOf at h
  rw [List.find?_range_eq_none] at h
  intro j hj
  have := h j hj
  simpa using this
theorem firstOf_is {p : Nat → Bool} {n i : Nat} (h : firstOf p n = some i) : i < n ∧ p i = true ∧ ∀ j, j < i → p j = false := by
  unfold firstOf at h
  rw [List.find?_range_eq_some] at h
  exact ⟨List.mem_range.mp h.2.1, h.1, fun j hj => by have := h.2.2 j hj; simpa using this⟩
/-- the first entry that is no record -/
def strayI (xs : List Int) : Option Nat := firstOf (badN xs) xs.length
/-- the image as records -/
def natI (xs : List Int) : List Nat := xs.map Int.toNat
theorem natI_len {xs : List Int} : (natI xs).length = xs.length := List.length_map ..
theorem natI_at {xs : List Int} (h : strayI xs = none) {k : Nat} (hk : k < xs.length) : xs.getD k 0 = (((natI xs).getD k 0 : Nat) : Int) ∧ (natI xs).getD k 0 < xs.length := by
  have q := firstOf_no h k hk
  unfold badN at q
  rw [Bool.or_eq_false_iff] at q
  have q1 := of_decide_eq_false q.1
  have q2 := of_decide_eq_false q.2
  have e : (natI xs).getD k 0 = (xs.getD k 0).toNat := by
    unfold natI
    rw [List.getD_eq_getElem?_getD, List.getElem?_map, List.getD_eq_getElem?_getD, List.getElem?_eq_getElem hk]
    rfl
  rw [e]
  omega
theorem natI_map {xs : List Int} (h : strayI xs = none) : nI (natI xs) = xs.map V.int := by
  unfold nI natI
  rw [List.map_map]
  refine List.ext_getElem (by rw [List.length_map, List.length_map]) fun k h1 h2 => ?_
  rw [List.length_map] at h1
  rw [List.getElem_map, List.getElem_map]
  have := (natI_at h h1).1
  have e : (natI xs).getD k 0 = (xs.getD k 0).toNat := by
    unfold natI
    rw [List.getD_eq_getElem?_getD, List.getElem?_map, List.getD_eq_getElem?_getD, List.getElem?_eq_getElem h1]
    rfl
  rw [e, List.getD_eq_getElem?_getD, List.getElem?_eq_getElem h1] at this
  exact congrArg V.int this.symm
theorem natI_rec {xs : List Int} (h : strayI xs = none) : Rec (natI xs) := fun x hx => by
  rw [natI_len] at hx ⊢
  exact (natI_at h hx).2
theorem natI_at' {H : Hp} {a : Addr} {xs : List Int} (h : strayI xs = none) (hx : H a = some (.lst (xs.map V.int))) : ListN H a (natI xs) := by
  show H a = _
  rw [hx, natI_map h]
theorem ListN.int {H : Hp} {a : Addr} {ys : List Nat} (h : ListN H a ys) : ListN H a ys := h
/-! ### promises of the program -/
def gN (ys : List Nat) : Nat → Nat := fun x => ys.getD x 0
def RzI (A : Ad) (k : Nat) (H : Hp) (E : XK) : Prop := ∀ d H', Ex H H' → H' d = some (.xd [("record", .int (k : Int))]) → E (.ref A.InvalidImage) (some d) H'
def RzG (A : Ad) (gp : List Nat) (H : Hp) (E : XK) : Prop := ∀ d p H', Ex H H' → H' d = some (.xd [("group", .ref p)]) → ListN H' p gp → E (.ref A.Unrepairable) (some d) H'
theorem RzI.mono {A : Ad} {k : Nat} {H H1 : Hp} {E : XK} (e : Ex H H1) (h : RzI A k H E) : RzI A k H1 E := fun d H' e' hd => h d H' (e.trans e') hd
theorem RzG.mono {A : Ad} {gp : List Nat} {H H1 : Hp} {E : XK} (e : Ex H H1) (h : RzG A gp H E) : RzG A gp H1 E := fun d p H' e' hd hp => h d p H' (e.trans e') hd hp
def PieceAt (H : Hp) (q : Addr) (b : Bk) : Prop := ∃ t, H q = some (.tup [.str (word b.1), .ref t]) ∧ H t = some (.tup (nI b.2))
theorem PieceAt.ex {H H1 : Hp} {q : Addr} {b : Bk} (e : Ex H H1) (h : PieceAt H q b) : PieceAt H1 q b := by
  obtain ⟨t, h1, h2⟩ := h
  exact ⟨t, e _ _ h1, e _ _ h2⟩
def All2 (F : Hp → Addr → Bk → Prop) (H : Hp) (p : Addr) (bs : List Bk) : Prop := ∃ qs : List Addr, H p = some (.lst (qs.map V.ref)) ∧ qs.length = bs.length ∧ ∀ (i : Nat) (q : Addr) (b : Bk), qs[i]? = some q → bs[i]? = some b → F H q b
def spOwn : Sp := fun vs H Q _ => ∃ (l : Addr) (xs : List V), vs = [.ref l] ∧ H l = some (.lst xs) ∧ ∀ p, H p = none → Q (.ref p) (upd H p (.lst xs))
def spInit (C : Addr) (f : Str) : Sp := fun vs H Q _ => ∃ (a : Addr) (v : V), vs = [.ref a, v] ∧ H a = some (exo a C none) ∧ ∀ dx, H dx = none → dx ≠ a → Q .non (upd (upd H dx (exd dx [(f, v)])) a (exo a C (some dx)))
def spInitL (C : Addr) (f : Str) : Sp := fun vs H Q _ => ∃ (a l : Addr) (xs : List V), vs = [.ref a, .ref l] ∧ H a = some (exo a C none) ∧ H l = some (.lst xs) ∧
  ∀ p dx, H p = none → upd H p (.lst xs) dx = none → dx ≠ a → Q .non (upd (upd (upd H p (.lst xs)) dx (exd dx [(f, .ref p)])) a (exo a C (some dx)))
def spCI2 (A : Ad) : Sp := fun vs H Q E => ∃ (a : Addr) (xs : List Int), vs = [.ref a] ∧ H a = some (.lst (xs.map V.int)) ∧ xs.length ≤ 64 ∧ (strayI xs = none → ∀ H', Ex H H' → Q .non H') ∧ ∀ k, strayI xs = some k → RzI A k H E
def spLR : Sp := fun vs H Q _ => ∃ (a : Addr) (ys : List Nat), vs = [.ref a] ∧ ListN H a ys ∧ ys.length ≤ 64 ∧ (∀ i, i < ys.length → ys.getD i 0 < ys.length) ∧ ∀ p H', H p = none → Ex H H' → ListN H' p (lab ys ys.length) → Q (.ref p) H'
/-- the groups, each with its address -/
def GsAt (H H' : Hp) (p : Addr) (ys : List Nat) (gs : List (Nat × Addr)) : Prop := H' p = some (.lst (gs.map fun x => V.ref x.2)) ∧ gs.map (·.1) = rootsF ys ∧ ∀ x ∈ gs, H x.2 = none ∧ x.2 ≠ p ∧ ListN H' x.2 (grpF ys x.1)
def spGr2 (A : Ad) : Sp := fun vs H Q E => ∃ (a : Addr) (xs : List Int), vs = [.ref a] ∧ H a = some (.lst (xs.map V.int)) ∧ xs.length ≤ 64 ∧ (strayI xs = none → ∀ p gs H', H p = none → Ex H H' → GsAt H H' p (natI xs) gs → Q (.ref p) H') ∧ ∀ k, strayI xs = some k → RzI A k H E
def spRow2 : Sp := fun vs H Q _ => ∃ (a g : Addr) (ys gp : List Nat), vs = [.ref a, .ref g] ∧ ListN H a ys ∧ ys.length ≤ 64 ∧ ListN H g gp ∧ Gp (gN ys) gp ∧ (∀ x ∈ gp, x < ys.length) ∧ ∀ p H', H p = none → Ex H H' → ListN H' p (rowF (gN ys) gp) → Q (.ref p) H'
def spPO2 : Sp := fun vs H Q _ => ∃ (a g : Addr) (ys gp : List Nat), vs = [.ref a, .ref g] ∧ ListN H a ys ∧ ys.length ≤ 64 ∧ ListN H g gp ∧ Gp (gN ys) gp ∧ (∀ x ∈ gp, x < ys.length) ∧
  (pieceF (gN ys) gp = none → ∀ H', Ex H H' → Q .non H') ∧ ∀ b, pieceF (gN ys) gp = some b → ∀ p H', H p = none → Ex H H' → PieceAt H' p b → Q (.ref p) H'
/-- what an image comes to -/
def RzP (A : Ad) (xs : List Int) (H : Hp) (E : XK) : Prop := (∀ k, strayI xs = some k → RzI A k H E) ∧ (strayI xs = none → ∀ gp, badF (natI xs) = some gp → RzG A gp H E)
def spPi2 (A : Ad) : Sp := fun vs H Q E => ∃ (a : Addr) (xs : List Int), vs = [.ref a] ∧ H a = some (.lst (xs.map V.int)) ∧ xs.length ≤ 64 ∧
  (strayI xs = none → ∀ bs : List Bk, formsF (natI xs) = bs.map some → ∀ p H', H p = none → Ex H H' → All2 PieceAt H' p bs → Q (.ref p) H') ∧ RzP A xs H E
def spRep2 (A : Ad) : Sp := fun vs H Q E => ∃ (a : Addr) (xs : List Int), vs = [.ref a] ∧ H a = some (.lst (xs.map V.int)) ∧ xs.length ≤ 64 ∧
  (strayI xs = none → ∀ H', Ex H H' → Q (.bl ((formsF (natI xs)).all Option.isSome)) H') ∧ ∀ k, strayI xs = some k → RzI A k H E
/-- of an image that is refused -/
def Refused (xs : List Int) : Prop := strayI xs ≠ none ∨ badF (natI xs) ≠ none
def spRef2 (A : Ad) : Sp := fun vs H Q E => ∃ (a : Addr) (xs : List Int), vs = [.ref a] ∧ H a = some (.lst (xs.map V.int)) ∧ xs.length ≤ 64 ∧ Refused xs ∧ RzP A xs H E
/-- raise X(v), told by what stands behind -/
theorem mkO_go {C : Addr} {f : Str} {v : V} {H1 : Hp} {Q : XK} (k : ∀ d H', Ex H1 H' → H' d = some (.xd [(f, v)]) → Q (.ref C) (some d) H') (e : Addr) (he : H1 e = none) :
    spInit C f (.ref e :: ([v] ++ [])) (upd H1 e (exo e C none)) (fun v H2 => v = .non ∧ ∃ (d : Addr) (fs : List (Str × V)), H2 e = some (exo e C (some d)) ∧ H2 d = some (exd d fs) ∧ H1 d = none ∧ Q (.ref C) (some d) (upd (L2.del H2 e) d (.xd fs))) (fun _ _ _ => False) := by
  refine ⟨e, v, rfl, upd_same, fun dx hdx ne => ⟨rfl, dx, _, upd_same, (by rw [upd_ne ne, upd_same]), ?_, k dx _ ?_ upd_same⟩⟩
  · rw [upd_ne ne] at hdx
    exact hdx
  · rw [upd_ne ne] at hdx
    intro b o hb
    have n1 : b ≠ dx := ne_of_none hb hdx
    have n2 : b ≠ e := ne_of_none hb he
    rw [upd_ne n1, del_ne n2, upd_ne n2, upd_ne n1, upd_ne n2]
    exact hb
/-- raise X(l), l a list that the error copies -/
theorem mkOL_go {C l : Addr} {f : Str} {xs : List V} {H1 : Hp} {Q : XK} (hl : H1 l = some (.lst xs)) (k : ∀ d p H', Ex H1 H' → H' d = some (.xd [(f, .ref p)]) → H' p = some (.lst xs) → Q (.ref C) (some d) H') (e : Addr) (he : H1 e = none) :
    spInitL C f (.ref e :: ([.ref l] ++ [])) (upd H1 e (exo e C none)) (fun v H2 => v = .non ∧ ∃ (d : Addr) (fs : List (Str × V)), H2 e = some (exo e C (some d)) ∧ H2 d = some (exd d fs) ∧ H1 d = none ∧ Q (.ref C) (some d) (upd (L2.del H2 e) d (.xd fs))) (fun _ _ _ => False) := by
  refine ⟨e, l, xs, rfl, upd_same, (by rw [upd_ne (ne_of_none hl he)]; exact hl), fun p dx hp hdx ne => ⟨rfl, dx, _, upd_same, (by rw [upd_ne ne, upd_same]), ?_, k dx p _ ?_ upd_same ?_⟩⟩
  all_goals
    have nep : e ≠ p := ne_of_none upd_same hp
    have hp1 : H1 p = none := by
      rw [upd_ne (Ne.symm nep)] at hp
      exact hp
    have ndp : dx ≠ p := fun z => by rw [z, upd_same] at hdx; cases hdx
    have hdx1 : H1 dx = none := by
      rw [upd_ne ndp, upd_ne ne] at hdx
      exact hdx
  · exact hdx1
  · intro b o hb
    have n1 : b ≠ dx := ne_of_none hb hdx1
    have n2 : b ≠ e := ne_of_none hb he
    have n3 : b ≠ p := ne_of_none hb hp1
    rw [upd_ne n1, del_ne n2, upd_ne n2, upd_ne n1, upd_ne n3, upd_ne n2]
    exact hb
  · rw [upd_ne (Ne.symm ndp), del_ne (Ne.symm nep), upd_ne (Ne.symm nep), upd_ne (Ne.symm ndp), upd_same]
theorem strip_getD_of {xs : List Int} {k : Nat} {z : Int} (h : xs[k]? = some z) : xs.getD k 0 = z := by
  rw [List.getD_eq_getElem?_getD, h]
  rfl
theorem markV_int {xs : List Int} {i : Nat} {y : V} (h : (xs.map V.int)[i]? = some y) : ∃ z, xs[i]? = some z ∧ y = V.int z := by
  rw [List.getElem?_map] at h
  cases e : xs[i]? with
  | none => rw [e] at h; cases h
  | some z =>
    rw [e] at h
    exact ⟨z, rfl, (Option.some.inj h).symm⟩
end Pv

namespace Pv
open PySem L2 Evl Pm
def kvG (gs : List (Nat × Addr)) : List (Key × V) := gs.map fun x => (Sum.inl (x.1 : Int), V.ref x.2)
theorem kvG_some {gs : List (Nat × Addr)} {m : Nat} {v : V} : valV (kvG gs) (Sum.inl (m : Int) : Key) = some v → ∃ a, (m, a) ∈ gs ∧ v = V.ref a := by
  induction gs with
  | nil => intro h; cases h
  | cons x gs ih =>
    intro h
    unfold valV kvG at h ih
    rw [List.map_cons] at h
    by_cases c : x.1 = m
    · rw [List.find?_cons_of_pos (by simp [c])] at h
      refine ⟨x.2, ?_, (Option.some.inj h).symm⟩
      rw [← c]
      exact List.mem_cons_self ..
    · rw [List.find?_cons_of_neg (by simp; omega)] at h
      obtain ⟨a, h1, h2⟩ := ih h
      exact ⟨a, List.mem_cons_of_mem _ h1, h2⟩
theorem kvG_none {gs : List (Nat × Addr)} {m : Nat} (h : valV (kvG gs) (Sum.inl (m : Int) : Key) = none) : ∀ x ∈ gs, x.1 ≠ m := fun x hx c => by
  unfold valV kvG at h
  rw [Option.map_eq_none_iff, List.find?_eq_none] at h
  exact h (Sum.inl (x.1 : Int), V.ref x.2) (List.mem_map.mpr ⟨x, hx, rfl⟩) (by simp [c])
theorem kvG_put {gs : List (Nat × Addr)} {m : Nat} {z : Addr} (h : ∀ x ∈ gs, x.1 ≠ m) : putK (kvG gs) (Sum.inl (m : Int) : Key) (V.ref z) = kvG (gs ++ [(m, z)]) := by
  unfold putK
  rw [if_neg]
  · unfold kvG
    rw [List.map_append]
    rfl
  · intro c
    rw [List.any_eq_true] at c
    obtain ⟨kv, h1, h2⟩ := c
    unfold kvG at h1
    obtain ⟨x, h3, rfl⟩ := List.mem_map.mp h1
    have := of_decide_eq_true h2
    injection this with this
    exact h x h3 (by omega)
structure GstF (f : Nat → Nat) (i : Nat) (H0 H : Hp) (d : Addr) (gs : List (Nat × Addr)) : Prop where
  kv : H d = some (.dK (kvG gs))
  keys : gs.map (·.1) = (List.range i).filter fun x => decide (f x = x)
  nd : (gs.map (·.2)).Nodup
  at_ : ∀ x ∈ gs, H0 x.2 = none ∧ x.2 ≠ d ∧ ListN H x.2 ((List.range i).filter fun y => decide (f y = x.1))
  mt : Mut d H0 H
section
variable {f : Nat → Nat} {i : Nat} {H0 H : Hp} {d : Addr} {gs : List (Nat × Addr)}
theorem GstF.tup (G : GstF f i H0 H d gs) {t : Addr} {o : HO} (h : H t = none) : GstF f i H0 (upd H t o) d gs := by
  refine ⟨?_, G.keys, G.nd, fun x hx => ?_, G.mt.new h⟩
  · rw [upd_ne (ne_of_none G.kv h)]
    exact G.kv
  · obtain ⟨h1, h2, h3⟩ := G.at_ x hx
    refine ⟨h1, h2, ?_⟩
    show upd H t o x.2 = _
    rw [upd_ne (ne_of_none h3 h)]
    exact h3
theorem GstF.lt (G : GstF f i H0 H d gs) {x : Nat × Addr} (hx : x ∈ gs) : x.1 < i := by
  have : x.1 ∈ gs.map (·.1) := List.mem_map.mpr ⟨x, hx, rfl⟩
  rw [G.keys] at this
  exact List.mem_range.mp (List.mem_filter.mp this).1
theorem GstF.old (G : GstF f i H0 H d gs) {a : Addr} (h : (f i, a) ∈ gs) : GstF f (i + 1) H0 (upd H a (.lst (nI ((List.range i).filter fun y => decide (f y = f i)) ++ [V.int (i : Int)]))) d gs := by
  have hlt := G.lt h
  obtain ⟨h1, h2, h3⟩ := G.at_ _ h
  have key : ∀ m, (List.range (i + 1)).filter (fun y => decide (f y = m)) = (List.range i).filter (fun y => decide (f y = m)) ++ (if f i = m then [i] else []) := fun m => by
    rw [List.range_succ, List.filter_append]
    congr 1
    by_cases c : f i = m <;> simp [c]
  refine ⟨?_, ?_, G.nd, fun x hx => ?_, fun b o hb hv => ?_⟩
  · rw [upd_ne h2.symm]
    exact G.kv
  · rw [List.range_succ, List.filter_append, G.keys]
    have : (decide (f i = i)) = false := decide_eq_false (by have : f i < i := hlt; omega)
    simp [this]
  · obtain ⟨g1, g2, g3⟩ := G.at_ x hx
    refine ⟨g1, g2, ?_⟩
    show upd H a _ x.2 = _
    rw [key]
    by_cases c : x.2 = a
    · have e : x.1 = f i := by
        obtain ⟨p, hp⟩ := List.mem_iff_getElem?.mp hx
        obtain ⟨q, hq⟩ := List.mem_iff_getElem?.mp h
        have e1 : (gs.map (·.2))[p]? = some a := by rw [List.getElem?_map, hp]; simp [c]
        have e2 : (gs.map (·.2))[q]? = some a := by rw [List.getElem?_map, hq]; rfl
        have := nd_ix G.nd e1 e2
        subst this
        rw [hp] at hq
        injection hq with hq
        rw [hq]
      rw [c, upd_same, e, if_pos rfl]
      unfold nI
      rw [List.map_append]
      rfl
    · have e : f i ≠ x.1 := fun z => c (by
        obtain ⟨p, hp⟩ := List.mem_iff_getElem?.mp hx
        obtain ⟨q, hq⟩ := List.mem_iff_getElem?.mp h
        have e1 : (gs.map (·.1))[p]? = some x.1 := by rw [List.getElem?_map, hp]; rfl
        have e2 : (gs.map (·.1))[q]? = some x.1 := by rw [List.getElem?_map, hq]; simp [z]
        have nd : (gs.map (·.1)).Nodup := by rw [G.keys]; exact nodup_filter _ List.nodup_range
        have e3 := (List.getElem?_eq_some_iff.mp e1)
        have e4 := (List.getElem?_eq_some_iff.mp e2)
        obtain ⟨l1, e3⟩ := e3
        obtain ⟨l2, e4⟩ := e4
        have := (List.getElem_inj (h₀ := l1) (h₁ := l2) nd).mp (e3.trans e4.symm)
        subst this
        rw [hp] at hq
        injection hq with hq
        rw [hq])
      rw [upd_ne c, if_neg e, List.append_nil]
      exact g3
  · have : b ≠ a := fun z => by
      rw [z, h1] at hv
      cases hv
    rw [upd_ne this]
    exact G.mt b o hb hv
theorem GstF.fresh (G : GstF f i H0 H d gs) (hle : ∀ x, x ≤ i → f x ≤ x) (hroot : f (f i) = f i) {z : Addr} (h : ∀ x ∈ gs, x.1 ≠ f i) (hz : H z = none) :
    f i = i ∧ GstF f (i + 1) H0 (upd (upd (upd H z (.lst [])) d (.dK (kvG (gs ++ [(i, z)])))) z (.lst ([] ++ [V.int (i : Int)]))) d (gs ++ [(i, z)]) := by
  have hi : f i = i := by
    have h1 := hle i (Nat.le_refl _)
    by_cases c : f i = i
    · exact c
    · exfalso
      have : f i ∈ gs.map (·.1) := by
        rw [G.keys, List.mem_filter, List.mem_range]
        exact ⟨by omega, by simpa using hroot⟩
      obtain ⟨x, hx, e⟩ := List.mem_map.mp this
      exact h x hx e
  have hdz : z ≠ d := fun e => by
    rw [e, G.kv] at hz
    cases hz
  have key : ∀ m, (List.range (i + 1)).filter (fun y => decide (f y = m)) = (List.range i).filter (fun y => decide (f y = m)) ++ (if f i = m then [i] else []) := fun m => by
    rw [List.range_succ, List.filter_append]
    congr 1
    by_cases c : f i = m <;> simp [c]
  have ne : ∀ x ∈ gs, x.2 ≠ z := fun x hx e => by
    have := (G.at_ x hx).2.2
    rw [e] at this
    rw [show H z = _ from this] at hz
    cases hz
  refine ⟨hi, ?_, ?_, ?_, fun x hx => ?_, fun b o hb hv => ?_⟩
  · rw [upd_ne hdz.symm, upd_same]
  · rw [List.map_append, G.keys, List.range_succ, List.filter_append]
    simp [hi]
  · rw [List.map_append, List.nodup_append]
    refine ⟨G.nd, by simp, fun a ha b hb => ?_⟩
    obtain ⟨x, hx, rfl⟩ := List.mem_map.mp ha
    simp at hb
    rw [hb]
    exact ne x hx
  · rcases List.mem_append.mp hx with hx | hx
    · obtain ⟨g1, g2, g3⟩ := G.at_ x hx
      refine ⟨g1, g2, ?_⟩
      show upd _ z _ x.2 = _
      rw [upd_ne (ne x hx), upd_ne g2, upd_ne (ne x hx), key, if_neg (by rw [hi]; have := G.lt hx; omega), List.append_nil]
      exact g3
    · simp at hx
      subst hx
      refine ⟨G.mt.free hdz hz, hdz, ?_⟩
      show upd _ z _ z = _
      rw [upd_same, key, if_pos hi]
      have : (List.range i).filter (fun y => decide (f y = i)) = [] := by
        rw [List.filter_eq_nil_iff]
        intro y hy
        have h1 := List.mem_range.mp hy
        have h2 := hle y (by omega)
        simp
        omega
      rw [this]
      rfl
  · have e := G.mt b o hb hv
    have n : b ≠ z := fun q => by
      rw [q, hz] at e
      cases e
    rw [upd_ne n, upd_ne hb, upd_ne n]
    exact e
end
end Pv

namespace Pv
open PySem L2 Evl Pm
theorem PieceAt.updL {H : Hp} {q f : Addr} {b : Bk} {xs : List V} {o : HO} (h : PieceAt H q b) (hf : H f = some (.lst xs)) : PieceAt (upd H f o) q b := by
  obtain ⟨t, h1, h2⟩ := h
  refine ⟨t, ?_, ?_⟩
  · rw [upd_ne (fun z => by rw [z, hf] at h1; cases h1)]
    exact h1
  · rw [upd_ne (fun z => by rw [z, hf] at h2; cases h2)]
    exact h2
theorem All2.ex {H H1 : Hp} {p : Addr} {bs : List Bk} (e : Ex H H1) (h : All2 PieceAt H p bs) : All2 PieceAt H1 p bs := by
  obtain ⟨qs, h1, h2, h3⟩ := h
  exact ⟨qs, e _ _ h1, h2, fun j q b x y => (h3 j q b x y).ex e⟩
theorem All2.nil {H : Hp} {p : Addr} (h : H p = some (.lst [])) : All2 PieceAt H p [] := ⟨[], h, rfl, fun j q b h => by simp at h⟩
theorem All2.app {H : Hp} {p q : Addr} {cs : List Bk} {b : Bk} (h : All2 PieceAt H p cs) (hq : PieceAt H q b) : ∃ qs : List Addr, H p = some (.lst (qs.map V.ref)) ∧ qs.length = cs.length ∧ All2 PieceAt (upd H p (.lst (qs.map V.ref ++ [V.ref q]))) p (cs ++ [b]) := by
  obtain ⟨qs, h1, h2, h3⟩ := h
  refine ⟨qs, h1, h2, qs ++ [q], by rw [upd_same, List.map_append]; rfl, by rw [List.length_append, List.length_append, h2]; rfl, fun j r c hr hc => ?_⟩
  rcases Nat.lt_or_ge j qs.length with hj | hj
  · rw [List.getElem?_append_left hj] at hr
    rw [List.getElem?_append_left (by omega)] at hc
    exact (h3 j r c hr hc).updL h1
  · rw [List.getElem?_append_right hj] at hr
    rw [List.getElem?_append_right (by omega)] at hc
    have : j - qs.length = 0 := by
      by_cases z : j - qs.length = 0
      · exact z
      · rw [List.getElem?_eq_none (by simp; omega)] at hr
        cases hr
    rw [this] at hr
    rw [← h2, this] at hc
    cases hr
    cases hc
    exact hq.updL h1
section
variable {ys : List Nat} {gs : List (Nat × Addr)}
theorem gs_root (h : gs.map (·.1) = rootsF ys) {i : Nat} {x : Nat × Addr} (hx : gs[i]? = some x) : (rootsF ys)[i]? = some x.1 ∧ x.1 ∈ rootsF ys := by
  have e : (rootsF ys)[i]? = some x.1 := by rw [← h, List.getElem?_map, hx]; rfl
  exact ⟨e, List.mem_of_getElem? e⟩
theorem gs_forms (h : gs.map (·.1) = rootsF ys) {i : Nat} {x : Nat × Addr} (hx : gs[i]? = some x) : (gpsF ys)[i]? = some (grpF ys x.1) ∧ (formsF ys)[i]? = some (pieceF (gN ys) (grpF ys x.1)) := by
  obtain ⟨e, _⟩ := gs_root h hx
  have e2 : (gpsF ys)[i]? = some (grpF ys x.1) := by
    unfold gpsF
    rw [List.getElem?_map, e]
    rfl
  refine ⟨e2, ?_⟩
  unfold formsF
  rw [List.getElem?_map, e2]
  rfl
theorem forms_len (h : gs.map (·.1) = rootsF ys) : gs.length = (formsF ys).length := by
  unfold formsF gpsF
  rw [List.length_map, List.length_map, ← h, List.length_map]
theorem roots_len (ys : List Nat) : (rootsF ys).length ≤ ys.length := by
  have := List.length_filter_le (fun x => decide (labF ys x = x)) (List.range ys.length)
  rw [List.length_range] at this
  exact this
theorem gs_len (h : gs.map (·.1) = rootsF ys) : gs.length ≤ ys.length := by
  have := roots_len ys
  rw [← h, List.length_map] at this
  exact this
/-- the first group that is no piece -/
theorem bad_first {i : Nat} {gp : List Nat} (hg : (gpsF ys)[i]? = some gp) (hn : pieceF (gN ys) gp = none) {cs : List Bk} (hc : (formsF ys).take i = cs.map some) : badF ys = some gp := by
  unfold badF
  obtain ⟨hi, he⟩ := List.getElem?_eq_some_iff.mp hg
  rw [List.find?_eq_some_iff_getElem]
  refine ⟨?_, i, hi, he, fun j hj => ?_⟩
  · show (pieceF (gN ys) gp).isNone = true
    rw [hn]
    rfl
  · have hjl : j < (gpsF ys).length := by omega
    have e1 : (formsF ys)[j]? = some (pieceF (gN ys) (gpsF ys)[j]) := by
      unfold formsF
      rw [List.getElem?_map, List.getElem?_eq_getElem hjl]
      rfl
    have e2 : ((formsF ys).take i)[j]? = some (pieceF (gN ys) (gpsF ys)[j]) := by
      rw [List.getElem?_take_of_lt hj]
      exact e1
    rw [hc, List.getElem?_map] at e2
    cases h : cs[j]? with
    | none => rw [h] at e2; cases e2
    | some b =>
      rw [h] at e2
      have e2 : some b = pieceF (gN ys) (gpsF ys)[j] := Option.some.inj e2
      show (!(pieceF (gN ys) (gpsF ys)[j]).isNone) = true
      rw [← e2]
      rfl
theorem mem_gps {gp : List Nat} (h : gp ∈ gpsF ys) : ∃ r, r ∈ rootsF ys ∧ gp = grpF ys r := by
  unfold gpsF at h
  obtain ⟨r, hr, e⟩ := List.mem_map.mp h
  exact ⟨r, hr, e.symm⟩
theorem bad_none (h : badF ys = none) : ∃ bs : List Bk, formsF ys = bs.map some := by
  unfold badF at h
  have h := List.find?_eq_none.mp h
  unfold formsF
  have g : ∀ l : List (List Nat), (∀ gp ∈ l, ¬ (pieceF (fun x => ys.getD x 0) gp).isNone = true) → ∃ bs : List Bk, l.map (pieceF fun x => ys.getD x 0) = bs.map some := fun l => by
    induction l with
    | nil => intro _; exact ⟨[], rfl⟩
    | cons a l ih =>
      intro hl
      obtain ⟨bs, e⟩ := ih fun gp hg => hl gp (List.mem_cons_of_mem _ hg)
      have h1 := hl a (List.mem_cons_self ..)
      cases c : pieceF (fun x => ys.getD x 0) a with
      | none => rw [c] at h1; exact absurd rfl h1
      | some b => exact ⟨b :: bs, by rw [List.map_cons, List.map_cons, c, e]⟩
  exact g _ h
end
end Pv

namespace Pv
open PySem L2 Evl Pm
def cnt (bs : List Bk) (w : Nat) : Nat := (bs.filter fun b => decide (b.1 = w)).length
def cenK (f : Nat → Nat) (j : Nat) : List (Key × V) := (List.range j).map fun w => (Sum.inr (word w), V.int (f w : Nat))
theorem word_inj {a b : Nat} (ha : a < 8) (hb : b < 8) (h : word a = word b) : a = b := by
  have d : ∀ a b : Fin 8, word a.val = word b.val → a = b := by decide +kernel
  exact congrArg Fin.val (d ⟨a, ha⟩ ⟨b, hb⟩ h)
theorem key_inj {a b : Nat} (ha : a < 8) (hb : b < 8) : decide ((Sum.inr (word a) : Key) = Sum.inr (word b)) = decide (a = b) := by
  by_cases c : a = b
  · simp [c]
  · rw [decide_eq_false c, decide_eq_false]
    intro z
    injection z with z
    exact c (word_inj ha hb z)
theorem cen_new {f : Nat → Nat} {i : Nat} (h : i < 8) : putK (cenK f i) (Sum.inr (word i) : Key) (V.int (f i : Nat)) = cenK f (i + 1) := by
  unfold putK
  rw [if_neg]
  · unfold cenK
    rw [List.range_succ, List.map_append]
    rfl
  · intro c
    rw [List.any_eq_true] at c
    obtain ⟨kv, h1, h2⟩ := c
    unfold cenK at h1
    obtain ⟨x, h3, rfl⟩ := List.mem_map.mp h1
    have hx := List.mem_range.mp h3
    rw [key_inj (by omega) h] at h2
    have := of_decide_eq_true h2
    omega
theorem cen_val {f : Nat → Nat} {w : Nat} (h : w < 8) : valV (cenK f 8) (Sum.inr (word w) : Key) = some (V.int (f w : Nat)) := by
  unfold valV cenK
  rw [List.find?_map, show (List.range 8).find? ((fun kv : Key × V => decide (kv.1 = Sum.inr (word w))) ∘ fun w => (Sum.inr (word w), V.int (f w : Nat))) = some w from ?_]
  · rfl
  · rw [List.find?_range_eq_some]
    refine ⟨by simp, List.mem_range.mpr h, fun j hj => ?_⟩
    show (!decide ((Sum.inr (word j) : Key) = Sum.inr (word w))) = true
    rw [key_inj (by omega) h, decide_eq_false (by omega)]
    rfl
theorem cen_put {f g : Nat → Nat} {w v : Nat} (h : w < 8) (hg : ∀ x, x < 8 → g x = if x = w then v else f x) : putK (cenK f 8) (Sum.inr (word w) : Key) (V.int (v : Nat)) = cenK g 8 := by
  unfold putK
  rw [if_pos]
  · unfold cenK
    rw [List.map_map]
    refine List.map_congr_left fun x hx => ?_
    have hx8 := List.mem_range.mp hx
    show (if (Sum.inr (word x) : Key) = Sum.inr (word w) then _ else _) = _
    by_cases c : x = w
    · subst c
      rw [if_pos rfl, hg x hx8, if_pos rfl]
    · rw [if_neg (fun z => by injection z with z; exact c (word_inj hx8 h z)), hg x hx8, if_neg c]
  · rw [List.any_eq_true]
    exact ⟨(Sum.inr (word w), V.int (f w : Nat)), List.mem_map.mpr ⟨w, List.mem_range.mpr h, rfl⟩, by simp⟩
theorem words_at {i : Nat} {x : V} (h : wordsV[i]? = some x) : i < 8 ∧ x = V.str (word i) := by
  have hi : i < 8 := (List.getElem?_eq_some_iff.mp h).1
  refine ⟨hi, ?_⟩
  rcases i with _ | _ | _ | _ | _ | _ | _ | _ | i
  all_goals first | exact (Option.some.inj h).symm | omega
theorem words_ix {i : Nat} (h : i < 8) : wordsV[i]? = some (V.str (word i)) := by
  rcases i with _ | _ | _ | _ | _ | _ | _ | _ | i
  all_goals first | rfl | omega
theorem cnt_more {bs : List Bk} {i : Nat} {b : Bk} (h : bs[i]? = some b) (x : Nat) : cnt (bs.take (i + 1)) x = if x = b.1 then cnt (bs.take i) b.1 + 1 else cnt (bs.take i) x := by
  unfold cnt
  rw [List.take_add_one, h]
  show ((bs.take i ++ [b]).filter _).length = _
  rw [List.filter_append, List.length_append, List.filter_cons]
  by_cases c : x = b.1
  · subst c
    simp
  · rw [if_neg c, if_neg (by simp; exact fun z => c z.symm)]
    rfl
theorem cnt_le {bs : List Bk} {x : Nat} : cnt bs x ≤ bs.length := List.length_filter_le ..
end Pv

namespace L2
open PySem PySem.Spec PyProof.Rows
theorem Room.units65 {k : Nat} {A : Around} (r : Room k A) : A.units + 65 < cLine := by
  have := r.un
  omega
end L2
namespace Pv
open PySem L2 Evl Pm
/-! lists of ints, and forms, as data -/
def dI (xs : List Int) : PyData := .list (xs.map PyData.int)
theorem dpAll_I {K : PySem.W.Frag} {H : Hp} : ∀ xs : List Int, DpAll K H (xs.map V.int) (xs.map PyData.int)
  | [] => .nil
  | x :: xs => .cons (.int x) (dpAll_I xs)
theorem dp_I {K : PySem.W.Frag} {H : Hp} {a : Addr} {xs : List Int} (h : H a = some (.lst (xs.map V.int))) : Dp K H (.ref a) (dI xs) := .lst (SqL.of h) (dpAll_I xs)
theorem lay_I : ∀ xs : List Int, PyData.canLayAll0 (xs.map PyData.int) = true
  | [] => by simp [PyData.canLayAll0]
  | x :: xs => by
    simp only [List.map_cons, PyData.canLayAll0, PyData.canLay0, lay_I xs]
    rfl
theorem deep_I : ∀ xs : List Int, PyData.depthAll (xs.map PyData.int) ≤ 1
  | [] => by simp [PyData.depthAll]
  | x :: xs => by
    have := deep_I xs
    simp only [List.map_cons, PyData.depthAll, PyData.depth]
    omega
theorem canLay_I (xs : List Int) : PyData.canLay0 (dI xs) = true := by
  unfold dI
  simp only [PyData.canLay0]
  exact lay_I xs
theorem shaped_I (xs : List Int) : SeqAt.shaped (dI xs) = true := by
  have h2 : PyData.depth (dI xs) ≤ 64 := by
    have := deep_I xs
    unfold dI
    simp only [PyData.depth]
    omega
  unfold SeqAt.shaped
  rw [canLay_I, decide_eq_true h2]
  rfl
theorem eqv_I (xs : List Int) : PyData.eqv (dI xs) (dI xs) = true := SeqAt.eqv_refl _ (canLay_I xs)
/-- a form, or None -/
def dataF : Option Bk → PyData
  | none => .none
  | some b => .tuple [.str (word b.1), .tuple ((b.2.map fun x : Nat => (x : Int)).map PyData.int)]
def FormAt (H : Hp) (v : V) : Option Bk → Prop
  | none => v = .non
  | some b => ∃ q, v = .ref q ∧ PieceAt H q b
theorem FormAt.ex {H H1 : Hp} {v : V} {o : Option Bk} (e : Ex H H1) (h : FormAt H v o) : FormAt H1 v o := by
  cases o with
  | none => exact h
  | some b =>
    obtain ⟨q, h1, h2⟩ := h
    exact ⟨q, h1, h2.ex e⟩
inductive FormsAll (H : Hp) : List V → List (Option Bk) → Prop
  | nil : FormsAll H [] []
  | cons {v : V} {vs : List V} {o : Option Bk} {os : List (Option Bk)} : FormAt H v o → FormsAll H vs os → FormsAll H (v :: vs) (o :: os)
theorem FormsAll.ex {H H1 : Hp} (e : Ex H H1) : ∀ {vs : List V} {os : List (Option Bk)}, FormsAll H vs os → FormsAll H1 vs os
  | _, _, .nil => .nil
  | _, _, .cons a b => .cons (a.ex e) (b.ex e)
theorem FormsAll.app {H : Hp} {v : V} {o : Option Bk} (h : FormAt H v o) : ∀ {vs : List V} {os : List (Option Bk)}, FormsAll H vs os → FormsAll H (vs ++ [v]) (os ++ [o])
  | _, _, .nil => .cons h .nil
  | _, _, .cons a b => .cons a (FormsAll.app h b)
theorem FormsAll.len {H : Hp} : ∀ {vs : List V} {os : List (Option Bk)}, FormsAll H vs os → vs.length = os.length
  | _, _, .nil => rfl
  | _, _, .cons _ b => congrArg Nat.succ b.len
theorem dpAll_N {K : PySem.W.Frag} {H : Hp} : ∀ xs : List Nat, DpAll K H (nI xs) ((xs.map fun x : Nat => (x : Int)).map PyData.int)
  | [] => .nil
  | x :: xs => .cons (.int _) (dpAll_N xs)
theorem FormsAll.dp {K : PySem.W.Frag} {H : Hp} : ∀ {vs : List V} {os : List (Option Bk)}, FormsAll H vs os → DpAll K H vs (os.map dataF)
  | _, _, .nil => .nil
  | _, _, .cons (o := none) a b => by
    cases (show _ = V.non from a)
    exact .cons .non b.dp
  | _, _, .cons (o := some c) a b => by
    obtain ⟨q, rfl, t, h1, h2⟩ := a
    exact .cons (.tup (SqT.of h1) (.cons (.str _) (.cons (.tup (SqT.of h2) (dpAll_N c.2)) .nil))) b.dp
theorem strOk_word (w : Nat) : PyData.strOk (word w) = true := by
  unfold word
  split <;> decide +kernel
theorem lay_F : ∀ os : List (Option Bk), PyData.canLayAll0 (os.map dataF) = true
  | [] => by simp [PyData.canLayAll0]
  | none :: os => by
    simp only [List.map_cons, dataF, PyData.canLayAll0, PyData.canLay0, lay_F os]
    rfl
  | some b :: os => by
    simp only [List.map_cons, dataF, PyData.canLayAll0, PyData.canLay0, lay_F os, lay_I, strOk_word]
    rfl
theorem deep_F : ∀ os : List (Option Bk), PyData.depthAll (os.map dataF) ≤ 3
  | [] => by simp [PyData.depthAll]
  | none :: os => by
    have := deep_F os
    simp only [List.map_cons, dataF, PyData.depthAll, PyData.depth]
    omega
  | some b :: os => by
    have h1 := deep_F os
    have h2 := deep_I (b.2.map fun x : Nat => (x : Int))
    simp only [List.map_cons, List.map_nil, dataF, PyData.depthAll, PyData.depth] at *
    omega
theorem shaped_F (os : List (Option Bk)) : SeqAt.shaped (.list (os.map dataF)) = true := by
  have h1 : PyData.canLay0 (.list (os.map dataF)) = true := by
    simp only [PyData.canLay0]
    exact lay_F os
  have h2 : PyData.depth (.list (os.map dataF)) ≤ 64 := by
    have := deep_F os
    simp only [PyData.depth]
    omega
  unfold SeqAt.shaped
  rw [h1, decide_eq_true h2]
  rfl
theorem eqv_none (o : Option Bk) : PyData.eqv (dataF o) .none = o.isNone := by
  cases o with
  | none => rfl
  | some b => rfl
theorem any_none (os : List (Option Bk)) : ((os.map dataF).any fun z => PyData.eqv z .none) = os.any Option.isNone := by
  rw [List.any_map]
  congr 1
  funext o
  exact eqv_none o
theorem FormsAll.all2 {H : Hp} {p : Addr} : ∀ {vs : List V} {bs : List Bk}, FormsAll H vs (bs.map some) → ∃ qs : List Addr, vs = qs.map V.ref ∧ qs.length = bs.length ∧ ∀ (i : Nat) (q : Addr) (b : Bk), qs[i]? = some q → bs[i]? = some b → PieceAt H q b
  | [], [], _ => ⟨[], rfl, rfl, fun i q b h => by simp at h⟩
  | [], _ :: _, h => nomatch h
  | _ :: _, [], h => nomatch h
  | v :: vs, c :: bs, .cons a r => by
    obtain ⟨q, rfl, hq⟩ := a
    obtain ⟨qs, h1, h2, h3⟩ := FormsAll.all2 (p := p) r
    refine ⟨q :: qs, by rw [h1]; rfl, congrArg Nat.succ h2, fun i r b hr hb => ?_⟩
    cases i with
    | zero =>
      cases hr
      cases hb
      exact hq
    | succ i => exact h3 i r b hr hb
end Pv

namespace Pv
open PySem L2 Evl Pm
theorem hash0 (w : World) : (numK [0]).hash w = -8753497827991233192 := by kernel_rfl
theorem hash1 (w : World) : (numK [1, 0]).hash w = -5164621852614943976 := by kernel_rfl
theorem hash2 (w : World) : (numK [1, 1]).hash w = 8389048192121911274 := by kernel_rfl
theorem hash3 (w : World) : (numK [1, 2, 1]).hash w = 3313134723150563520 := by kernel_rfl
theorem hash4 (w : World) : (numK [1, 2, 2]).hash w = -1579939305822132846 := by kernel_rfl
theorem hash5 (w : World) : (numK [1, 2, 1, 2]).hash w = 8677768113715720416 := by kernel_rfl
theorem hash6 (w : World) : (numK [1, 2, 3, 2]).hash w = 3374690043038133861 := by kernel_rfl
theorem hash7 (w : World) : (numK [1, 2, 3, 0]).hash w = 1760123315908831802 := by kernel_rfl
theorem forms_mk {P : Program} {w : World} {K : PySem.W.Frag} {c k0 k1 k2 k3 k4 k5 k6 k7 : Addr} {t0 t1 t2 t3 t4 t5 t6 t7 a0_0 a1_0 a1_1 a2_0 a2_1 a3_0 a3_1 a3_2 a4_0 a4_1 a4_2 a5_0 a5_1 a5_2 a5_3 a6_0 a6_1 a6_2 a6_3 a7_0 a7_1 a7_2 a7_3 : Tok} {ep n0 n1 n2 n3 n4 n5 n6 n7 : Nat} {od0 od1 od2 od3 od4 od5 od6 od7 : Option Addr} {sl0 sl1 sl2 sl3 sl4 sl5 sl6 sl7 : Array (Option Value)}
    (sm : (c == sysModules) = false) (l : List.lookup c K = some { cls := .type "dict", data := .dict #[⟨-8753497827991233192, .ref k0, .str "free" t0⟩, ⟨-5164621852614943976, .ref k1, .str "pair" t1⟩, ⟨8389048192121911274, .ref k2, .str "claim" t2⟩, ⟨3313134723150563520, .ref k3, .str "hook" t3⟩, ⟨-1579939305822132846, .ref k4, .str "relay" t4⟩, ⟨8677768113715720416, .ref k5, .str "clamp" t5⟩, ⟨3374690043038133861, .ref k6, .str "trail" t6⟩, ⟨1760123315908831802, .ref k7, .str "wheel" t7⟩] ep })
    (f0 : List.lookup k0 K = some ⟨.type "tuple", od0, .seq #[.int 0 a0_0] n0, sl0⟩)
    (f1 : List.lookup k1 K = some ⟨.type "tuple", od1, .seq #[.int 1 a1_0, .int 0 a1_1] n1, sl1⟩)
    (f2 : List.lookup k2 K = some ⟨.type "tuple", od2, .seq #[.int 1 a2_0, .int 1 a2_1] n2, sl2⟩)
    (f3 : List.lookup k3 K = some ⟨.type "tuple", od3, .seq #[.int 1 a3_0, .int 2 a3_1, .int 1 a3_2] n3, sl3⟩)
    (f4 : List.lookup k4 K = some ⟨.type "tuple", od4, .seq #[.int 1 a4_0, .int 2 a4_1, .int 2 a4_2] n4, sl4⟩)
    (f5 : List.lookup k5 K = some ⟨.type "tuple", od5, .seq #[.int 1 a5_0, .int 2 a5_1, .int 1 a5_2, .int 2 a5_3] n5, sl5⟩)
    (f6 : List.lookup k6 K = some ⟨.type "tuple", od6, .seq #[.int 1 a6_0, .int 2 a6_1, .int 3 a6_2, .int 2 a6_3] n6, sl6⟩)
    (f7 : List.lookup k7 K = some ⟨.type "tuple", od7, .seq #[.int 1 a7_0, .int 2 a7_1, .int 3 a7_2, .int 0 a7_3] n7, sl7⟩)
    : TabK P w K c formsT := by
  refine ⟨sm, [t0, t1, t2, t3, t4, t5, t6, t7], fun h X => ⟨?_, rfl⟩⟩
  refine Heap.DictKeyed.ofEntries (knd := nestedKind P w) (h := h) (d := c) [(numK [0], k0, .str "free" t0), (numK [1, 0], k1, .str "pair" t1), (numK [1, 1], k2, .str "claim" t2), (numK [1, 2, 1], k3, .str "hook" t3), (numK [1, 2, 2], k4, .str "relay" t4), (numK [1, 2, 1, 2], k5, .str "clamp" t5), (numK [1, 2, 3, 2], k6, .str "trail" t6), (numK [1, 2, 3, 0], k7, .str "wheel" t7)] (X _ _ l) ⟨rfl, rfl, rfl⟩ rfl ?_ ?_ ?_
  · show [(⟨-8753497827991233192, .ref k0, .str "free" t0⟩ : DictEntry), (⟨-5164621852614943976, .ref k1, .str "pair" t1⟩ : DictEntry), (⟨8389048192121911274, .ref k2, .str "claim" t2⟩ : DictEntry), (⟨3313134723150563520, .ref k3, .str "hook" t3⟩ : DictEntry), (⟨-1579939305822132846, .ref k4, .str "relay" t4⟩ : DictEntry), (⟨8677768113715720416, .ref k5, .str "clamp" t5⟩ : DictEntry), (⟨3374690043038133861, .ref k6, .str "trail" t6⟩ : DictEntry), (⟨1760123315908831802, .ref k7, .str "wheel" t7⟩ : DictEntry)] = [(⟨(numK [0]).hash w, .ref k0, .str "free" t0⟩ : DictEntry), (⟨(numK [1, 0]).hash w, .ref k1, .str "pair" t1⟩ : DictEntry), (⟨(numK [1, 1]).hash w, .ref k2, .str "claim" t2⟩ : DictEntry), (⟨(numK [1, 2, 1]).hash w, .ref k3, .str "hook" t3⟩ : DictEntry), (⟨(numK [1, 2, 2]).hash w, .ref k4, .str "relay" t4⟩ : DictEntry), (⟨(numK [1, 2, 1, 2]).hash w, .ref k5, .str "clamp" t5⟩ : DictEntry), (⟨(numK [1, 2, 3, 2]).hash w, .ref k6, .str "trail" t6⟩ : DictEntry), (⟨(numK [1, 2, 3, 0]).hash w, .ref k7, .str "wheel" t7⟩ : DictEntry)]
    rw [hash0, hash1, hash2, hash3, hash4, hash5, hash6, hash7]
  · intro x hx
    simp only [List.mem_cons, List.not_mem_nil, or_false] at hx
    rcases hx with rfl | rfl | rfl | rfl | rfl | rfl | rfl | rfl
    · exact ⟨.tup (X _ _ f0) rfl rfl (.cons (.int _ _) (.nil)), numK_depth _⟩
    · exact ⟨.tup (X _ _ f1) rfl rfl (.cons (.int _ _) (.cons (.int _ _) (.nil))), numK_depth _⟩
    · exact ⟨.tup (X _ _ f2) rfl rfl (.cons (.int _ _) (.cons (.int _ _) (.nil))), numK_depth _⟩
    · exact ⟨.tup (X _ _ f3) rfl rfl (.cons (.int _ _) (.cons (.int _ _) (.cons (.int _ _) (.nil)))), numK_depth _⟩
    · exact ⟨.tup (X _ _ f4) rfl rfl (.cons (.int _ _) (.cons (.int _ _) (.cons (.int _ _) (.nil)))), numK_depth _⟩
    · exact ⟨.tup (X _ _ f5) rfl rfl (.cons (.int _ _) (.cons (.int _ _) (.cons (.int _ _) (.cons (.int _ _) (.nil))))), numK_depth _⟩
    · exact ⟨.tup (X _ _ f6) rfl rfl (.cons (.int _ _) (.cons (.int _ _) (.cons (.int _ _) (.cons (.int _ _) (.nil))))), numK_depth _⟩
    · exact ⟨.tup (X _ _ f7) rfl rfl (.cons (.int _ _) (.cons (.int _ _) (.cons (.int _ _) (.cons (.int _ _) (.nil))))), numK_depth _⟩
  · show [numK [0], numK [1, 0], numK [1, 1], numK [1, 2, 1], numK [1, 2, 2], numK [1, 2, 1, 2], numK [1, 2, 3, 2], numK [1, 2, 3, 0]].Nodup
    decide +kernel
theorem words_mk {K : PySem.W.Frag} {c : Addr} {od : Option Addr} {n : Nat} {sl : Array (Option Value)} {t0 t1 t2 t3 t4 t5 t6 t7 : Tok} (l : List.lookup c K = some ⟨.type "tuple", od, .seq #[.str "free" t0, .str "pair" t1, .str "claim" t2, .str "hook" t3, .str "relay" t4, .str "clamp" t5, .str "trail" t6, .str "wheel" t7] n, sl⟩) (H : Hp) : SqT K H c wordsV := by
  refine Or.inr ⟨_, _, _, l, rfl, rfl, (by show 8 ≤ sizeLine; decide), ?_⟩
  exact .cons ⟨_, rfl⟩ (.cons ⟨_, rfl⟩ (.cons ⟨_, rfl⟩ (.cons ⟨_, rfl⟩ (.cons ⟨_, rfl⟩ (.cons ⟨_, rfl⟩ (.cons ⟨_, rfl⟩ (.cons ⟨_, rfl⟩ (.nil))))))))
theorem whole_mk {K : PySem.W.Frag} {c : Addr} {od : Option Addr} {n : Nat} {sl : Array (Option Value)} {t0 t1 : Tok} (l : List.lookup c K = some ⟨.type "tuple", od, .seq #[.str "free" t0, .str "pair" t1] n, sl⟩) (H : Hp) : SqT K H c [.str "free", .str "pair"] := by
  refine Or.inr ⟨_, _, _, l, rfl, rfl, (by show 2 ≤ sizeLine; decide), ?_⟩
  exact .cons ⟨_, rfl⟩ (.cons ⟨_, rfl⟩ .nil)
end Pv

namespace Pv
open PySem L2 Evl Pm
local macro_rules | `(tactic| walk_at "r1") => `(tactic| first
  | refine ⟨_, rfl, ?_⟩
  | refine ⟨rfl, ?_⟩
  | refine ⟨_, _, rfl, rfl, (show (_ : Prop) from by first | decide | omega | assumption | exact Or.inr ⟨by decide, by decide⟩ | exact Or.inl ⟨by omega, by omega⟩ | exact ⟨by decide, by decide, by decide⟩ | exact ⟨by decide, by decide⟩ | exact wide_div (b := 60) (by omega) (by omega) (by decide) (by decide)), ?_⟩
  | refine ⟨_, _, rfl, rfl, ?_⟩
  | refine ⟨_, _, _, _, rfl, rfl, (show (_ : Prop) from by first | exact SqL.of (by assumption) | exact SqL.of upd_same | assumption | exact upd_same), rfl, ?_⟩
  | refine Or.inl ⟨_, rfl, ?_⟩)
local macro_rules | `(tactic| walk_at "ex") => `(tactic| first | exact Ex.refl _ | assumption | (refine ex_new ?_ (by assumption); walk_at "ex"))
local macro_rules | `(tactic| walk_at "r") => `(tactic| repeat (walk_at "r1"))

section
variable {P : Program} {w : World} {K : PySem.W.Frag} {mg : Str → Option Value} {base : Heap} {A : Ad}
theorem ok_own (T : Txt K mg A)   : Okd P w K mg base CX0 1 A.own P_own spOwn := by
  obtain ⟨fd, F⟩ := T.d_own

  refine ⟨fd, F.ok sc_own (fun vs H Q E h => ?_) (fun cdv A' outer s H vs Q E hr h => ?_), F.binds fun _ _ _ _ _ _ us hl => match us, hl with | [_], _ => rfl⟩
  · obtain ⟨l, xs, rfl, _⟩ := h
    rfl
  · obtain ⟨l, xs, rfl, hl, k⟩ := h
    refine ⟨_, (pss_cons (ps_if (pt_val (pe_callB call_isi (by rfl) T.n_isinstance (by decide +kernel) (pa_cons (pv 0) (pa_cons (pe_bltn (v := .ty "list") (u := .type "list") (by rfl) T.n_list (by decide +kernel) rfl) pa_nil)))) (pss_one (ps_ret (pe_callTy call_list_of (by rfl) T.n_list (by decide +kernel) (pa_cons (pv 0) pa_nil)))) pss_nil)
      (pss_one (ps_ret (pv 0)))), ?_⟩
    refine ⟨_, rfl, _, _, _, _, true, rfl, ClsV.ty "list", TyX.base (TyOf.lst hl), kit_ty (by decide +kernel), _, rfl, ?_⟩
    refine ⟨_, rfl, _, _, rfl, Or.inl (SqL.of hl), fun p hp => k p hp⟩


theorem ok_InvalidImage (T : Txt K mg A)   : Okd P w K mg base CX0 1 A.i_InvalidImage P_InvalidImage (spInit A.InvalidImage "record") := by
  obtain ⟨fd, F⟩ := T.f_InvalidImage.fn

  refine ⟨fd, F.ok sc_InvalidImage (fun vs H Q E h => ?_) (fun cdv A' outer s H vs Q E hr h => ?_), F.binds fun _ _ _ _ _ _ us hl => match us, hl with | [_, _], _ => rfl⟩
  · obtain ⟨a, v, rfl, _⟩ := h
    rfl
  · obtain ⟨a, v, rfl, ha, k⟩ := h
    refine ⟨_, (pss_one (ps_ost (pv 0) (pv 1))), ?_⟩
    exact ⟨_, rfl, _, rfl, a, A.InvalidImage, rfl, T.e_InvalidImage.oex, T.f_InvalidImage.nf, Or.inl ⟨ha, fun dx hdx ne => k dx hdx ne⟩⟩


theorem ok_Unrepairable (T : Txt K mg A)  (g_own : Okd P w K mg base CX0 1 A.own P_own spOwn) : Okd P w K mg base CX0 2 A.i_Unrepairable P_Unrepairable (spInitL A.Unrepairable "group") := by
  obtain ⟨fd, F⟩ := T.f_Unrepairable.fn
  obtain ⟨fd_own, G_own, b_own⟩ := g_own
  refine ⟨fd, F.ok sc_Unrepairable (fun vs H Q E h => ?_) (fun cdv A' outer s H vs Q E hr h => ?_), F.binds fun _ _ _ _ _ _ us hl => match us, hl with | [_, _], _ => rfl⟩
  · obtain ⟨a, l, xs, rfl, _⟩ := h
    rfl
  · obtain ⟨a, l, xs, rfl, ha, hl, k⟩ := h
    refine ⟨_, (pss_one (ps_ost (pv 0) (pe_call G_own (hr.mono (by decide)) (by rfl) T.g_own T.k_own b_own .nil pass0 (pa_cons (pv 1) pa_nil)))), ?_⟩
    refine ⟨_, rfl, l, xs, rfl, hl, fun p hp => ?_⟩
    have ha2 : upd H p (.lst xs) a = some (exo a A.Unrepairable none) := by
      rw [upd_ne (ne_of_none ha hp)]
      exact ha
    exact ⟨_, rfl, a, A.Unrepairable, rfl, T.e_Unrepairable.oex, T.f_Unrepairable.nf, Or.inl ⟨ha2, fun dx hdx ne => k p dx hp hdx ne⟩⟩

end

section
variable {P : Program} {w : World} {K : PySem.W.Frag} {mg : Str → Option Value} {base : Heap} {A : Ad}
theorem ok_check_image (T : Txt K mg A)  (g_InvalidImage : Okd P w K mg base CX0 1 A.i_InvalidImage P_InvalidImage (spInit A.InvalidImage "record")) : Okd P w K mg base (L2N.CX P w) 3 A.check_image P_check_image (spCI2 A) := by
  obtain ⟨fd, F⟩ := T.d_check_image
  obtain ⟨fd_InvalidImage, G_InvalidImage, b_InvalidImage⟩ := g_InvalidImage
  refine ⟨fd, F.okN sc_check_image (fun vs H Q E h => ?_) (fun cdv A' outer s H vs Q E hr h => ?_), F.binds fun _ _ _ _ _ _ us hl => match us, hl with | [_], _ => rfl⟩
  · obtain ⟨a, xs, rfl, _⟩ := h
    rfl
  · obtain ⟨a, xs, rfl, hx, hl, kq, kr⟩ := h
    refine ⟨_, (pss_cons (ps_set (i := 1) sc_check_image.nd rfl (Or.inl rfl) (pe_callB call_len_seq (by rfl) T.n_len PySem.boot_len (pa_cons (pv 0) pa_nil)))
      (pss_one (ps_for (passes_of rfl) rfl (pi_enum (by rfl) T.n_enumerate (pa_cons (pv 0) pa_nil)) (pg_tup (by rfl) (pgs_cons (pg_name (i := 2) sc_check_image.nd rfl (Or.inl rfl)) (pgs_cons (pg_name (i := 3) sc_check_image.nd rfl (Or.inl rfl)) pgs_nil))) (pss_one (ps_if (PW.pt (pw_or (pt_cmpR op_lt (pv 3) pe_int (nomark _)) (pw_or1 (pt_cmpR op_ge (pv 3) (pv 1) (nomark _))))) (pss_one (L2N.ps_raise rfl (L2N.takes_of rfl rfl rfl rfl) (L2N.pmk_oexN T.e_InvalidImage.oex T.f_InvalidImage.i T.f_InvalidImage.t G_InvalidImage (hr.mono (by decide)) b_InvalidImage pass0 rfl T.e_InvalidImage.g (pa_cons (pv 2) pa_nil)))) pss_nil))))), ?_⟩
    refine ⟨_, rfl, _, _, rfl, Or.inl (SqL.of hx), ?_⟩
    refine ⟨_, rfl, _, _, rfl, SqL.of hx, for_it walk_enum (fun i σ H' => ∃ v1 v2 : Option V, σ = [some (.ref a), some (.int ((xs.map V.int).length : Int)), v1, v2] ∧ Ex H H' ∧ ∀ j, j < i → badN xs j = false)
      ⟨none, none, rfl, Ex.refl H, fun j hj => absurd hj (Nat.not_lt_zero _)⟩ (fun i σ H' _ ⟨_, _, _, e, _⟩ => SqL.of (e _ _ hx)) ?_ ?_⟩
    · rintro i x σ H' H2 hi ⟨v1, v2, rfl, e, nb⟩ ⟨T0, y1, y2, rfl, hT, rfl, e1, e2⟩
      rw [List.length_map] at hi
      obtain ⟨z, hz, rfl⟩ := markV_int e2
      cases e1
      have hbad : badN xs i = (decide (z < 0) || decide ((xs.length : Int) ≤ z)) := by
        unfold badN
        rw [strip_getD_of hz]
      have raise : badN xs i = true → ∀ d H3, Ex (upd H' T0 (.tup [.int (i : Nat), .int z])) H3 → H3 d = some (.xd [("record", .int (i : Int))]) → E (.ref A.InvalidImage) (some d) H3 := fun hb d H3 ex hd =>
        kr i (firstOf_some hi hb nb) d H3 ((ex_new e hT).trans ex) hd
      refine ⟨T0, _, rfl, SqT.of upd_same, rfl, _, _, rfl, _, _, rfl, rfl, ?_⟩
      walk_at "r"
      refine ite_b (fun c => ?_) (fun c => ?_)
      · exact ⟨_, rfl, (by show 1 ≤ 1000; decide), mkO_go (raise (by rw [hbad, c]; rfl))⟩
      walk_at "r"
      rw [List.length_map]
      refine ite_b (fun c2 => ?_) (fun c2 => ?_)
      · exact ⟨_, rfl, (by show 1 ≤ 1000; decide), mkO_go (raise (by rw [hbad, c2, Bool.or_true]))⟩
      refine ⟨_, _, rfl, ex_new e hT, fun j hj => ?_⟩
      by_cases hji : j = i
      · rw [hji, hbad, c, c2]
        rfl
      · exact nb j (by omega)
    · rintro σ H' ⟨v1, v2, rfl, e, nb⟩
      rw [List.length_map] at nb
      exact kq (firstOf_none nb) H' e

end

section
variable {P : Program} {w : World} {K : PySem.W.Frag} {mg : Str → Option Value} {base : Heap} {A : Ad}
theorem ok_least_records (T : Txt K mg A)   : Okd P w K mg base CX0 1 A.least_records P_least_records spLR := by
  obtain ⟨fd, F⟩ := T.d_least_records

  refine ⟨fd, F.ok sc_least_records (fun vs H Q E h => ?_) (fun cdv A' outer s H vs Q E hr h => ?_), F.binds fun _ _ _ _ _ _ us hl => match us, hl with | [_], _ => rfl⟩
  · obtain ⟨a, ys, rfl, _⟩ := h
    rfl
  · obtain ⟨a, ys, rfl, hx, hl, hb, k⟩ := h
    refine ⟨_, (pss_cons (ps_set (i := 1) sc_least_records.nd rfl (Or.inl rfl) (pe_listRg (by rfl) (by rfl) T.n_list (prg_1 (by rfl) T.n_range (pe_callB call_len_seq (by rfl) T.n_len PySem.boot_len (pa_cons (pv 0) pa_nil)))))
      (pss_cons (ps_for PassesOwn.never rfl (pi_enum (by rfl) T.n_enumerate (pa_cons (pv 0) pa_nil)) (pg_tup (by rfl) (pgs_cons (pg_name (i := 2) sc_least_records.nd rfl (Or.inl rfl)) (pgs_cons (pg_name (i := 3) sc_least_records.nd rfl (Or.inl rfl)) pgs_nil))) (pss_cons (ps_set (i := 4) sc_least_records.nd rfl (Or.inr rfl) (pe_callB (call_min2 (by rfl)) (by rfl) T.n_min (by decide +kernel) (pa_cons (pe_ix ix_list (pv 1) (pv 2) (fun _ _ => rfl)) (pa_cons (pe_ix ix_list (pv 1) (pv 3) (fun _ _ => rfl)) pa_nil))))
      (pss_cons (ps_set (i := 5) sc_least_records.nd rfl (Or.inr rfl) (pe_callB (call_max2 (by rfl)) (by rfl) T.n_max (by decide +kernel) (pa_cons (pe_ix ix_list (pv 1) (pv 2) (fun _ _ => rfl)) (pa_cons (pe_ix ix_list (pv 1) (pv 3) (fun _ _ => rfl)) pa_nil))))
      (pss_one (ps_if (pt_cmpR op_ne (pv 4) (pv 5) (nomark _)) (pss_one (ps_setLc (i := 1) (own := [("old", 6)]) (tt := tYes) (by rfl) sc_least_records.nd rfl rfl (sw_true rfl rfl rfl (by decide +kernel)) (pi_list (pv 1)) (blkOk_by (own := [("old", 6)]) (N := N_least_records) (sc := defScope s_least_records) (by decide +kernel)) (fun _ _ _ _ _ => (pg_name (i := 6) sc_least_records.nd rfl (Or.inl rfl))) (fun _ _ _ _ _ => pts_nil) (fun _ _ _ _ _ => (pe_ifExp (pt_cmpR op_eq (pv 6) (pv 5) (nomark _)) (pv 4) (pv 6))))) pss_nil)))))
      (pss_one (ps_ret (pv 1))))), ?_⟩
    have hlab : ∀ i, (lab ys i).length = ys.length := fun i => by
      induction i with
      | zero => exact List.length_range
      | succ i ih =>
        show (stepL (lab ys i) i (ys.getD i 0)).length = _
        unfold stepL
        split
        · exact ih
        · rw [List.length_map]
          exact ih
    have hn : (nI ys).length = ys.length := nI_len ys
    refine ⟨_, rfl, _, _, rfl, Or.inl (SqL.of hx), ?_⟩
    refine ⟨_, rfl, RgOk.of_le (by decide) (by rw [hn]; omega) (by decide) (by rw [hn]; omega), fun p0 hp0 => ?_⟩
    have hp1 : ListN (upd H p0 (.lst (rgV 0 ((nI ys).length : Int)))) p0 (lab ys 0) := by
      show upd H p0 _ p0 = _
      rw [upd_same, hn, rgV_map, List.map_map]
      rfl
    have e0 := Ex.new (o := .lst (rgV 0 ((nI ys).length : Int))) hp0
    generalize L2.upd H p0 _ = H0 at *
    have hx0 := hx.ex e0
    refine ⟨_, rfl, _, _, rfl, hx0.sz, for_it walk_enum (fun i σ H' => ∃ (p : Addr) (v2 v3 v4 v5 v6 : Option V), σ = [some (.ref a), some (.ref p), v2, v3, v4, v5, v6] ∧ Ex H H' ∧ H p = none ∧ ListN H' p (lab ys i))
      ⟨p0, none, none, none, none, none, rfl, e0, hp0, hp1⟩ (fun i σ H' _ ⟨_, _, _, _, _, _, _, e, _⟩ => (hx.ex e).sz) ?_ ?_⟩
    · rintro i x σ H' H2 hi ⟨p, v2, v3, v4, v5, v6, rfl, e, hp, hL⟩ ⟨T0, y1, y2, rfl, hT, rfl, e1, e2⟩
      obtain ⟨hi2, rfl⟩ := nat_at e2
      cases e1
      have hlt := hb i hi2
      have hL1 : ListN (upd H' T0 (.tup [.int (i : Nat), .int (ys.getD i 0 : Nat)])) p (lab ys i) := hL.ex (Ex.new hT)
      have e1 := ex_new (o := .tup [.int (i : Nat), .int (ys.getD i 0 : Nat)]) e hT
      have hlen : (lab ys i).length = ys.length := hlab i
      refine ⟨T0, _, rfl, SqT.of upd_same, rfl, _, _, rfl, _, _, rfl, rfl, ?_⟩
      generalize L2.upd H' T0 _ = G at *
      refine ⟨_, rfl, _, rfl, _, _, _, _, rfl, rfl, hL1.sz, atN (by omega), _, rfl, _, rfl, _, _, _, _, rfl, rfl, hL1.sz, atN (by omega), _, _, rfl, ?_⟩
      refine ⟨_, rfl, _, rfl, _, _, _, _, rfl, rfl, hL1.sz, atN (by omega), _, rfl, _, rfl, _, _, _, _, rfl, rfl, hL1.sz, atN (by omega), _, _, rfl, ?_⟩
      have hmin : (if (((lab ys i).getD (ys.getD i 0) 0 : Nat) : Int) < (((lab ys i).getD i 0 : Nat) : Int) then (((lab ys i).getD (ys.getD i 0) 0 : Nat) : Int) else (((lab ys i).getD i 0 : Nat) : Int)) = ((min ((lab ys i).getD i 0) ((lab ys i).getD (ys.getD i 0) 0) : Nat) : Int) := by
        split <;> omega
      have hmax : (if (((lab ys i).getD (ys.getD i 0) 0 : Nat) : Int) > (((lab ys i).getD i 0 : Nat) : Int) then (((lab ys i).getD (ys.getD i 0) 0 : Nat) : Int) else (((lab ys i).getD i 0 : Nat) : Int)) = ((max ((lab ys i).getD i 0) ((lab ys i).getD (ys.getD i 0) 0) : Nat) : Int) := by
        split <;> omega
      rw [hmin, hmax]
      have hstep : lab ys (i + 1) = stepL (lab ys i) i (ys.getD i 0) := rfl
      unfold stepL at hstep
      generalize min ((lab ys i).getD i 0) ((lab ys i).getD (ys.getD i 0) 0) = lo at *
      generalize max ((lab ys i).getD i 0) ((lab ys i).getD (ys.getD i 0) 0) = up at *
      refine ⟨_, rfl, _, rfl, rfl, _, rfl, ?_⟩
      refine ite_b (fun c => ?_) (fun c => ?_)
      · have hne : lo ≠ up := fun z => by rw [z] at c; simp at c
        rw [if_neg hne] at hstep
        refine ⟨_, rfl, p, rfl, ⟨_, hL1.sz⟩, fun D hD => lc_list (K := K) (a := p) (xs := nI (lab ys i)) (fun j H' => Ex G H' ∧ ListN H' D (((lab ys i).take j).map fun o => if o = up then lo else o)) ⟨Ex.new hD, upd_same⟩ (fun j H' _ q => (hL1.ex q.1).sz) ?_ ?_⟩
        · rintro j y H' hj ⟨e3, hd⟩
          obtain ⟨hj2, rfl⟩ := nat_at hj
          refine ⟨rfl, _, rfl, _, rfl, rfl, _, rfl, ?_⟩
          have fin : ∀ v : Nat, (if (lab ys i).getD j 0 = up then lo else (lab ys i).getD j 0) = v → ∃ acc, H' D = some (.lst acc) ∧ acc.length < sizeLine ∧ Ex G (upd H' D (.lst (acc ++ [V.int (v : Int)]))) ∧ ListN (upd H' D (.lst (acc ++ [V.int (v : Int)]))) D (((lab ys i).take (j + 1)).map fun o => if o = up then lo else o) := fun v hv => by
            refine ⟨_, hd, small1000 (by rw [nI_len, List.length_map, List.length_take]; omega), fun b o hb => ?_, ?_⟩
            · rw [upd_ne (ne_of_none hb hD)]
              exact e3 b o hb
            · show upd H' D _ D = _
              rw [upd_same, List.take_add_one, List.getElem?_eq_getElem hj2]
              have hg : (lab ys i)[j] = (lab ys i).getD j 0 := by rw [List.getD_eq_getElem?_getD, List.getElem?_eq_getElem hj2]; rfl
              unfold nI
              rw [List.map_append, List.map_append, Option.toList_some, hg]
              show _ = some (HO.lst (_ ++ [V.int ((if (lab ys i).getD j 0 = up then lo else (lab ys i).getD j 0 : Nat) : Int)]))
              rw [hv]
          refine ite_b (fun c2 => ?_) (fun c2 => ?_)
          · have h2 : (lab ys i).getD j 0 = up := by
              have c3 := of_decide_eq_true c2
              injection c3 with c3
              omega
            exact ⟨_, rfl, fin lo (if_pos h2)⟩
          · have h2 : ¬ (lab ys i).getD j 0 = up := fun z => (of_decide_eq_false c2) (by rw [z])
            exact ⟨_, rfl, fin _ (if_neg h2)⟩
        · rintro H' ⟨e3, hd⟩
          have e4 := e1.trans e3
          refine ⟨D, _, _, _, _, _, rfl, e4, fresh_back e1 hD, ?_⟩
          rw [hstep]
          have hz : (nI (lab ys i)).length = (lab ys i).length := nI_len _
          rw [hz, List.take_length] at hd
          exact hd
      · have he : lo = up := by
          by_cases h : lo = up
          · exact h
          · exfalso
            have : decide (V.int (lo : Int) = V.int (up : Int)) = false := decide_eq_false (fun z => h (by injection z with z; omega))
            rw [this] at c
            cases c
        rw [if_pos he] at hstep
        exact ⟨p, _, _, _, _, _, rfl, e1, hp, by rw [hstep]; exact hL1⟩
    · rintro σ H' ⟨p, v2, v3, v4, v5, v6, rfl, e, hp, hL⟩
      rw [hn] at hL
      exact ⟨_, rfl, k p H' hp e hL⟩

end

section
variable {P : Program} {w : World} {K : PySem.W.Frag} {mg : Str → Option Value} {base : Heap} {A : Ad}
theorem ok_groups (T : Txt K mg A)  (g_check_image : Okd P w K mg base (L2N.CX P w) 3 A.check_image P_check_image (spCI2 A)) (g_least_records : Okd P w K mg base CX0 1 A.least_records P_least_records spLR) : Okd P w K mg base (L2N.CX P w) 4 A.groups P_groups (spGr2 A) := by
  obtain ⟨fd, F⟩ := T.d_groups
  obtain ⟨fd_check_image, G_check_image, b_check_image⟩ := g_check_image
  obtain ⟨fd_least_records, G_least_records, b_least_records⟩ := g_least_records
  refine ⟨fd, F.okN sc_groups (fun vs H Q E h => ?_) (fun cdv A' outer s H vs Q E hr h => ?_), F.binds fun _ _ _ _ _ _ us hl => match us, hl with | [_], _ => rfl⟩
  · obtain ⟨a, xs, rfl, _⟩ := h
    rfl
  · obtain ⟨a, xs, rfl, hx, hl, kq, kr⟩ := h
    refine ⟨_, (pss_cons (ps_expr (pe_callS G_check_image (hr.mono (by decide)) rfl T.g_check_image T.k_check_image b_check_image (fun σ => L2N.passAt (L2N.takes_of rfl rfl rfl rfl) σ) (pa_cons (pv 0) pa_nil)))
      (pss_cons (ps_set (i := 1) sc_groups.nd rfl (Or.inl rfl) pe_dnewK)
      (pss_cons (ps_for (passes_of rfl) rfl (pi_enum (by rfl) T.n_enumerate (pa_cons (pe_call G_least_records (hr.mono (by decide)) (by rfl) T.g_least_records T.k_least_records b_least_records .nil pass0 (pa_cons (pv 0) pa_nil)) pa_nil)) (pg_tup (by rfl) (pgs_cons (pg_name (i := 2) sc_groups.nd rfl (Or.inl rfl)) (pgs_cons (pg_name (i := 3) sc_groups.nd rfl (Or.inl rfl)) pgs_nil))) (pss_one (ps_expr (pe_bm PySem.F.plainAttrs_list PySem.F.slot_list_append PySem.F.type_list_append mt_append (pe_dsetd (pv 1) (pv 3) (pe_lst pa_nil) ⟨rfl, rfl, rfl, rfl⟩) (pa_cons (pv 2) pa_nil)))))
      (pss_one (ps_ret (pe_listVals (by rfl) (pv 1) (by rfl) T.n_list)))))), ?_⟩
    refine ⟨_, rfl, a, xs, rfl, hx, hl, fun hok H1 e1 => ?_, kr⟩
    have hnat := natI_at' hok hx
    have hrec := natI_rec hok
    have kq := kq hok
    have hl : (natI xs).length ≤ 64 := by rw [natI_len]; exact hl
    generalize natI xs = ys at *
    have hx := hnat
    have hn := nI_len ys
    have LG := labG_ok hrec ys.length (Nat.le_refl _)
    refine fun d hd => ?_
    have e2 : Ex H (upd H1 d (.dK [])) := ex_new e1 hd
    refine ⟨_, rfl, a, ys, rfl, hx.ex e2, hl, hrec, fun p H3 hp e3 hL => ?_⟩
    have hpd : p ≠ d := fun z => by
      rw [z, upd_same] at hp
      cases hp
    have hlab : (lab ys ys.length).length = ys.length := LG.len
    have G0 : GstF (labF ys) 0 H3 H3 d [] := ⟨e3 d _ upd_same, rfl, List.nodup_nil, (fun x hx => nomatch hx), Mut.refl d H3⟩
    have e4 : Ex H H3 := e2.trans e3
    have hd0 : H d = none := fresh_back e1 hd
    clear hp e2
    refine ⟨_, _, rfl, hL.sz, for_it walk_enum (fun i σ H' => ∃ (gs : List (Nat × Addr)) (v2 v3 : Option V), σ = [some (.ref a), some (.ref d), v2, v3] ∧ GstF (labF ys) i H3 H' d gs)
      ⟨[], none, none, rfl, G0⟩ (fun i σ H' _ ⟨_, _, _, _, G⟩ => SqL.of (G.mt p _ hpd hL)) ?_ ?_⟩
    · rintro i x σ H' H2 hi ⟨gs, v2, v3, rfl, G⟩ ⟨T0, y1, y2, rfl, hT, rfl, e1, e2⟩
      obtain ⟨hi2, rfl⟩ := nat_at e2
      cases e1
      rw [hlab] at hi2
      have hb : (lab ys ys.length).getD i 0 = labF ys i := rfl
      rw [hb]
      have G1 := G.tup (o := .tup [.int (i : Nat), .int (labF ys i : Nat)]) hT
      refine ⟨T0, _, rfl, SqT.of upd_same, rfl, _, _, rfl, _, _, rfl, rfl, ?_⟩
      generalize L2.upd H' T0 _ = G' at *
      have hgl : gs.length ≤ i := by
        have e := congrArg List.length G.keys
        rw [List.length_map] at e
        have := List.length_filter_le (fun x => decide (labF ys x = x)) (List.range i)
        rw [List.length_range] at this
        omega
      have hroot : labF ys (labF ys i) = labF ys i := LG.idem i hi2
      refine ⟨_, rfl, d, rfl, Or.inl ⟨_, Or.inl G1.kv⟩, _, rfl, (by decide), fun z hz => ⟨kvG gs, Sum.inl (labF ys i : Nat), (G1.tup hz).kv, rfl, small1000 (by unfold kvG; rw [List.length_map]; omega), fun v hv => ?_, fun hn => ?_⟩⟩
      · obtain ⟨c, hc, rfl⟩ := kvG_some hv
        have G2 := G1.tup hz (o := .lst [])
        obtain ⟨_, _, hcl⟩ := G2.at_ _ hc
        have hfl := List.length_filter_le (fun y => decide (labF ys y = labF ys i)) (List.range i)
        rw [List.length_range] at hfl
        exact ⟨Or.inl ⟨rfl, _, SqL.of hcl⟩, _, rfl, _, _, _, rfl, rfl, hcl, small1000 (by rw [nI_len]; exact Nat.le_trans hfl (by omega)), gs, _, _, rfl, G2.old hc⟩
      · have hno := kvG_none hn
        have FR := G1.fresh (fun x hx => LG.le x (by omega)) hroot (z := z) hno hz
        rw [kvG_put hno, FR.1]
        have hzd : z ≠ d := fun e => by
          rw [e, G1.kv] at hz
          cases hz
        have hz1 : upd (upd G' z (.lst [])) d (.dK (kvG (gs ++ [(i, z)]))) z = some (.lst []) := by rw [upd_ne hzd, upd_same]
        exact ⟨Or.inl ⟨rfl, _, SqL.of hz1⟩, _, rfl, _, _, _, rfl, rfl, hz1, by decide, gs ++ [(i, z)], _, _, rfl, FR.2⟩
    · rintro σ H' ⟨gs, v2, v3, rfl, G⟩
      rw [nI_len, hlab] at G
      refine ⟨_, rfl, d, kvG gs, rfl, G.kv, fun q hq => ?_⟩
      have keep : ∀ b o, H b = some o → H' b = some o := fun b o hb => G.mt b o (fun z => by rw [z, hd0] at hb; cases hb) (e4 b o hb)
      have hq0 : H q = none := by
        cases e : H q with
        | none => rfl
        | some o =>
          rw [keep q o e] at hq
          cases hq
      refine kq q gs _ hq0 (ex_new keep hq) ⟨?_, G.keys, fun x hx => ?_⟩
      · rw [upd_same]
        unfold kvG
        rw [List.map_map]
        rfl
      · obtain ⟨g1, g2, g3⟩ := G.at_ x hx
        refine ⟨?_, ne_of_none g3 hq, ?_⟩
        · cases e : H x.2 with
          | none => rfl
          | some o =>
            rw [e4 _ o e] at g1
            cases g1
        · exact ListN.ex (Ex.new hq) g3

end

section
variable {P : Program} {w : World} {K : PySem.W.Frag} {mg : Str → Option Value} {base : Heap} {A : Ad}
theorem ok_row_of (T : Txt K mg A)   : Okd P w K mg base CX0 1 A.row_of P_row_of spRow2 := by
  obtain ⟨fd, F⟩ := T.d_row_of

  refine ⟨fd, F.ok sc_row_of (fun vs H Q E h => ?_) (fun cdv A' outer s H vs Q E hr h => ?_), F.binds fun _ _ _ _ _ _ us hl => match us, hl with | [_, _], _ => rfl⟩
  · obtain ⟨a, g, ys, gp, rfl, _⟩ := h
    rfl
  · obtain ⟨a, g, ys, gp, rfl, hx, hl, hg, hG, hlt, k⟩ := h
    refine ⟨_, (pss_cons (ps_set (i := 2) sc_row_of.nd rfl (Or.inr rfl) (pe_lc (own := [("record", 6)]) (tt := tYes) (by rfl) sc_row_of.nd (pi_list (pv 1)) (blkOk_by (own := [("record", 6)]) (N := N_row_of) (sc := defScope s_row_of) (by decide +kernel)) (fun _ _ _ _ _ => (pg_name (i := 6) sc_row_of.nd rfl (Or.inl rfl))) (fun _ _ _ _ _ => pts_nil) (fun _ _ _ _ _ => (pe_ix (ix_listK (K := K) rfl) (pv 0) (pv 6) (fun _ _ => rfl)))))
      (pss_cons (ps_setLc (i := 3) (own := [("record", 6)]) (tt := _) (by rfl) sc_row_of.nd rfl rfl (sw_true rfl rfl rfl (by decide +kernel)) (pi_list (pv 1)) (blkOk_by (own := [("record", 6)]) (N := N_row_of) (sc := defScope s_row_of) (by decide +kernel)) (fun _ _ _ _ _ => (pg_name (i := 6) sc_row_of.nd rfl (Or.inl rfl))) (fun _ _ _ _ _ => (pts_one (pt_cmpR (op_notInK (K := K) rfl) (pv 6) (pv 2) (by with_unfolding_all rfl)))) (fun _ _ _ _ _ => (pv 6)))
      (pss_cons (ps_set (i := 4) sc_row_of.nd rfl (Or.inl rfl) (pe_ifExp (pt_truth (pv 3) (by intro _; rfl)) (pe_ix ix_list (pv 3) pe_int (fun _ _ => rfl)) (pe_ix ix_list (pv 1) pe_int (fun _ _ => rfl))))
      (pss_cons (ps_set (i := 5) sc_row_of.nd rfl (Or.inr rfl) (pe_lst pa_nil))
      (pss_cons (ps_while PassesOwn.never (pt_cmpR op_notIn_seq (pv 4) (pv 5) (by with_unfolding_all rfl)) (pss_cons (ps_expr (pe_bm PySem.F.plainAttrs_list PySem.F.slot_list_append PySem.F.type_list_append mt_append (pv 5) (pa_cons (pv 4) pa_nil)))
      (pss_one (ps_set (i := 4) sc_row_of.nd rfl (Or.inl rfl) (pe_ix ix_list (pv 0) (pv 4) (fun _ _ => rfl))))))
      (pss_one (ps_ret (pe_op op_cat (pv 5) (pe_lc (own := [("record", 6)]) (tt := _) (by rfl) sc_row_of.nd (pi_list (pv 1)) (blkOk_by (own := [("record", 6)]) (N := N_row_of) (sc := defScope s_row_of) (by decide +kernel)) (fun _ _ _ _ _ => (pg_name (i := 6) sc_row_of.nd rfl (Or.inl rfl))) (fun _ _ _ _ _ => (pts_one (pt_cmpR (op_notInK (K := K) rfl) (pv 6) (pv 5) (by with_unfolding_all rfl)))) (fun _ _ _ _ _ => (pv 6))))))))))), ?_⟩
    have hg0 : gN ys = fun x => ys.getD x 0 := rfl
    have h64 : gp.length ≤ 64 := by
      have := nd_len (gp := List.range ys.length) hG.nd fun x hx => List.mem_range.mpr (hlt x hx)
      rw [List.length_range] at this
      omega
    have hlt' : ∀ j, j < gp.length → gp.getD j 0 < ys.length := fun j hj => hlt _ (getD_mem hj)
    rw [hg0] at hG k
    have hs1 := hG.start_1
    have hs2 := Gp.start_2 (g := fun x => ys.getD x 0) (gp := gp)
    have hw0 : wk (fun x => ys.getD x 0) (gp.length + 1) (startF (fun x => ys.getD x 0) gp) [] = walkF (fun x => ys.getD x 0) gp := rfl
    have hrow : rowF (fun x => ys.getD x 0) gp = walkF (fun x => ys.getD x 0) gp ++ gp.filter fun x => !(walkF (fun x => ys.getD x 0) gp).contains x := rfl
    have hst := hG.start
    refine ⟨_, rfl, g, rfl, ⟨_, hg.sz⟩, fun D hD => lc_list (K := K) (a := g) (xs := nI gp) (fun j H' => Ex H H' ∧ ListN H' D ((gp.take j).map fun y => ys.getD y 0)) ⟨Ex.new hD, upd_same⟩ (fun j H' _ q => (hg.ex q.1).sz) ?_ ?_⟩
    · rintro j y H' hj ⟨e3, hd⟩
      obtain ⟨hj2, rfl⟩ := nat_at hj
      refine ⟨rfl, _, rfl, _, rfl, _, _, _, _, rfl, rfl, (hx.ex e3).sz, atN (hlt' j hj2), ?_⟩
      refine ⟨_, hd, small1000 (by rw [nI_len, List.length_map, List.length_take]; omega), ?_⟩
      rw [take_map_succ hj2]
      exact acc_step hD e3
    rintro H1 ⟨e1, h1⟩
    rw [nI_len, List.take_length] at h1
    have hD0 : H D = none := hD
    refine ⟨_, rfl, g, rfl, ⟨_, (hg.ex e1).sz⟩, fun D2 hD2 => lc_list (K := K) (a := g) (xs := nI gp) (fun j H' => Ex H1 H' ∧ ListN H' D2 ((gp.take j).filter fun x => !(gp.map fun y => ys.getD y 0).contains x)) ⟨Ex.new hD2, upd_same⟩ (fun j H' _ q => (hg.ex (e1.trans q.1)).sz) ?_ ?_⟩
    · rintro j y H' hj ⟨e3, hd⟩
      obtain ⟨hj2, rfl⟩ := nat_at hj
      have f1 : ListN H' D (gp.map fun y => ys.getD y 0) := h1.ex e3
      refine ⟨rfl, _, rfl, _, rfl, _, _, rfl, Or.inl (SqL.of f1), rfl, flat_nI _, _, rfl, ?_⟩
      show if (!inV _ _) = true then _ else _
      rw [inV_nI]
      refine ite_b (fun c => ?_) (fun c => ?_)
      · refine ⟨_, rfl, _, hd, small1000 (by rw [nI_len]; have := List.length_filter_le (fun x => !(gp.map fun y => ys.getD y 0).contains x) (gp.take j); rw [List.length_take] at this; omega), ?_⟩
        rw [take_filter_pos hj2 c]
        exact acc_step hD2 e3
      · rw [take_filter_neg hj2 c]
        exact ⟨e3, hd⟩
    rintro H2 ⟨e2, h2⟩
    rw [nI_len, List.take_length] at h2
    generalize hT : (gp.filter fun x => !(gp.map fun y => ys.getD y 0).contains x) = TT at *
    have hh : ∀ {L : List Nat} {v : Nat}, L.head? = some v → atI (nI L) (0 : Int) = some (V.int (v : Int)) := fun {L v} h => by
      cases L with
      | nil => cases h
      | cons x L =>
        injection h with h
        subst h
        exact atN (xs := x :: L) (j := 0) (Nat.succ_pos _)
    generalize startF (fun x => ys.getD x 0) gp = sf at *
    generalize walkF (fun x => ys.getD x 0) gp = pp at *
    refine ⟨_, rfl, _, Or.inl ⟨_, SqL.of h2, rfl⟩, ite_b (fun c => ⟨_, rfl, _, _, _, _, rfl, rfl, SqL.of h2, hh (hs2 (fun z => by rw [z] at c; cases c)), ?_⟩) (fun c => ⟨_, rfl, _, _, _, _, rfl, rfl, (hg.ex (e1.trans e2)).sz, hh (hs1 (by cases TT with | nil => rfl | cons _ _ => cases c)), ?_⟩)⟩
    all_goals
      refine ⟨by decide, fun r hr0 => ?_⟩
      have e3 : Ex H (upd H2 r (.lst [])) := (e1.trans e2).trans (Ex.new hr0)
      have hrn : H r = none := fresh_back (e1.trans e2) hr0
      refine ⟨fun m σ H' => ∃ (h : Nat) (R : List Nat) (v6 : Option V), wk (fun x => ys.getD x 0) m h R = pp ∧ gp.length + 1 = m + R.length ∧ R.Nodup ∧ (∀ x ∈ R, x ∈ gp) ∧ h ∈ gp ∧ σ = [some (.ref a), some (.ref g), some (.ref D), some (.ref D2), some (.int (h : Int)), some (.ref r), v6] ∧ Ex H H' ∧ ListN H' r R, ⟨gp.length + 1, sf, [], none, hw0, rfl, List.nodup_nil, (fun _ h => nomatch h), hst, rfl, e3, upd_same⟩, ?_⟩
      rintro m σ H' ⟨h, R, v6, hwk, hm, hnd, hsub, hin, rfl, e, hr⟩
      have hRl := nd_len hnd hsub
      refine ⟨_, rfl, _, rfl, _, _, rfl, Or.inl (SqL.of hr), rfl, flat_nI _, _, rfl, ?_⟩
      show if (!inV _ _) = true then _ else _
      rw [inV_nI]
      cases m with
      | zero => exfalso; omega
      | succ m =>
      unfold wk at hwk
      cases c : R.contains h with
      | false =>
        rw [c, if_neg (by decide)] at hwk
        show if true = true then _ else _
        refine iteT ?_
        refine ⟨fun σ H' => ∃ (v6 : Option V), σ = [some (.ref a), some (.ref g), some (.ref D), some (.ref D2), some (.int ((ys.getD h 0 : Nat) : Int)), some (.ref r), v6] ∧ Ex H H' ∧ ListN H' r (R ++ [h]), fun σ' H' ⟨v6, h1, h2, h3⟩ => ⟨m, by omega, ys.getD h 0, R ++ [h], v6, hwk, by rw [List.length_append]; show _ = m + (R.length + 1); omega, nd_app hnd c, fun x hx => by
            rcases List.mem_append.mp hx with hx | hx
            · exact hsub x hx
            · rw [List.mem_singleton.mp hx]
              exact hin, hG.cl h hin, h1, h2, h3⟩, ?_⟩
        have AC := acc_step (v := h) hrn e (ls := R)
        refine ⟨_, rfl, Or.inl ⟨rfl, _, SqL.of hr⟩, _, rfl, _, _, _, rfl, rfl, hr, small1000 (by rw [nI_len]; omega), ?_⟩
        refine ⟨_, rfl, _, rfl, _, _, _, _, rfl, rfl, (hx.ex AC.1).sz, atN (hlt _ hin), ?_⟩
        exact ⟨v6, rfl, AC.1, AC.2⟩
      | true =>
        rw [c, if_pos rfl] at hwk
        subst hwk
        show if false = true then _ else _
        refine iteF ?_
        refine ⟨_, rfl, _, rfl, g, rfl, ⟨_, (hg.ex e).sz⟩, fun D3 hD3 => lc_list (K := K) (a := g) (xs := nI gp) (fun j H1 => Ex H' H1 ∧ ListN H1 D3 ((gp.take j).filter fun x => !R.contains x)) ⟨Ex.new hD3, upd_same⟩ (fun j H1 _ q => (hg.ex (e.trans q.1)).sz) ?_ ?_⟩
        · rintro j y H1 hj ⟨e3, hd⟩
          obtain ⟨hj2, rfl⟩ := nat_at hj
          refine ⟨rfl, _, rfl, _, rfl, _, _, rfl, Or.inl (SqL.of (hr.ex e3)), rfl, flat_nI _, _, rfl, ?_⟩
          show if (!inV _ _) = true then _ else _
          rw [inV_nI]
          refine ite_b (fun c => ?_) (fun c => ?_)
          · refine ⟨_, rfl, _, hd, small1000 (by rw [nI_len]; have := List.length_filter_le (fun x => !R.contains x) (gp.take j); rw [List.length_take] at this; omega), ?_⟩
            rw [take_filter_pos hj2 c]
            exact acc_step hD3 e3
          · rw [take_filter_neg hj2 c]
            exact ⟨e3, hd⟩
        rintro H4 ⟨e4, h4⟩
        rw [nI_len, List.take_length] at h4
        have hf := List.length_filter_le (fun x => !R.contains x) gp
        refine ⟨_, _, _, _, rfl, rfl, hr.ex e4, h4, Nat.le_of_lt (small1000 (by rw [nI_len, nI_len]; omega)), fun q hq => k q _ (fresh_back (e.trans e4) hq) ((e.trans e4).trans (Ex.new hq)) ?_⟩
        show upd H4 q _ q = _
        rw [upd_same, hrow]
        unfold nI
        rw [List.map_append]

end

section
variable {P : Program} {w : World} {K : PySem.W.Frag} {mg : Str → Option Value} {base : Heap} {A : Ad}
theorem forms_find {sh : List Nat} : (formsT.find? fun q => decide (q.1 = sh)) = ((List.range 8).find? fun w => decide (form w = sh)).map fun w => (form w, word w) := by
  have e : formsT = (List.range 8).map fun w => (form w, word w) := by rfl
  rw [e, List.find?_map]
  rfl
theorem ok_piece_of (T : Txt K mg A) (hF : TabK P w K A.FORMS formsT) (g_row_of : Okd P w K mg base CX0 1 A.row_of P_row_of spRow2) : Okd P w K mg base CX0 2 A.piece_of P_piece_of spPO2 := by
  obtain ⟨fd, F⟩ := T.d_piece_of
  obtain ⟨fd_row_of, G_row_of, b_row_of⟩ := g_row_of
  refine ⟨fd, F.ok sc_piece_of (fun vs H Q E h => ?_) (fun cdv A' outer s H vs Q E hr h => ?_), F.binds fun _ _ _ _ _ _ us hl => match us, hl with | [_, _], _ => rfl⟩
  · obtain ⟨a, g, ys, gp, rfl, _⟩ := h
    rfl
  · obtain ⟨a, g, ys, gp, rfl, hx, hl, hg, hG, hlt, k1, k2⟩ := h
    refine ⟨_, (pss_cons (ps_set (i := 2) sc_piece_of.nd rfl (Or.inr rfl) (pe_call G_row_of (hr.mono (by decide)) (by rfl) T.g_row_of T.k_row_of b_row_of .nil pass0 (pa_cons (pv 0) (pa_cons (pv 1) pa_nil))))
      (pss_cons (ps_set (i := 3) sc_piece_of.nd rfl (Or.inl rfl) (pe_callTy call_tuple_of (by rfl) T.n_tuple (by decide +kernel) (pa_cons (pe_lc (own := [("record", 5)]) (tt := tYes) (by rfl) sc_piece_of.nd (pi_list (pv 2)) (blkOk_by (own := [("record", 5)]) (N := N_piece_of) (sc := defScope s_piece_of) (by decide +kernel)) (fun _ _ _ _ _ => (pg_name (i := 5) sc_piece_of.nd rfl (Or.inl rfl))) (fun _ _ _ _ _ => pts_nil) (fun _ _ _ _ _ => (pe_indexK (K := K) rfl (pe_bm PySem.F.plainAttrs_list PySem.F.slot_list_index PySem.F.type_list_index mt_index (pv 2) (pa_cons (pe_ix (ix_listK (K := K) rfl) (pv 0) (pv 5) (fun _ _ => rfl)) pa_nil))))) pa_nil)))
      (pss_cons (ps_set (i := 4) sc_piece_of.nd rfl (Or.inl rfl) (pe_tabLook hr.units (pe_glob (v := .ref A.FORMS) rfl T.g_FORMS rfl) (pv 3) ⟨rfl, rfl, rfl, rfl⟩))
      (pss_cons (ps_if (pt_cmpR op_isN (pv 4) pe_non (nomark _)) (pss_one (ps_ret pe_non)) pss_nil)
      (pss_one (ps_ret (pe_tup (pa_cons (pv 4) (pa_cons (pe_callTy call_tuple_of (by rfl) T.n_tuple (by decide +kernel) (pa_cons (pv 2) pa_nil)) pa_nil))))))))), ?_⟩
    have hg0 : gN ys = fun x => ys.getD x 0 := rfl
    refine ⟨_, rfl, _, rfl, a, g, ys, gp, rfl, hx, hl, hg, hG, hlt, fun p H1 hp e1 h1 => ?_⟩
    have hrm : ∀ x, x ∈ rowF (gN ys) gp ↔ x ∈ gp := fun x => hG.row_mem
    have hrl := hG.row_len
    have hrn := hG.row_nd
    have hcl : ∀ x ∈ rowF (gN ys) gp, ys.getD x 0 ∈ rowF (gN ys) gp := fun x hx => (hrm _).mpr (hG.cl x ((hrm x).mp hx))
    have hlt2 : ∀ x ∈ rowF (gN ys) gp, x < ys.length := fun x hx => hlt x ((hrm x).mp hx)
    have h64 : gp.length ≤ 64 := by
      have := nd_len (gp := List.range ys.length) hG.nd fun x hx => List.mem_range.mpr (hlt x hx)
      rw [List.length_range] at this
      omega
    have hpc : pieceF (gN ys) gp = ((List.range 8).find? fun w => decide (form w = shapeF (gN ys) (rowF (gN ys) gp))).map fun w => (w, rowF (gN ys) gp) := rfl
    generalize rowF (gN ys) gp = row at *
    have hsh : shapeF (gN ys) row = row.map fun x => row.idxOf (ys.getD x 0) := rfl
    refine ⟨_, rfl, p, rfl, ⟨_, h1.sz⟩, fun D hD => lc_list (K := K) (a := p) (xs := nI row) (fun j H' => Ex H1 H' ∧ ListN H' D ((row.take j).map fun x => row.idxOf (ys.getD x 0))) ⟨Ex.new hD, upd_same⟩ (fun j H' _ q => (h1.ex q.1).sz) ?_ ?_⟩
    · rintro j y H' hj ⟨e3, hd⟩
      obtain ⟨hj2, rfl⟩ := nat_at hj
      have hmem : ys.getD (row.getD j 0) 0 ∈ row := hcl _ (getD_mem hj2)
      have hil := List.idxOf_lt_length_of_mem hmem
      refine ⟨rfl, _, rfl, Or.inl ⟨rfl, _, SqL.of (h1.ex e3)⟩, _, rfl, _, rfl, _, _, _, _, rfl, rfl, (hx.ex (e1.trans e3)).sz, atN (hlt2 _ (getD_mem hj2)), ?_⟩
      refine ⟨_, nI row, _, row.idxOf (ys.getD (row.getD j 0) 0), _, rfl, rfl, SqL.of (h1.ex e3), rfl, flat_nI _, ixN_ hil, ?_, fun m z' hm hz => ?_, ?_⟩
      · rw [eqV_nat]
        exact idx_mem hmem
      · obtain ⟨hm2, rfl⟩ := nat_at hz
        cases c : eqV (V.int ((row.getD m 0 : Nat) : Int)) (V.int ((ys.getD (row.getD j 0) 0 : Nat) : Int)) with
        | false => rfl
        | true =>
          rw [eqV_nat] at c
          have := idx_nd hrn hm2
          rw [c] at this
          omega
      refine ⟨_, hd, small1000 (by rw [nI_len, List.length_map, List.length_take]; omega), ?_⟩
      rw [take_map_succ hj2]
      exact acc_step hD e3
    rintro H2 ⟨e2, h2⟩
    rw [nI_len, List.take_length, ← hsh] at h2
    have hsl : (shapeF (gN ys) row).length = row.length := by rw [hsh, List.length_map]
    generalize shapeF (gN ys) row = sh at *
    refine ⟨_, _, rfl, Or.inl ⟨SqL.of h2, fun l hl0 => ?_⟩⟩
    have h3 := h1.ex (e2.trans (Ex.new (o := .tup (nI sh)) hl0))
    have e4 := (e1.trans e2).trans (Ex.new (o := .tup (nI sh)) hl0)
    have hl3 : upd H2 l (.tup (nI sh)) l = some (.tup (nI sh)) := upd_same
    generalize L2.upd H2 l _ = H3 at *
    refine ⟨_, formsT, rfl, hF, _, rfl, l, sh, rfl, hl3, ?_⟩
    rw [forms_find]
    cases hf : (List.range 8).find? fun w => decide (form w = sh) with
    | some w =>
      have hw := List.mem_range.mp (List.mem_of_find?_eq_some hf)
      rw [hf] at hpc
      have k2 := k2 (w, row) hpc
      refine ⟨fun q hq => ?_, (fun hq => nomatch hq)⟩
      cases Option.some.inj hq
      refine ⟨_, rfl, rfl, _, rfl, ?_⟩
      refine ite_b (fun c => absurd (of_decide_eq_true c) (by intro z; cases z)) (fun _ => ?_)
      refine ⟨_, rfl, _, rfl, _, _, rfl, Or.inl ⟨SqL.of h3, fun t ht => ⟨(by show 2 ≤ sizeLine; decide), fun q hq => ?_⟩⟩⟩
      have hqt : q ≠ t := fun z => by
        rw [z, upd_same] at hq
        cases hq
      have e5 := ex_new (ex_new e4 ht) hq (o := .tup [.str (word w), .ref t])
      refine k2 q _ (fresh_back (ex_new e4 ht) hq) e5 ⟨t, upd_same, ?_⟩
      rw [upd_ne hqt.symm, upd_same]
    | none =>
      rw [hf] at hpc
      refine ⟨(fun q hq => nomatch hq), fun _ => ?_⟩
      refine ⟨_, rfl, rfl, _, rfl, ?_⟩
      refine iteT ?_
      exact k1 hpc H3 e4

end

section
variable {P : Program} {w : World} {K : PySem.W.Frag} {mg : Str → Option Value} {base : Heap} {A : Ad}
theorem takeB2 {α : Type} {xs : List α} {j : Nat} {b : α} (h : xs[j]? = some b) : xs.take (j + 1) = xs.take j ++ [b] := by
  rw [List.take_add_one, h]
  rfl
theorem ok_pieces (T : Txt K mg A)  (g_groups : Okd P w K mg base (L2N.CX P w) 4 A.groups P_groups (spGr2 A)) (g_piece_of : Okd P w K mg base CX0 2 A.piece_of P_piece_of spPO2) (g_Unrepairable : Okd P w K mg base CX0 2 A.i_Unrepairable P_Unrepairable (spInitL A.Unrepairable "group")) : Okd P w K mg base (L2N.CX P w) 5 A.pieces P_pieces (spPi2 A) := by
  obtain ⟨fd, F⟩ := T.d_pieces
  obtain ⟨fd_groups, G_groups, b_groups⟩ := g_groups
  obtain ⟨fd_piece_of, G_piece_of, b_piece_of⟩ := g_piece_of
  obtain ⟨fd_Unrepairable, G_Unrepairable, b_Unrepairable⟩ := g_Unrepairable
  refine ⟨fd, F.okN sc_pieces (fun vs H Q E h => ?_) (fun cdv A' outer s H vs Q E hr h => ?_), F.binds fun _ _ _ _ _ _ us hl => match us, hl with | [_], _ => rfl⟩
  · obtain ⟨a, xs, rfl, _⟩ := h
    rfl
  · obtain ⟨a, xs, rfl, hx, hl, kq, kr⟩ := h
    refine ⟨_, (pss_cons (ps_set (i := 1) sc_pieces.nd rfl (Or.inl rfl) (pe_lst pa_nil))
      (pss_cons (ps_for (passes_of rfl) rfl (pi_list (pe_callS G_groups (hr.mono (by decide)) rfl T.g_groups T.k_groups b_groups (fun σ => L2N.passAt (L2N.takes_of rfl rfl rfl rfl) σ) (pa_cons (pv 0) pa_nil))) (pg_name (i := 2) sc_pieces.nd rfl (Or.inl rfl)) (pss_cons (ps_set (i := 3) sc_pieces.nd rfl (Or.inl rfl) (pe_call G_piece_of (hr.mono (by decide)) (by rfl) T.g_piece_of T.k_piece_of b_piece_of .nil pass0 (pa_cons (pv 0) (pa_cons (pv 2) pa_nil))))
      (pss_cons (ps_if (pt_cmpR op_isN (pv 3) pe_non (nomark _)) (pss_one (L2N.ps_raise rfl (L2N.takes_of rfl rfl rfl rfl) (L2N.pmk_oexN T.e_Unrepairable.oex T.f_Unrepairable.i T.f_Unrepairable.t G_Unrepairable (hr.mono (by decide)) b_Unrepairable pass0 rfl T.e_Unrepairable.g (pa_cons (pv 2) pa_nil)))) pss_nil)
      (pss_one (ps_expr (pe_bm PySem.F.plainAttrs_list PySem.F.slot_list_append PySem.F.type_list_append mt_append (pv 1) (pa_cons (pv 3) pa_nil)))))))
      (pss_one (ps_ret (pv 1))))), ?_⟩
    refine ⟨by decide, fun f hf => ?_⟩
    have e0 : Ex H (upd H f (.lst [])) := Ex.new hf
    refine ⟨_, rfl, a, xs, rfl, e0 _ _ hx, hl, fun hok p gs H1 hp e1 ⟨hP, hk, hgs⟩ => ?_, fun k hk => (kr.1 k hk).mono e0⟩
    have kr2 := kr.2 hok
    have hnat := natI_at' hok (e0 _ _ hx)
    have hrec := natI_rec hok
    have hln : (natI xs).length ≤ 64 := by rw [natI_len]; exact hl
    have kq := kq hok
    generalize natI xs = ys at *
    have hpf : p ≠ f := fun z => by
      rw [z, upd_same] at hp
      cases hp
    have hgf : ∀ x ∈ gs, x.2 ≠ f := fun x h z => by
      have := (hgs x h).1
      rw [z, upd_same] at this
      cases this
    have h0 : H1 f = some (.lst []) := e1 f _ upd_same
    have e01 : Ex H H1 := e0.trans e1
    have hx1 : ListN H1 a ys := hnat.ex e1
    have naf : a ≠ f := ne_of_none hx hf
    have hgl := gs_len hk
    refine ⟨p, rfl, ⟨_, SqL.of hP⟩, for_list (K := K) (a := p) (xs := gs.map fun x => V.ref x.2) (fun i σ H' => ∃ (v2 v3 : Option V) (cs : List Bk), σ = [some (.ref a), some (.ref f), v2, v3] ∧ Mut f H1 H' ∧ (formsF ys).take i = cs.map some ∧ All2 PieceAt H' f cs)
      ⟨none, none, [], rfl, Mut.refl f H1, rfl, .nil h0⟩ (fun i σ H' _ ⟨_, _, _, _, M, _⟩ => SqL.of (M p _ hpf hP)) ?_ ?_⟩
    · rintro i x σ H' hi ⟨v2, v3, cs, rfl, M, hcs, S⟩
      rw [List.getElem?_map] at hi
      cases hgi : gs[i]? with
      | none => rw [hgi] at hi; cases hi
      | some gx =>
      rw [hgi] at hi
      injection hi with hi
      subst hi
      have hil : i < gs.length := (List.getElem?_eq_some_iff.mp hgi).1
      have hmem : gx ∈ gs := List.mem_of_getElem? hgi
      obtain ⟨hr1, hr2⟩ := gs_root hk hgi
      obtain ⟨hf1, hf2⟩ := gs_forms hk hgi
      have hxn := (hgs gx hmem).2.2
      have hG := gp_of hrec hr2
      have hcl : cs.length = i := by
        have := congrArg List.length hcs
        rw [List.length_take, List.length_map, ← forms_len hk] at this
        omega
      have ef : Ex H H' := fun b o hb => M b o (fun z => by rw [z, hf] at hb; cases hb) (e01 b o hb)
      refine ⟨_, rfl, _, rfl, a, gx.2, ys, grpF ys gx.1, rfl, M _ _ naf hx1, hln, M _ _ (hgf gx hmem) hxn, hG, (fun x hx => (mem_grpF.mp hx).1), fun hno H2 e2 => ?_, fun b hb q H2 hq e2 hA => ?_⟩
      · refine ⟨_, rfl, rfl, _, rfl, ?_⟩
        refine iteT ?_
        refine ⟨_, rfl, (by show 1 ≤ 1000; decide), mkOL_go (l := gx.2) (e2 _ _ (M _ _ (hgf gx hmem) hxn)) (fun d p H3 e3 hd hp => ?_)⟩
        exact kr2 (grpF ys gx.1) (bad_first hf1 hno hcs) d p H3 ((ef.trans e2).trans e3) hd hp
      · refine ⟨_, rfl, rfl, _, rfl, ?_⟩
        refine ite_b (fun c => absurd (of_decide_eq_true c) (by intro z; cases z)) (fun _ => ?_)
        obtain ⟨qs, h1, h2, h3⟩ := (S.ex e2).app hA
        refine ⟨_, rfl, Or.inl ⟨rfl, _, SqL.of h1⟩, _, rfl, _, _, _, rfl, rfl, h1, small1000 (by rw [List.length_map]; omega), ?_⟩
        refine ⟨_, _, cs ++ [b], rfl, fun b o hb hv => by rw [upd_ne hb]; exact e2 b o (M b o hb hv), ?_, h3⟩
        rw [takeB2 hf2, hcs, List.map_append, hb]
        rfl
    · rintro σ H' ⟨v2, v3, cs, rfl, M, hcs, S⟩
      rw [List.length_map, forms_len hk, List.take_length] at hcs
      exact ⟨_, rfl, kq cs hcs f H' hf (fun b o hb => M b o (fun z => by rw [z, hf] at hb; cases hb) (e01 b o hb)) S⟩

end

section
variable {P : Program} {w : World} {K : PySem.W.Frag} {mg : Str → Option Value} {base : Heap} {A : Ad}
theorem ok_is_repairable (T : Txt K mg A)  (g_groups : Okd P w K mg base (L2N.CX P w) 4 A.groups P_groups (spGr2 A)) (g_piece_of : Okd P w K mg base CX0 2 A.piece_of P_piece_of spPO2) : Okd P w K mg base (L2N.CX P w) 5 A.is_repairable P_is_repairable (spRep2 A) := by
  obtain ⟨fd, F⟩ := T.d_is_repairable
  obtain ⟨fd_groups, G_groups, b_groups⟩ := g_groups
  obtain ⟨fd_piece_of, G_piece_of, b_piece_of⟩ := g_piece_of
  refine ⟨fd, F.okN sc_is_repairable (fun vs H Q E h => ?_) (fun cdv A' outer s H vs Q E hr h => ?_), F.binds fun _ _ _ _ _ _ us hl => match us, hl with | [_], _ => rfl⟩
  · obtain ⟨a, xs, rfl, _⟩ := h
    rfl
  · obtain ⟨a, xs, rfl, hx, hl, kq, kr⟩ := h
    refine ⟨_, (pss_one (ps_ret (pe_callB (cr_all (by rfl)) (by rfl) T.n_all (by decide +kernel) (pa_cons (pe_lc (own := [("group", 1)]) (tt := tYes) (by rfl) sc_is_repairable.nd (pi_list (pe_callS G_groups (hr.mono (by decide)) rfl T.g_groups T.k_groups b_groups (fun σ => L2N.passAt (L2N.takes_of rfl rfl rfl rfl) σ) (pa_cons (pv 0) pa_nil))) (blkOk_by (own := [("group", 1)]) (N := N_is_repairable) (sc := defScope s_is_repairable) (by decide +kernel)) (fun _ _ _ _ _ => (pg_name (i := 1) sc_is_repairable.nd rfl (Or.inl rfl))) (fun _ _ _ _ _ => pts_nil) (fun _ _ _ _ _ => (pe_cmpR op_notN (pe_call G_piece_of (hr.mono (by decide)) (by rfl) T.g_piece_of T.k_piece_of b_piece_of .nil pass0 (pa_cons (pv 0) (pa_cons (pv 1) pa_nil))) pe_non (nomark _)))) pa_nil)))), ?_⟩
    have e0 := Ex.refl H
    refine ⟨_, rfl, a, xs, rfl, hx, hl, fun hok p gs H1 hp e1 ⟨hP, hk, hgs⟩ => ?_, kr⟩
    have hnat := natI_at' hok (e0 _ _ hx)
    have hrec := natI_rec hok
    have hln : (natI xs).length ≤ 64 := by rw [natI_len]; exact hl
    have kq := kq hok
    generalize natI xs = ys at *
    have hx1 : ListN H1 a ys := hnat.ex e1
    have hgl := gs_len hk
    have hfl := forms_len hk
    refine ⟨p, rfl, ⟨_, SqL.of hP⟩, fun D hD => lc_list (K := K) (a := p) (xs := gs.map fun x => V.ref x.2) (fun j H' => Ex H1 H' ∧ H' D = some (.lst ((((formsF ys).take j).map Option.isSome).map V.bl))) ⟨Ex.new hD, upd_same⟩ (fun j H' _ q => SqL.of (q.1 p _ hP)) ?_ ?_⟩
    · rintro i y H' hi ⟨ef, hd⟩
      rw [List.getElem?_map] at hi
      cases hgi : gs[i]? with
      | none => rw [hgi] at hi; cases hi
      | some gx =>
      rw [hgi] at hi
      injection hi with hi
      subst hi
      have hil : i < gs.length := (List.getElem?_eq_some_iff.mp hgi).1
      have hmem : gx ∈ gs := List.mem_of_getElem? hgi
      obtain ⟨hr1, hr2⟩ := gs_root hk hgi
      obtain ⟨hf1, hf2⟩ := gs_forms hk hgi
      have hxn := (hgs gx hmem).2.2
      have hG := gp_of hrec hr2
      have fin : ∀ (b : Bool) H2, Ex H' H2 → (pieceF (gN ys) (grpF ys gx.1)).isSome = b → ∃ acc, H2 D = some (.lst acc) ∧ acc.length < sizeLine ∧ Ex H1 (upd H2 D (.lst (acc ++ [V.bl b]))) ∧ (upd H2 D (.lst (acc ++ [V.bl b]))) D = some (.lst ((((formsF ys).take (i + 1)).map Option.isSome).map V.bl)) := fun b H2 e2 hb => by
        refine ⟨_, e2 D _ hd, small1000 (by rw [List.length_map, List.length_map, List.length_take]; omega), fun b o hb => ?_, ?_⟩
        · rw [upd_ne (ne_of_none hb hD)]
          exact e2 b o (ef b o hb)
        · rw [upd_same, takeB2 hf2, List.map_append, List.map_append]
          show _ = some (HO.lst (_ ++ [V.bl _]))
          rw [hb]
      refine ⟨rfl, _, rfl, _, rfl, a, gx.2, ys, grpF ys gx.1, rfl, hx1.ex ef, hln, hxn.ex ef, hG, (fun x hx => (mem_grpF.mp hx).1), fun hno H2 e2 => ?_, fun b hb q H2 hq e2 hA => ?_⟩
      · exact ⟨rfl, fin false H2 e2 (by rw [hno]; rfl)⟩
      · exact ⟨rfl, fin true H2 e2 (by rw [hb]; rfl)⟩
    · rintro H' ⟨ef, hd⟩
      refine ⟨D, _, rfl, SqL.of hd, ?_⟩
      rw [List.length_map, hfl, List.take_length]
      rw [show (((formsF ys).map Option.isSome).all id) = (formsF ys).all Option.isSome by rw [List.all_map]; rfl]
      exact kq H' (e1.trans ef)

end

section
variable {P : Program} {w : World} {K : PySem.W.Frag} {mg : Str → Option Value} {base : Heap} {A : Ad}
theorem forms_bad {ys : List Nat} {bs : List Bk} (h : formsF ys = bs.map some) : badF ys = none := by
  unfold badF
  rw [List.find?_eq_none]
  intro gp hg c
  have : pieceF (fun x => ys.getD x 0) gp ∈ formsF ys := List.mem_map.mpr ⟨gp, hg, rfl⟩
  rw [h] at this
  obtain ⟨b, _, e⟩ := List.mem_map.mp this
  rw [← e] at c
  cases c
theorem Refused.no {xs : List Int} {bs : List Bk} (R : Refused xs) (h : strayI xs = none) (hb : formsF (natI xs) = bs.map some) : False := by
  rcases R with R | R
  · exact R h
  · exact R (forms_bad hb)
theorem RzP.mono {A : Ad} {xs : List Int} {H H1 : Hp} {E : XK} (e : Ex H H1) (h : RzP A xs H E) : RzP A xs H1 E := ⟨fun k hk => (h.1 k hk).mono e, fun h0 gp hg => (h.2 h0 gp hg).mono e⟩
theorem ok_census (T : Txt K mg A)  (g_pieces : Okd P w K mg base (L2N.CX P w) 5 A.pieces P_pieces (spPi2 A)) : Okd P w K mg base (L2N.CX P w) 6 A.census P_census (spRef2 A) := by
  obtain ⟨fd, F⟩ := T.d_census
  obtain ⟨fd_pieces, G_pieces, b_pieces⟩ := g_pieces
  refine ⟨fd, F.okN sc_census (fun vs H Q E h => ?_) (fun cdv A' outer s H vs Q E hr h => ?_), F.binds fun _ _ _ _ _ _ us hl => match us, hl with | [_], _ => rfl⟩
  · obtain ⟨a, xs, rfl, _⟩ := h
    rfl
  · obtain ⟨a, xs, rfl, hx, hl, hr9, kr⟩ := h
    refine ⟨_, (pss_cons (ps_setDc (i := 1) (own := [("word", 2)]) (tt := tYes) (by rfl) sc_census.nd rfl rfl (swd_true rfl rfl rfl (by decide +kernel)) (pi_tup (pe_glob (v := .ref A.WORDS) rfl T.g_WORDS rfl)) (blkOk_by (own := [("word", 2)]) (N := N_census) (sc := defScope s_census) (by decide +kernel)) (fun _ _ _ _ _ => (pg_name (i := 2) sc_census.nd rfl (Or.inl rfl))) (fun _ _ _ _ _ => pts_nil) (fun _ _ _ _ _ => (pv 2)) (fun _ _ _ _ _ => pe_int))
      (pss_cons (ps_for (passes_of rfl) rfl (pi_list (pe_callS G_pieces (hr.mono (by decide)) rfl T.g_pieces T.k_pieces b_pieces (fun σ => L2N.passAt (L2N.takes_of rfl rfl rfl rfl) σ) (pa_cons (pv 0) pa_nil))) (pg_tup (by rfl) (pgs_cons (pg_name (i := 2) sc_census.nd rfl (Or.inl rfl)) (pgs_cons (pg_name (i := 3) sc_census.nd rfl (Or.inl rfl)) pgs_nil))) (pss_one (ps_daug (hu_of hr) (pv 1) (pv 2) pe_int in_add (fun _ _ _ => rfl))))
      (pss_one (ps_ret (pv 1))))), ?_⟩
    refine ⟨A.WORDS, rfl, ⟨_, T.w_WORDS _⟩, fun D hD => dc_tup (K := K) (a := A.WORDS) (xs := wordsV) (fun j H' => Ex H H' ∧ H' D = some (.dK (cenK (cnt []) j))) ⟨Ex.new hD, upd_same⟩ (fun j H' _ q => T.w_WORDS _) ?_ ?_⟩
    · rintro i y H' hi ⟨ef, hd⟩
      obtain ⟨h8, rfl⟩ := words_at hi
      refine ⟨rfl, _, rfl, _, Sum.inr (word i), rfl, hd, small1000 (by unfold cenK; rw [List.length_map, List.length_range]; omega), fun b o hb => ?_, ?_⟩
      · rw [upd_ne (ne_of_none hb hD)]
        exact ef b o hb
      · rw [upd_same]
        exact congrArg (fun z => some (HO.dK z)) (cen_new (f := cnt []) h8)
    rintro H1 ⟨e1, h1⟩
    exact ⟨_, rfl, a, xs, rfl, e1 _ _ hx, hl, fun h0 bs hb => (hr9.no h0 hb).elim, kr.mono e1⟩

end

section
variable {P : Program} {w : World} {K : PySem.W.Frag} {mg : Str → Option Value} {base : Heap} {A : Ad}
theorem ok_torn_pieces (T : Txt K mg A)  (g_pieces : Okd P w K mg base (L2N.CX P w) 5 A.pieces P_pieces (spPi2 A)) : Okd P w K mg base (L2N.CX P w) 6 A.torn_pieces P_torn_pieces (spRef2 A) := by
  obtain ⟨fd, F⟩ := T.d_torn_pieces
  obtain ⟨fd_pieces, G_pieces, b_pieces⟩ := g_pieces
  refine ⟨fd, F.okN sc_torn_pieces (fun vs H Q E h => ?_) (fun cdv A' outer s H vs Q E hr h => ?_), F.binds fun _ _ _ _ _ _ us hl => match us, hl with | [_], _ => rfl⟩
  · obtain ⟨a, xs, rfl, _⟩ := h
    rfl
  · obtain ⟨a, xs, rfl, hx, hl, hr9, kr⟩ := h
    refine ⟨_, (pss_one (ps_ret (pe_lc (own := [("piece", 1)]) (tt := _) (by rfl) sc_torn_pieces.nd (pi_list (pe_callS G_pieces (hr.mono (by decide)) rfl T.g_pieces T.k_pieces b_pieces (fun σ => L2N.passAt (L2N.takes_of rfl rfl rfl rfl) σ) (pa_cons (pv 0) pa_nil))) (blkOk_by (own := [("piece", 1)]) (N := N_torn_pieces) (sc := defScope s_torn_pieces) (by decide +kernel)) (fun _ _ _ _ _ => (pg_name (i := 1) sc_torn_pieces.nd rfl (Or.inl rfl))) (fun _ _ _ _ _ => (pts_one (pt_cmpR (op_notInK (K := K) rfl) (pe_ix (ix_tupK (K := K) rfl) (pv 1) pe_int (fun _ _ => rfl)) (pe_glob (v := .ref A.WHOLE) rfl T.g_WHOLE rfl) (by with_unfolding_all rfl)))) (fun _ _ _ _ _ => (pv 1))))), ?_⟩
    exact ⟨_, rfl, a, xs, rfl, hx, hl, fun h0 bs hb => (hr9.no h0 hb).elim, kr⟩

theorem ok_image_number (T : Txt K mg A)  (g_pieces : Okd P w K mg base (L2N.CX P w) 5 A.pieces P_pieces (spPi2 A)) : Okd P w K mg base (L2N.CX P w) 6 A.image_number P_image_number (spRef2 A) := by
  obtain ⟨fd, F⟩ := T.d_image_number
  obtain ⟨fd_pieces, G_pieces, b_pieces⟩ := g_pieces
  refine ⟨fd, F.okN sc_image_number (fun vs H Q E h => ?_) (fun cdv A' outer s H vs Q E hr h => ?_), F.binds fun _ _ _ _ _ _ us hl => match us, hl with | [_], _ => rfl⟩
  · obtain ⟨a, xs, rfl, _⟩ := h
    rfl
  · obtain ⟨a, xs, rfl, hx, hl, hr9, kr⟩ := h
    refine ⟨_, (pss_stop (ps_set (i := 1) sc_image_number.nd rfl (Or.inl rfl) (pe_callS G_pieces (hr.mono (by decide)) rfl T.g_pieces T.k_pieces b_pieces (fun σ => L2N.passAt (L2N.takes_of rfl rfl rfl rfl) σ) (pa_cons (pv 0) pa_nil)))), ?_⟩
    exact ⟨_, rfl, a, xs, rfl, hx, hl, fun h0 bs hb => (hr9.no h0 hb).elim, kr⟩

end

section
variable {P : Program} {w : World} {K : PySem.W.Frag} {mg : Str → Option Value} {base : Heap} {A : Ad}
/-- what is asked of an image that is refused: in six ways, in four ways -/
def spAsk (A : Ad) : Sp := fun vs H Q E => ∃ (a : Addr) (xs : List Int) (y : Nat), vs = [.int (y : Int), .ref a] ∧ H a = some (.lst (xs.map V.int)) ∧ xs.length ≤ 64 ∧ Refused xs ∧ (4 ≤ y → strayI xs ≠ none) ∧ y < 6 ∧ RzP A xs H E
theorem eq_nat {u n : Nat} : decide (V.int (u : Int) = V.int (n : Int)) = decide (u = n) := by
  by_cases z : u = n
  · simp [z]
  · rw [decide_eq_false z, decide_eq_false]
    intro y
    injection y with y
    omega
theorem ok_law_asked (T : Txt K mg A)  (g_pieces : Okd P w K mg base (L2N.CX P w) 5 A.pieces P_pieces (spPi2 A)) (g_census : Okd P w K mg base (L2N.CX P w) 6 A.census P_census (spRef2 A)) (g_torn_pieces : Okd P w K mg base (L2N.CX P w) 6 A.torn_pieces P_torn_pieces (spRef2 A)) (g_image_number : Okd P w K mg base (L2N.CX P w) 6 A.image_number P_image_number (spRef2 A)) (g_groups : Okd P w K mg base (L2N.CX P w) 4 A.groups P_groups (spGr2 A)) (g_is_repairable : Okd P w K mg base (L2N.CX P w) 5 A.is_repairable P_is_repairable (spRep2 A)) : Okd P w K mg base (L2N.CX P w) 7 A.law_asked P_law_asked (spAsk A) := by
  obtain ⟨fd, F⟩ := T.d_law_asked
  obtain ⟨fd_pieces, G_pieces, b_pieces⟩ := g_pieces
  obtain ⟨fd_census, G_census, b_census⟩ := g_census
  obtain ⟨fd_torn_pieces, G_torn_pieces, b_torn_pieces⟩ := g_torn_pieces
  obtain ⟨fd_image_number, G_image_number, b_image_number⟩ := g_image_number
  obtain ⟨fd_groups, G_groups, b_groups⟩ := g_groups
  obtain ⟨fd_is_repairable, G_is_repairable, b_is_repairable⟩ := g_is_repairable
  refine ⟨fd, F.okN sc_law_asked (fun vs H Q E h => ?_) (fun cdv A' outer s H vs Q E hr h => ?_), F.binds fun _ _ _ _ _ _ us hl => match us, hl with | [_, _], _ => rfl⟩
  · obtain ⟨a, xs, y, rfl, _⟩ := h
    rfl
  · obtain ⟨a, xs, y, rfl, hx, hl, hr9, h4, h6, kr⟩ := h
    refine ⟨_, (pss_cons (ps_if (pt_cmpR op_eq (pv 0) pe_int (nomark _)) (pss_one (ps_ret (pe_callS G_pieces (hr.mono (by decide)) rfl T.g_pieces T.k_pieces b_pieces (fun σ => L2N.passAt (L2N.takes_of rfl rfl rfl rfl) σ) (pa_cons (pv 1) pa_nil)))) pss_nil)
      (pss_cons (ps_if (pt_cmpR op_eq (pv 0) pe_int (nomark _)) (pss_one (ps_ret (pe_callS G_census (hr.mono (by decide)) rfl T.g_census T.k_census b_census (fun σ => L2N.passAt (L2N.takes_of rfl rfl rfl rfl) σ) (pa_cons (pv 1) pa_nil)))) pss_nil)
      (pss_cons (ps_if (pt_cmpR op_eq (pv 0) pe_int (nomark _)) (pss_one (ps_ret (pe_callS G_torn_pieces (hr.mono (by decide)) rfl T.g_torn_pieces T.k_torn_pieces b_torn_pieces (fun σ => L2N.passAt (L2N.takes_of rfl rfl rfl rfl) σ) (pa_cons (pv 1) pa_nil)))) pss_nil)
      (pss_cons (ps_if (pt_cmpR op_eq (pv 0) pe_int (nomark _)) (pss_one (ps_ret (pe_callS G_image_number (hr.mono (by decide)) rfl T.g_image_number T.k_image_number b_image_number (fun σ => L2N.passAt (L2N.takes_of rfl rfl rfl rfl) σ) (pa_cons (pv 1) pa_nil)))) pss_nil)
      (pss_cons (ps_if (pt_cmpR op_eq (pv 0) pe_int (nomark _)) (pss_one (ps_ret (pe_callS G_groups (hr.mono (by decide)) rfl T.g_groups T.k_groups b_groups (fun σ => L2N.passAt (L2N.takes_of rfl rfl rfl rfl) σ) (pa_cons (pv 1) pa_nil)))) pss_nil)
      (pss_one (ps_ret (pe_callS G_is_repairable (hr.mono (by decide)) rfl T.g_is_repairable T.k_is_repairable b_is_repairable (fun σ => L2N.passAt (L2N.takes_of rfl rfl rfl rfl) σ) (pa_cons (pv 1) pa_nil))))))))), ?_⟩
    refine ⟨_, rfl, rfl, _, rfl, ?_⟩
    rw [show decide (V.int (y : Int) = V.int 0) = _ from eq_nat (n := 0)]
    refine ite_b (fun c => ?_) (fun c => ?_)
    · have c := of_decide_eq_true c
      exact ⟨_, rfl, a, xs, rfl, hx, hl, fun h0 bs hb => (hr9.no h0 hb).elim, kr⟩
    have c0 := of_decide_eq_false c
    refine ⟨_, rfl, rfl, _, rfl, ?_⟩
    rw [show decide (V.int (y : Int) = V.int 1) = _ from eq_nat (n := 1)]
    refine ite_b (fun c => ?_) (fun c => ?_)
    · have c := of_decide_eq_true c
      exact ⟨_, rfl, a, xs, rfl, hx, hl, hr9, kr⟩
    have c1 := of_decide_eq_false c
    refine ⟨_, rfl, rfl, _, rfl, ?_⟩
    rw [show decide (V.int (y : Int) = V.int 2) = _ from eq_nat (n := 2)]
    refine ite_b (fun c => ?_) (fun c => ?_)
    · have c := of_decide_eq_true c
      exact ⟨_, rfl, a, xs, rfl, hx, hl, hr9, kr⟩
    have c2 := of_decide_eq_false c
    refine ⟨_, rfl, rfl, _, rfl, ?_⟩
    rw [show decide (V.int (y : Int) = V.int 3) = _ from eq_nat (n := 3)]
    refine ite_b (fun c => ?_) (fun c => ?_)
    · have c := of_decide_eq_true c
      exact ⟨_, rfl, a, xs, rfl, hx, hl, hr9, kr⟩
    have c3 := of_decide_eq_false c
    refine ⟨_, rfl, rfl, _, rfl, ?_⟩
    rw [show decide (V.int (y : Int) = V.int 4) = _ from eq_nat (n := 4)]
    refine ite_b (fun c => ?_) (fun c => ?_)
    · have c := of_decide_eq_true c
      exact ⟨_, rfl, a, xs, rfl, hx, hl, fun h0 => absurd h0 (h4 (by omega)), kr.1⟩
    have c4 := of_decide_eq_false c
    exact ⟨_, rfl, a, xs, rfl, hx, hl, fun h0 => absurd h0 (h4 (by omega)), kr.1⟩

end

section
variable {P : Program} {w : World} {K : PySem.W.Frag} {mg : Str → Option Value} {base : Heap} {A : Ad}
def SqN (K : PySem.W.Frag) (H : Hp) (p : Addr) (xs : List Nat) : Prop := SqL K H p (nI xs) ∨ SqT K H p (nI xs)
theorem ixS {K : PySem.W.Frag} {H : Hp} {p : Addr} {xs : List Nat} {i : Int} {v : V} {Q : VK} (h : SqN K H p xs) (e : atI (nI xs) i = some v) (q : Q v H) : rIx K (.ref p) (.int i) H Q := by
  rcases h with h | h
  · exact Or.inl ⟨_, _, _, _, rfl, rfl, h, e, q⟩
  · exact Or.inr (Or.inl ⟨_, _, _, _, rfl, rfl, h, e, q⟩)
theorem ne_self (v : V) : (!decide (v = v)) = false := by simp
def spRM (K : PySem.W.Frag) : Sp := fun vs H Q _ => ∃ (t d : Addr) (xs : List Nat), vs = [.ref t, .ref d] ∧ SqN K H t xs ∧ SqN K H d xs ∧ xs.length ≤ 64 ∧ Q (.bl true) H
theorem ok_law_row_meets (T : Txt K mg A)   : Okd P w K mg base CX0 1 A.law_row_meets P_law_row_meets (spRM K) := by
  obtain ⟨fd, F⟩ := T.d_law_row_meets

  refine ⟨fd, F.ok sc_law_row_meets (fun vs H Q E h => ?_) (fun cdv A' outer s H vs Q E hr h => ?_), F.binds fun _ _ _ _ _ _ us hl => match us, hl with | [_, _], _ => rfl⟩
  · obtain ⟨t, d, xs, rfl, _⟩ := h
    rfl
  · obtain ⟨t, d, xs, rfl, ht, hd, hl, k⟩ := h
    refine ⟨_, (pss_cons (ps_if (pt_cmpR op_ne (pe_callB call_len_seq (by rfl) T.n_len PySem.boot_len (pa_cons (pv 0) pa_nil)) (pe_callB call_len_seq (by rfl) T.n_len PySem.boot_len (pa_cons (pv 1) pa_nil)) (nomark _)) (pss_one (ps_ret pe_bl)) pss_nil)
      (pss_cons (ps_for PassesOwn.never rfl (pi_range1 (by rfl) T.n_range (pa_cons (pe_callB call_len_seq (by rfl) T.n_len PySem.boot_len (pa_cons (pv 1) pa_nil)) pa_nil)) (pg_name (i := 2) sc_law_row_meets.nd rfl (Or.inl rfl)) (pss_one (ps_if (PW.pt (pw_or (pt_not (pt_val (pe_callB call_isi (by rfl) T.n_isinstance (by decide +kernel) (pa_cons (pe_ix ix_seq (pv 0) (pv 2) (fun _ _ => rfl)) (pa_cons (pe_bltn (v := .ty "int") (u := .type "int") (by rfl) T.n_int (by decide +kernel) rfl) pa_nil))))) (pw_or (pt_val (pe_callB call_isi (by rfl) T.n_isinstance (by decide +kernel) (pa_cons (pe_ix ix_seq (pv 0) (pv 2) (fun _ _ => rfl)) (pa_cons (pe_bltn (v := .ty "bool") (u := .type "bool") (by rfl) T.n_bool (by decide +kernel) rfl) pa_nil)))) (pw_or1 (pt_cmpR op_ne (pe_ix ix_seq (pv 0) (pv 2) (fun _ _ => rfl)) (pe_ix ix_seq (pv 1) (pv 2) (fun _ _ => rfl)) (nomark _)))))) (pss_one (ps_ret pe_bl)) pss_nil)))
      (pss_one (ps_ret pe_bl)))), ?_⟩
    refine ⟨_, rfl, t, nI xs, rfl, ht, _, rfl, d, nI xs, rfl, hd, rfl, _, rfl, ?_⟩
    refine ite_b (fun c => absurd (ne_self _) (by rw [c]; decide)) (fun _ => ?_)
    refine ⟨_, rfl, d, nI xs, rfl, hd, _, rfl, (by rw [nI_len]; omega), (by rw [nI_len]; omega), ?_⟩
    rw [nI_len]
    refine for_range (lo := 0) (n := xs.length) (fun i σ H' => ∃ v2, σ = [some (.ref t), some (.ref d), v2] ∧ H' = H) ⟨none, rfl, rfl⟩ ?_ ?_
    · rintro i σ H' hi ⟨v2, rfl, rfl⟩
      have k0 : (0 : Int) + (i : Int) = ((i : Nat) : Int) := by omega
      have at_ := at_of k0 (ixN_ hi)
      refine ⟨_, rfl, _, rfl, ixS ht at_ ⟨_, _, _, _, true, rfl, ClsV.ty "int", TyX.base (TyOf.int _), kit_ty (by decide +kernel), _, rfl, ?_⟩⟩
      refine ⟨_, rfl, _, rfl, ixS ht at_ ⟨_, _, _, _, false, rfl, ClsV.ty "bool", TyX.base (TyOf.int _), kit_ty (by decide +kernel), _, rfl, ?_⟩⟩
      refine ⟨_, rfl, _, rfl, ixS ht at_ ⟨_, rfl, _, rfl, ixS hd at_ ⟨rfl, _, rfl, ?_⟩⟩⟩
      refine ite_b (fun c => absurd (ne_self _) (by rw [c]; decide)) (fun _ => ?_)
      exact ⟨_, rfl, rfl⟩
    · rintro σ H' ⟨v2, rfl, rfl⟩
      exact k

end

section
variable {P : Program} {w : World} {K : PySem.W.Frag} {mg : Str → Option Value} {base : Heap} {A : Ad}
theorem okh_law_row_meets (T : Txt K mg A)   : Okh P w K mg base CX0 1 A.law_row_meets P_law_row_meets (spRM K) := by
  obtain ⟨fd, F⟩ := T.d_law_row_meets

  refine ⟨fd, F.okH sc_law_row_meets (fun vs H Q E h => ?_) (fun cdv A' outer s H vs Q E p hot hr h => ?_), F.binds fun _ _ _ _ _ _ us hl => match us, hl with | [_, _], _ => rfl⟩
  · obtain ⟨t, d, xs, rfl, _⟩ := h
    rfl
  · obtain ⟨t, d, xs, rfl, ht, hd, hl, k⟩ := h
    refine ⟨_, (pss_cons (ps_if (pt_cmpR op_ne (pe_callB call_len_seq (by rfl) T.n_len PySem.boot_len (pa_cons (pv 0) pa_nil)) (pe_callB call_len_seq (by rfl) T.n_len PySem.boot_len (pa_cons (pv 1) pa_nil)) (nomark _)) (pss_one (ps_ret pe_bl)) pss_nil)
      (pss_cons (L2H.ps_forH PassesOwn.never ⟨p, ⟨hot.1, hot.2⟩, List.mem_cons_self⟩ (L2H.pi_range1H (by rfl) T.n_range (pa_cons (pe_callB call_len_seq (by rfl) T.n_len PySem.boot_len (pa_cons (pv 1) pa_nil)) pa_nil)) (pg_name (i := 2) sc_law_row_meets.nd rfl (Or.inl rfl)) (pss_one (ps_if (PW.pt (pw_or (pt_not (pt_val (pe_callB call_isi (by rfl) T.n_isinstance (by decide +kernel) (pa_cons (pe_ix ix_seq (pv 0) (pv 2) (fun _ _ => rfl)) (pa_cons (pe_bltn (v := .ty "int") (u := .type "int") (by rfl) T.n_int (by decide +kernel) rfl) pa_nil))))) (pw_or (pt_val (pe_callB call_isi (by rfl) T.n_isinstance (by decide +kernel) (pa_cons (pe_ix ix_seq (pv 0) (pv 2) (fun _ _ => rfl)) (pa_cons (pe_bltn (v := .ty "bool") (u := .type "bool") (by rfl) T.n_bool (by decide +kernel) rfl) pa_nil)))) (pw_or1 (pt_cmpR op_ne (pe_ix ix_seq (pv 0) (pv 2) (fun _ _ => rfl)) (pe_ix ix_seq (pv 1) (pv 2) (fun _ _ => rfl)) (nomark _)))))) (pss_one (ps_ret pe_bl)) pss_nil)))
      (pss_one (ps_ret pe_bl)))), ?_⟩
    refine ⟨_, rfl, t, nI xs, rfl, ht, _, rfl, d, nI xs, rfl, hd, rfl, _, rfl, ?_⟩
    refine ite_b (fun c => absurd (ne_self _) (by rw [c]; decide)) (fun _ => ?_)
    refine ⟨_, rfl, d, nI xs, rfl, hd, _, rfl, (by rw [nI_len]; omega), (by rw [nI_len]; omega), ?_⟩
    rw [nI_len]
    refine for_range (lo := 0) (n := xs.length) (fun i σ H' => ∃ v2, σ = [some (.ref t), some (.ref d), v2] ∧ H' = H) ⟨none, rfl, rfl⟩ ?_ ?_
    · rintro i σ H' hi ⟨v2, rfl, rfl⟩
      have k0 : (0 : Int) + (i : Int) = ((i : Nat) : Int) := by omega
      have at_ := at_of k0 (ixN_ hi)
      refine ⟨_, rfl, _, rfl, ixS ht at_ ⟨_, _, _, _, true, rfl, ClsV.ty "int", TyX.base (TyOf.int _), kit_ty (by decide +kernel), _, rfl, ?_⟩⟩
      refine ⟨_, rfl, _, rfl, ixS ht at_ ⟨_, _, _, _, false, rfl, ClsV.ty "bool", TyX.base (TyOf.int _), kit_ty (by decide +kernel), _, rfl, ?_⟩⟩
      refine ⟨_, rfl, _, rfl, ixS ht at_ ⟨_, rfl, _, rfl, ixS hd at_ ⟨rfl, _, rfl, ?_⟩⟩⟩
      refine ite_b (fun c => absurd (ne_self _) (by rw [c]; decide)) (fun _ => ?_)
      exact ⟨_, rfl, rfl⟩
    · rintro σ H' ⟨v2, rfl, rfl⟩
      exact k

end

section
variable {P : Program} {w : World} {K : PySem.W.Frag} {mg : Str → Option Value} {base : Heap} {A : Ad}
theorem ne_ix {l : List Addr} (h : l.Nodup) (i j : Nat) {a b : Addr} (ha : l[i]? = some a) (hb : l[j]? = some b) (hij : i ≠ j) : a ≠ b := fun z => hij (nd_ix h ha (z ▸ hb))
def spRS (A : Ad) : Sp := fun vs H Q _ => ∃ (a : Addr) (xs : List Int) (y k : Nat), vs = [.int (y : Int), .ref a, .int (k : Int)] ∧ H a = some (.lst (xs.map V.int)) ∧ xs.length ≤ 64 ∧ strayI xs = some k ∧ y < 6 ∧ ∀ H', Ex H H' → Q (.bl true) H'
theorem ok_law_refused_stray (T : Txt K mg A)  (g_law_asked : Okd P w K mg base (L2N.CX P w) 7 A.law_asked P_law_asked (spAsk A)) (h_law_row_meets : Okh P w K mg base CX0 1 A.law_row_meets P_law_row_meets (spRM K)) : Okd P w K mg base CX0 8 A.law_refused_stray P_law_refused_stray (spRS A) := by
  obtain ⟨fd, F⟩ := T.d_law_refused_stray
  obtain ⟨fd_law_asked, G_law_asked, b_law_asked⟩ := g_law_asked
  obtain ⟨fdh_law_row_meets, H_law_row_meets, hb_law_row_meets⟩ := h_law_row_meets
  refine ⟨fd, F.ok sc_law_refused_stray (fun vs H Q E h => ?_) (fun cdv A' outer s H vs Q E hr h => ?_), F.binds fun _ _ _ _ _ _ us hl => match us, hl with | [_, _, _], _ => rfl⟩
  · obtain ⟨a, xs, y, k, rfl, _⟩ := h
    rfl
  · obtain ⟨a, xs, y, k, rfl, hx, hl, hk, h6, kq⟩ := h
    refine ⟨_, (pss_cons (L2N.ps_try_as (i := 3) (tb := (fun W => tDrop (tCallS (spAsk A) (WE W) (tCons (tVar 0) (tCons (tVar 1) tNil))))) rfl rfl sc_law_refused_stray.nd rfl rfl ⟨rfl, by decide, .inl T.e_InvalidImage.g⟩ L2N.takes0N (fun W pn xe tk _ => (pss_one (ps_expr (pe_callS G_law_asked (hr.mono (by decide)) rfl T.g_law_asked T.k_law_asked b_law_asked (fun σ => L2N.passAt tk σ) (pa_cons (pv 0) (pa_cons (pv 1) pa_nil)))))) (fun a oe cls d pn hz hf => (pss_cons (ps_if (PW.pt (pw_or (pt_not (pt_val (pe_callB (call_isS (K := K) rfl hz.zc hf) (by rfl) T.n_isinstance (by decide +kernel) (pa_cons (pv 3) (pa_cons (pe_glob (v := .ref A.MendError) rfl T.e_MendError.g rfl) pa_nil))))) (pw_or1 (pt_val (pe_callB (call_isS (K := K) rfl hz.zc hf) (by rfl) T.n_isinstance (by decide +kernel) (pa_cons (pv 3) (pa_cons (pe_glob (v := .ref A.Unrepairable) rfl T.e_Unrepairable.g rfl) pa_nil))))))) (pss_one (ps_ret pe_bl)) pss_nil)
      (pss_one (ps_ret (L2H.pe_callH H_law_row_meets (L2H.roomH_mark (hr.mono (by decide)) _) (hot_suite hz hf) (by rfl) T.g_law_row_meets T.k_law_row_meets hb_law_row_meets (passH0 (fun _ => E0)) (pa_cons (pe_lst (pa_cons (pe_xf T.e_InvalidImage.xfc T.f_InvalidImage.nf hz.zc hf (pv 3)) pa_nil)) (pa_cons (pe_lst (pa_cons (pv 2) pa_nil)) pa_nil))))))))
      (pss_one (ps_ret pe_bl))), ?_⟩
    refine ⟨_, rfl, _, rfl, a, xs, y, rfl, hx, hl, Or.inl (by rw [hk]; intro z; cases z), (fun _ => by rw [hk]; intro z; cases z), h6, ?_⟩
    refine ⟨fun k' hk' d H1 e1 hd => ?_, fun h0 => by rw [hk] at h0; cases h0⟩
    rw [hk] at hk'
    cases Option.some.inj hk'
    refine ⟨true, T.e_InvalidImage.exm, fun _ a0 ha0 => ?_, fun z => (nomatch z)⟩
    refine ⟨_, rfl, A.InvalidImage, d, _, _, _, true, rfl, rfl, rfl, hd, T.e_InvalidImage.exc T.cn T.ct, ClsV.own _, T.e_InvalidImage.kit_base T.e_MendError (ne_ix T.nd 1 0 rfl rfl (by decide)), true, rfl, ?_⟩
    refine iteF ?_
    refine ⟨_, rfl, A.InvalidImage, d, _, _, _, false, rfl, rfl, rfl, hd, T.e_InvalidImage.exc T.cn T.ct, ClsV.own _, T.e_InvalidImage.kit_ne T.e_Unrepairable (ne_ix T.nd 1 2 rfl rfl (by decide)) (ne_ix T.nd 0 2 rfl rfl (by decide)), _, rfl, ?_⟩
    refine iteF ?_
    refine ⟨_, rfl, rfl, rfl, d, _, _, rfl, hd, rfl, (by show 1 ≤ sizeLine; decide), fun p hp => ?_⟩
    refine ⟨_, rfl, (by show 1 ≤ sizeLine; decide), fun q hq => ?_⟩
    have hpq : p ≠ q := ne_of_none upd_same hq
    refine ⟨p, q, [k], rfl, Or.inl (SqL.of (by rw [upd_ne hpq, upd_same]; rfl)), Or.inl (SqL.of (by rw [upd_same]; rfl)), (by show 1 ≤ 64; decide), ?_⟩
    exact kq _ (ex_new (ex_new e1 hp) hq)

end

section
variable {P : Program} {w : World} {K : PySem.W.Frag} {mg : Str → Option Value} {base : Heap} {A : Ad}
def spRG (A : Ad) : Sp := fun vs H Q _ => ∃ (a g : Addr) (xs : List Int) (gp : List Nat) (y : Nat), vs = [.int (y : Int), .ref a, .ref g] ∧ H a = some (.lst (xs.map V.int)) ∧ xs.length ≤ 64 ∧ strayI xs = none ∧ badF (natI xs) = some gp ∧ ListN H g gp ∧ gp.length ≤ 64 ∧ y < 4 ∧ ∀ H', Ex H H' → Q (.bl true) H'
theorem ok_law_refused_group (T : Txt K mg A)  (g_law_asked : Okd P w K mg base (L2N.CX P w) 7 A.law_asked P_law_asked (spAsk A)) (h_law_row_meets : Okh P w K mg base CX0 1 A.law_row_meets P_law_row_meets (spRM K)) : Okd P w K mg base CX0 8 A.law_refused_group P_law_refused_group (spRG A) := by
  obtain ⟨fd, F⟩ := T.d_law_refused_group
  obtain ⟨fd_law_asked, G_law_asked, b_law_asked⟩ := g_law_asked
  obtain ⟨fdh_law_row_meets, H_law_row_meets, hb_law_row_meets⟩ := h_law_row_meets
  refine ⟨fd, F.ok sc_law_refused_group (fun vs H Q E h => ?_) (fun cdv A' outer s H vs Q E hr h => ?_), F.binds fun _ _ _ _ _ _ us hl => match us, hl with | [_, _, _], _ => rfl⟩
  · obtain ⟨a, g, xs, gp, y, rfl, _⟩ := h
    rfl
  · obtain ⟨a, g, xs, gp, y, rfl, hx, hl, h0, hb, hg, h64, h4, kq⟩ := h
    refine ⟨_, (pss_cons (L2N.ps_try_as (i := 3) (tb := (fun W => tDrop (tCallS (spAsk A) (WE W) (tCons (tVar 0) (tCons (tVar 1) tNil))))) rfl rfl sc_law_refused_group.nd rfl rfl ⟨rfl, by decide, .inl T.e_Unrepairable.g⟩ L2N.takes0N (fun W pn xe tk _ => (pss_one (ps_expr (pe_callS G_law_asked (hr.mono (by decide)) rfl T.g_law_asked T.k_law_asked b_law_asked (fun σ => L2N.passAt tk σ) (pa_cons (pv 0) (pa_cons (pv 1) pa_nil)))))) (fun a oe cls d pn hz hf => (pss_cons (ps_if (PW.pt (pw_or (pt_not (pt_val (pe_callB (call_isS (K := K) rfl hz.zc hf) (by rfl) T.n_isinstance (by decide +kernel) (pa_cons (pv 3) (pa_cons (pe_glob (v := .ref A.MendError) rfl T.e_MendError.g rfl) pa_nil))))) (pw_or1 (pt_val (pe_callB (call_isS (K := K) rfl hz.zc hf) (by rfl) T.n_isinstance (by decide +kernel) (pa_cons (pv 3) (pa_cons (pe_glob (v := .ref A.InvalidImage) rfl T.e_InvalidImage.g rfl) pa_nil))))))) (pss_one (ps_ret pe_bl)) pss_nil)
      (pss_one (ps_ret (pe_and (pe_callB (call_isiQ (K := K) rfl) (by rfl) T.n_isinstance (by decide +kernel) (pa_cons (pe_xf T.e_Unrepairable.xfc T.f_Unrepairable.nf hz.zc hf (pv 3)) (pa_cons (pe_bltn (v := .ty "list") (u := .type "list") (by rfl) T.n_list (by decide +kernel) rfl) pa_nil))) (pe_one (L2H.pe_callH H_law_row_meets (L2H.roomH_mark (hr.mono (by decide)) _) (hot_suite hz hf) (by rfl) T.g_law_row_meets T.k_law_row_meets hb_law_row_meets (passH0 (fun _ => E0)) (pa_cons (pe_xf T.e_Unrepairable.xfc T.f_Unrepairable.nf hz.zc hf (pv 3)) (pa_cons (pv 2) pa_nil))))))))))
      (pss_one (ps_ret pe_bl))), ?_⟩
    refine ⟨_, rfl, _, rfl, a, xs, y, rfl, hx, hl, Or.inr (by rw [hb]; intro z; cases z), (fun h => absurd h (by omega)), (by omega), ?_⟩
    refine ⟨fun k' hk' => (by rw [h0] at hk'; cases hk'), fun _ gp' hgp d p H1 e1 hd hp => ?_⟩
    rw [hb] at hgp
    cases Option.some.inj hgp
    have hg1 := hg.ex e1
    refine ⟨true, T.e_Unrepairable.exm, fun _ a0 ha0 => ?_, fun z => (nomatch z)⟩
    refine ⟨_, rfl, A.Unrepairable, d, _, _, _, true, rfl, rfl, rfl, hd, T.e_Unrepairable.exc T.cn T.ct, ClsV.own _, T.e_Unrepairable.kit_base T.e_MendError (ne_ix T.nd 2 0 rfl rfl (by decide)), true, rfl, ?_⟩
    refine iteF ?_
    refine ⟨_, rfl, A.Unrepairable, d, _, _, _, false, rfl, rfl, rfl, hd, T.e_Unrepairable.exc T.cn T.ct, ClsV.own _, T.e_Unrepairable.kit_ne T.e_InvalidImage (ne_ix T.nd 2 1 rfl rfl (by decide)) (ne_ix T.nd 0 1 rfl rfl (by decide)), _, rfl, ?_⟩
    refine iteF ?_
    refine ⟨_, rfl, rfl, rfl, d, _, _, rfl, hd, rfl, ?_⟩
    refine ⟨_, _, _, _, true, rfl, ClsV.ty "list", TyX.base (TyOf.lst hp), kit_ty (by decide +kernel), _, rfl, ?_⟩
    refine ⟨_, rfl, rfl, rfl, d, _, _, rfl, hd, rfl, _, rfl, ?_⟩
    exact ⟨p, g, gp, rfl, Or.inl hp.sz, Or.inl hg1.sz, h64, kq H1 e1⟩

end

section
variable {P : Program} {w : World} {K : PySem.W.Frag} {mg : Str → Option Value} {base : Heap} {A : Ad}
theorem ok_law_bag (T : Txt K mg A)   : Okd P w K mg base CX0 1 A.law_bag P_law_bag (spBag K) := by
  obtain ⟨fd, F⟩ := T.d_law_bag

  refine ⟨fd, F.ok sc_law_bag (fun vs H Q E h => ?_) (fun cdv A' outer s H vs Q E hr h => ?_), F.binds fun _ _ _ _ _ _ us hl => match us, hl with | [_], _ => rfl⟩
  · obtain ⟨a, ns, rfl, _⟩ := h
    rfl
  · obtain ⟨a, ns, rfl, hS, k⟩ := h
    refine ⟨_, (pss_cons (ps_set (i := 1) sc_law_bag.nd rfl (Or.inl rfl) pe_int)
      (pss_cons (ps_set (i := 2) sc_law_bag.nd rfl (Or.inl rfl) pe_int)
      (pss_cons (ps_set (i := 3) sc_law_bag.nd rfl (Or.inl rfl) pe_int)
      (pss_cons (ps_for PassesOwn.never rfl (pi_list (pv 0)) (pg_name (i := 4) sc_law_bag.nd rfl (Or.inl rfl)) (pss_cons (ps_if (PW.pt (pw_and (pt_cmpR op_eq (pv 1) pe_int (nomark _)) (pw_and1 (pt_cmpR op_ge (pv 4) (pe_op op_pow pe_int pe_int) (nomark _))))) (pss_one (ps_set (i := 1) sc_law_bag.nd rfl (Or.inl rfl) (pv 4))) pss_nil)
      (pss_cons (ps_set (i := 2) sc_law_bag.nd rfl (Or.inl rfl) (pe_op op_mod (pe_callTy call_int1 (by rfl) T.n_int (by decide +kernel) (pa_cons (pe_op op_add (pe_op op_add (pe_op op_mul (pv 2) pe_int) (pe_op op_mod (pe_callTy call_int1 (by rfl) T.n_int (by decide +kernel) (pa_cons (pv 4) pa_nil)) pe_int)) pe_int) pa_nil)) pe_int))
      (pss_one (ps_set (i := 3) sc_law_bag.nd rfl (Or.inl rfl) (pe_op op_mod (pe_callTy call_int1 (by rfl) T.n_int (by decide +kernel) (pa_cons (pe_op op_add (pe_op op_add (pe_op op_mul (pv 3) pe_int) (pe_op op_mod (pe_callTy call_int1 (by rfl) T.n_int (by decide +kernel) (pa_cons (pv 4) pa_nil)) pe_int)) pe_int) pa_nil)) pe_int))))))
      (pss_one (ps_ret (pe_lst (pa_cons (pv 1) (pa_cons (pv 2) (pa_cons (pv 3) pa_nil)))))))))), ?_⟩
    walk_at "r"
    refine ⟨⟨_, hS⟩, for_list (K := K) (a := a) (xs := ns.map V.int) (fun i σ H' => H' = H ∧ ∃ (g f s : Int) (v : Option V), BagOk g f s ∧ σ = [some (.ref a), some (.int g), some (.int f), some (.int s), v]) ⟨rfl, 0, 29, 5, none, ⟨by decide, by decide, by decide, by decide, by decide⟩, rfl⟩ (fun i σ H' _ ⟨e, _⟩ => e ▸ hS) ?_ ?_⟩
    · rintro i y σ H' hi ⟨rfl, g, f, s', v, B, rfl⟩
      obtain ⟨z, hz, rfl⟩ := int_at hi
      have fin : ∀ g' : Int, 0 ≤ g' → BagOk g' ((f * 48271 + z % 1000003 + 1) % 2147483647) ((s' * 69621 + z % 998244353 + 3) % 2147483629) := fun g' h => ⟨h, by omega, by omega, by omega, by omega⟩
      walk_at "r"
      refine ite_b (fun c => ?_) (fun c => ?_)
      · walk_at "r"
        refine ite_b (fun c2 => ?_) (fun c2 => ?_)
        all_goals
          walk_at "r"
        · exact ⟨_, _, _, _, fin _ (by have q := of_decide_eq_true c2; have e : (10 : Int) ^ Int.toNat 18 = 1000000000000000000 := (by decide); omega), rfl⟩
        · exact ⟨_, _, _, _, fin _ B.g0, rfl⟩
      · refine iteF ?_
        walk_at "r"
        exact ⟨_, _, _, _, fin _ B.g0, rfl⟩
    · rintro σ H' ⟨rfl, g, f, s', v, B, rfl⟩
      walk_at "r"
      exact ⟨by show 3 ≤ sizeLine; decide, fun p hp => k p _ _ _ hp B⟩

end

section
variable {P : Program} {w : World} {K : PySem.W.Frag} {mg : Str → Option Value} {base : Heap} {A : Ad}
theorem ok_law_take (T : Txt K mg A)   : Okd P w K mg base CX0 1 A.law_take P_law_take spTake := by
  obtain ⟨fd, F⟩ := T.d_law_take

  refine ⟨fd, F.ok sc_law_take (fun vs H Q E h => ?_) (fun cdv A' outer s H vs Q E hr h => ?_), F.binds fun _ _ _ _ _ _ us hl => match us, hl with | [_, _], _ => rfl⟩
  · obtain ⟨b, n, rfl, _⟩ := h
    rfl
  · obtain ⟨b, n, rfl, hn, hn2, B, k⟩ := h
    refine ⟨_, (pss_cons (ps_if (pt_cmpR op_gt (pe_ix ix_list (pv 0) pe_int (fun _ _ => rfl)) pe_int (nomark _)) (pss_cons (ps_set (i := 2) sc_law_take.nd rfl (Or.inl rfl) (pe_op op_mod (pe_callTy call_int1 (by rfl) T.n_int (by decide +kernel) (pa_cons (pe_ix ix_list (pv 0) pe_int (fun _ _ => rfl)) pa_nil)) (pv 1)))
      (pss_cons (ps_asg (pe_op op_fdivW (pe_ix ix_list (pv 0) pe_int (fun _ _ => rfl)) (pv 1)) (pg_sub (pv 0) pe_int set_list))
      (pss_one (ps_ret (pv 2))))) pss_nil)
      (pss_cons (ps_asg (pe_op op_mod (pe_callTy call_int1 (by rfl) T.n_int (by decide +kernel) (pa_cons (pe_op op_add (pe_op op_mul (pe_ix ix_list (pv 0) pe_int (fun _ _ => rfl)) pe_int) pe_int) pa_nil)) pe_int) (pg_sub (pv 0) pe_int set_list))
      (pss_cons (ps_asg (pe_op op_mod (pe_callTy call_int1 (by rfl) T.n_int (by decide +kernel) (pa_cons (pe_op op_add (pe_op op_mul (pe_ix ix_list (pv 0) pe_int (fun _ _ => rfl)) pe_int) (pe_ix ix_list (pv 0) pe_int (fun _ _ => rfl))) pa_nil)) pe_int) (pg_sub (pv 0) pe_int set_list))
      (pss_one (ps_ret (pe_op op_mod (pe_callTy call_int1 (by rfl) T.n_int (by decide +kernel) (pa_cons (pe_op op_fdivW (pe_ix ix_list (pv 0) pe_int (fun _ _ => rfl)) pe_int) pa_nil)) (pv 1))))))), ?_⟩
    obtain ⟨g, f, s', hb, B⟩ := B
    have hbs : (bagL g f s').length = 3 := rfl
    walk_at "r"
    refine ite_b (fun c => ?_) (fun c => ?_)
    · walk_at "r"
      have c' := of_decide_eq_true c
      exact k _ _ (Int.emod_nonneg _ (by omega)) (Int.emod_lt_of_pos _ hn) ⟨_, _, _, upd_same, Int.ediv_nonneg B.g0 (by omega), B.f0, B.f1, B.s0, B.s1⟩ (Mut.upd (Mut.refl _ _))
    · walk_at "r"
      exact k _ _ (Int.emod_nonneg _ (by omega)) (Int.emod_lt_of_pos _ hn) ⟨_, _, _, upd_same, B.g0, by omega, by omega, by omega, by omega⟩ (Mut.upd (Mut.upd (Mut.refl _ _)))

end

section
variable {P : Program} {w : World} {K : PySem.W.Frag} {mg : Str → Option Value} {base : Heap} {A : Ad}
def spPerm : Sp := fun vs H Q _ => ∃ (b : Addr) (n : Nat), vs = [.ref b, .int (n : Int)] ∧ n ≤ 64 ∧ Bag H b ∧ ∀ (p : Addr) (ms : List Nat) H', H p = none → p ≠ b → ms.Perm (List.range n) → ListN H' p ms → Bag H' b → Mut b H H' → Q (.ref p) H'
theorem rgN (n : Nat) : rgV 0 (n : Int) = nI (List.range n) := by
  rw [rgV_map, List.map_map]
  rfl
theorem cons_erase : ∀ {l : List Nat} {i : Nat} (h : i < l.length), (l[i] :: l.eraseIdx i).Perm l
  | a :: l, 0, _ => List.Perm.refl _
  | a :: l, i + 1, h => (List.Perm.swap a (l[i]'(by simpa using h)) (l.eraseIdx i)).trans (List.Perm.cons a (cons_erase (by simpa using h)))
theorem nI_erase {xs : List Nat} {j : Nat} : (nI xs).eraseIdx j = nI (xs.eraseIdx j) := map_erase _ xs j
theorem ok_law_order (T : Txt K mg A)  (g_law_take : Okd P w K mg base CX0 1 A.law_take P_law_take spTake) : Okd P w K mg base CX0 3 A.law_order P_law_order spPerm := by
  obtain ⟨fd, F⟩ := T.d_law_order
  obtain ⟨fd_law_take, G_law_take, b_law_take⟩ := g_law_take
  refine ⟨fd, F.ok sc_law_order (fun vs H Q E h => ?_) (fun cdv A' outer s H vs Q E hr h => ?_), F.binds fun _ _ _ _ _ _ us hl => match us, hl with | [_, _], _ => rfl⟩
  · obtain ⟨b, n, rfl, _⟩ := h
    rfl
  · obtain ⟨b, n, rfl, hn2, B, k⟩ := h
    refine ⟨_, (pss_cons (ps_set (i := 2) sc_law_order.nd rfl (Or.inl rfl) (pe_listRg (by rfl) (by rfl) T.n_list (prg_1 (by rfl) T.n_range (pv 1))))
      (pss_cons (ps_set (i := 3) sc_law_order.nd rfl (Or.inl rfl) (pe_lst pa_nil))
      (pss_cons (ps_for PassesOwn.never rfl (pi_range1 (by rfl) T.n_range (pa_cons (pv 1) pa_nil)) (pg_name (i := 4) sc_law_order.nd rfl (Or.inl rfl)) (pss_one (ps_expr (pe_bm PySem.F.plainAttrs_list PySem.F.slot_list_append PySem.F.type_list_append mt_append (pv 3) (pa_cons (pe_bm PySem.F.plainAttrs_list PySem.F.slot_list_pop PySem.F.type_list_pop mt_popAt (pv 2) (pa_cons (pe_call G_law_take (hr.mono (by decide)) (by rfl) T.g_law_take T.k_law_take b_law_take .nil pass0 (pa_cons (pv 0) (pa_cons (pe_op op_sub (pv 1) (pv 4)) pa_nil))) pa_nil)) pa_nil)))))
      (pss_one (ps_ret (pv 3)))))), ?_⟩
    walk_at "r"
    refine ⟨RgOk.of_le (by decide) (by omega) (by decide) (by omega), fun sp hsp => ?_⟩
    walk_at "r"
    refine ⟨by decide, fun od hod => ?_⟩
    have nsb : sp ≠ b := B.ne hsp
    have nos : od ≠ sp := fun e => by rw [e, upd_same] at hod; cases hod
    have hod' : H od = none := by rw [upd_ne nos] at hod; exact hod
    have nob : od ≠ b := B.ne hod'
    walk_at "r"
    have h2 : ListN (upd (upd H sp (.lst (rgV 0 (n : Int)))) od (.lst [])) sp (List.range n) := by
      show (upd (upd H sp _) od _) sp = _
      rw [upd_ne (Ne.symm nos), upd_same, rgN]
    refine ⟨by omega, by omega, for_range (lo := 0) (n := n) (fun i σ H' => ∃ (xs ys : List Nat) (v : Option V), σ = [some (.ref b), some (.int n), some (.ref sp), some (.ref od), v] ∧ ys.length = i ∧ (ys ++ xs).Perm (List.range n) ∧ ListN H' sp xs ∧ ListN H' od ys ∧ Bag H' b ∧ Mut b H H')
      ⟨List.range n, [], none, rfl, rfl, List.Perm.refl _, h2, upd_same, B.keep fun o e => (by rw [upd_ne (Ne.symm nob), upd_ne (Ne.symm nsb)]; exact e), ((Mut.refl _ _).new hsp).new hod⟩ ?_ ?_⟩
    · rintro i σ H' hi ⟨xs, ys, v, rfl, hy, hpm, hx, hyy, B', M'⟩
      have hlen : ys.length + xs.length = n := by
        have := hpm.length_eq
        rw [List.length_append, List.length_range] at this
        exact this
      refine ⟨_, rfl, Or.inl ⟨rfl, _, hyy.sz⟩, _, rfl, Or.inl ⟨rfl, _, hx.sz⟩, _, rfl, _, rfl, _, rfl, _, _, rfl, rfl, b, _, rfl, by omega, by omega, B', fun d H1 h0 h1 B1 M1 => ?_⟩
      obtain ⟨j, rfl⟩ := Int.eq_ofNat_of_zero_le h0
      have hj : j < xs.length := by omega
      have hj2 : j < (nI xs).length := by rw [nI_len]; exact hj
      have hx1 : ListN H1 sp xs := M1 _ _ nsb hx
      have hy1 : ListN H1 od ys := M1 _ _ nob hyy
      refine ⟨_, _, _, j, _, rfl, rfl, hx1, by omega, by omega, (ixN_seq (Evl.ixN_nat hj2)).1, ixN_ hj, ?_⟩
      refine ⟨_, _, _, rfl, rfl, (by rw [upd_ne nos]; exact hy1), small1000 (by rw [nI_len]; omega), ?_⟩
      refine ⟨xs.eraseIdx j, ys ++ [xs.getD j 0], _, rfl, by rw [List.length_append, hy]; rfl, ?_, ?_, ?_, ?_, ?_⟩
      · refine List.Perm.trans ?_ hpm
        rw [List.append_assoc]
        refine List.Perm.append_left ys ?_
        show (xs.getD j 0 :: xs.eraseIdx j).Perm xs
        have e : xs.getD j 0 = xs[j] := by rw [List.getD_eq_getElem?_getD, List.getElem?_eq_getElem hj]; rfl
        rw [e]
        exact cons_erase hj
      · show (upd (upd H1 sp _) od _) sp = _
        rw [upd_ne (Ne.symm nos), upd_same, nI_erase]
      · show (upd (upd H1 sp _) od _) od = _
        rw [upd_same, nI_app]
      · exact B1.keep fun o e => by rw [upd_ne (Ne.symm nob), upd_ne (Ne.symm nsb)]; exact e
      · intro a o ha e
        have e1 := M1 _ _ ha (M' a o ha e)
        rw [upd_ne (ne_of_none e hod'), upd_ne (ne_of_none e hsp)]
        exact e1
    · rintro σ H' ⟨xs, ys, v, rfl, hy, hpm, hx, hyy, B', M'⟩
      walk_at "r"
      have hlen := hpm.length_eq
      rw [List.length_append, List.length_range] at hlen
      have : xs = [] := List.length_eq_zero_iff.mp (by omega)
      subst this
      rw [List.append_nil] at hpm
      exact k _ _ _ hod' nob hpm hyy B' M'

end

section
variable {P : Program} {w : World} {K : PySem.W.Frag} {mg : Str → Option Value} {base : Heap} {A : Ad}
def spWords : Sp := fun vs H Q _ => vs = [] ∧ ∀ p, H p = none → Q (.ref p) (upd H p (.tup wordsV))
theorem ok_law_words (T : Txt K mg A)   : Okd P w K mg base CX0 1 A.law_words P_law_words spWords := by
  obtain ⟨fd, F⟩ := T.d_law_words

  refine ⟨fd, F.ok sc_law_words (fun vs H Q E h => ?_) (fun cdv A' outer s H vs Q E hr h => ?_), F.binds fun _ _ _ _ _ _ us hl => match us, hl with | [], _ => rfl⟩
  · obtain ⟨rfl, _⟩ := h
    rfl
  · obtain ⟨rfl, k⟩ := h
    refine ⟨_, (pss_one (ps_ret (pe_tup (pa_cons pe_str (pa_cons pe_str (pa_cons pe_str (pa_cons pe_str (pa_cons pe_str (pa_cons pe_str (pa_cons pe_str (pa_cons pe_str pa_nil))))))))))), ?_⟩
    exact ⟨(by show 8 ≤ sizeLine; decide), fun p hp => k p hp⟩

end

section
variable {P : Program} {w : World} {K : PySem.W.Frag} {mg : Str → Option Value} {base : Heap} {A : Ad}
def spForm : Sp := fun vs H Q _ => ∃ w : Nat, vs = [.int (w : Int)] ∧ w < 8 ∧ ∀ p H', H p = none → Ex H H' → H' p = some (.tup (nI (form w))) → Q (.ref p) H'
theorem ok_law_pattern (T : Txt K mg A)   : Okd P w K mg base CX0 1 A.law_pattern P_law_pattern spForm := by
  obtain ⟨fd, F⟩ := T.d_law_pattern

  refine ⟨fd, F.ok sc_law_pattern (fun vs H Q E h => ?_) (fun cdv A' outer s H vs Q E hr h => ?_), F.binds fun _ _ _ _ _ _ us hl => match us, hl with | [_], _ => rfl⟩
  · obtain ⟨w, rfl, _⟩ := h
    rfl
  · obtain ⟨w, rfl, hw, k⟩ := h
    refine ⟨_, (pss_cons (ps_set (i := 1) sc_law_pattern.nd rfl (Or.inl rfl) (pe_lst (pa_cons (pe_tup (pa_cons pe_int pa_nil)) (pa_cons (pe_tup (pa_cons pe_int (pa_cons pe_int pa_nil))) (pa_cons (pe_tup (pa_cons pe_int (pa_cons pe_int pa_nil))) (pa_cons (pe_tup (pa_cons pe_int (pa_cons pe_int (pa_cons pe_int pa_nil)))) (pa_cons (pe_tup (pa_cons pe_int (pa_cons pe_int (pa_cons pe_int pa_nil)))) (pa_cons (pe_tup (pa_cons pe_int (pa_cons pe_int (pa_cons pe_int (pa_cons pe_int pa_nil))))) (pa_cons (pe_tup (pa_cons pe_int (pa_cons pe_int (pa_cons pe_int (pa_cons pe_int pa_nil))))) (pa_cons (pe_tup (pa_cons pe_int (pa_cons pe_int (pa_cons pe_int (pa_cons pe_int pa_nil))))) pa_nil))))))))))
      (pss_one (ps_ret (pe_ix ix_list (pv 1) (pv 0) (fun _ _ => rfl))))), ?_⟩
    refine ⟨(by first | (show 1 ≤ sizeLine; decide) | (show 2 ≤ sizeLine; decide) | (show 3 ≤ sizeLine; decide) | (show 4 ≤ sizeLine; decide)), fun p0 h0 => ?_⟩
    refine ⟨(by first | (show 1 ≤ sizeLine; decide) | (show 2 ≤ sizeLine; decide) | (show 3 ≤ sizeLine; decide) | (show 4 ≤ sizeLine; decide)), fun p1 h1 => ?_⟩
    refine ⟨(by first | (show 1 ≤ sizeLine; decide) | (show 2 ≤ sizeLine; decide) | (show 3 ≤ sizeLine; decide) | (show 4 ≤ sizeLine; decide)), fun p2 h2 => ?_⟩
    refine ⟨(by first | (show 1 ≤ sizeLine; decide) | (show 2 ≤ sizeLine; decide) | (show 3 ≤ sizeLine; decide) | (show 4 ≤ sizeLine; decide)), fun p3 h3 => ?_⟩
    refine ⟨(by first | (show 1 ≤ sizeLine; decide) | (show 2 ≤ sizeLine; decide) | (show 3 ≤ sizeLine; decide) | (show 4 ≤ sizeLine; decide)), fun p4 h4 => ?_⟩
    refine ⟨(by first | (show 1 ≤ sizeLine; decide) | (show 2 ≤ sizeLine; decide) | (show 3 ≤ sizeLine; decide) | (show 4 ≤ sizeLine; decide)), fun p5 h5 => ?_⟩
    refine ⟨(by first | (show 1 ≤ sizeLine; decide) | (show 2 ≤ sizeLine; decide) | (show 3 ≤ sizeLine; decide) | (show 4 ≤ sizeLine; decide)), fun p6 h6 => ?_⟩
    refine ⟨(by first | (show 1 ≤ sizeLine; decide) | (show 2 ≤ sizeLine; decide) | (show 3 ≤ sizeLine; decide) | (show 4 ≤ sizeLine; decide)), fun p7 h7 => ?_⟩
    refine ⟨(by show 8 ≤ sizeLine; decide), fun l hl => ?_⟩
    rcases w with _ | _ | _ | _ | _ | _ | _ | _ | w
    · exact ⟨_, rfl, _, rfl, _, _, _, _, rfl, rfl, SqL.of upd_same, rfl, k p0 _ (fresh_back (show Ex H _ from by walk_at "ex") h0) (by walk_at "ex") ((show Ex (upd _ p0 (.tup (nI (form 0)))) _ from by walk_at "ex") _ _ upd_same)⟩
    · exact ⟨_, rfl, _, rfl, _, _, _, _, rfl, rfl, SqL.of upd_same, rfl, k p1 _ (fresh_back (show Ex H _ from by walk_at "ex") h1) (by walk_at "ex") ((show Ex (upd _ p1 (.tup (nI (form 1)))) _ from by walk_at "ex") _ _ upd_same)⟩
    · exact ⟨_, rfl, _, rfl, _, _, _, _, rfl, rfl, SqL.of upd_same, rfl, k p2 _ (fresh_back (show Ex H _ from by walk_at "ex") h2) (by walk_at "ex") ((show Ex (upd _ p2 (.tup (nI (form 2)))) _ from by walk_at "ex") _ _ upd_same)⟩
    · exact ⟨_, rfl, _, rfl, _, _, _, _, rfl, rfl, SqL.of upd_same, rfl, k p3 _ (fresh_back (show Ex H _ from by walk_at "ex") h3) (by walk_at "ex") ((show Ex (upd _ p3 (.tup (nI (form 3)))) _ from by walk_at "ex") _ _ upd_same)⟩
    · exact ⟨_, rfl, _, rfl, _, _, _, _, rfl, rfl, SqL.of upd_same, rfl, k p4 _ (fresh_back (show Ex H _ from by walk_at "ex") h4) (by walk_at "ex") ((show Ex (upd _ p4 (.tup (nI (form 4)))) _ from by walk_at "ex") _ _ upd_same)⟩
    · exact ⟨_, rfl, _, rfl, _, _, _, _, rfl, rfl, SqL.of upd_same, rfl, k p5 _ (fresh_back (show Ex H _ from by walk_at "ex") h5) (by walk_at "ex") ((show Ex (upd _ p5 (.tup (nI (form 5)))) _ from by walk_at "ex") _ _ upd_same)⟩
    · exact ⟨_, rfl, _, rfl, _, _, _, _, rfl, rfl, SqL.of upd_same, rfl, k p6 _ (fresh_back (show Ex H _ from by walk_at "ex") h6) (by walk_at "ex") ((show Ex (upd _ p6 (.tup (nI (form 6)))) _ from by walk_at "ex") _ _ upd_same)⟩
    · exact ⟨_, rfl, _, rfl, _, _, _, _, rfl, rfl, SqL.of upd_same, rfl, k p7 _ (fresh_back (show Ex H _ from by walk_at "ex") h7) (by walk_at "ex") ((show Ex (upd _ p7 (.tup (nI (form 7)))) _ from by walk_at "ex") _ _ upd_same)⟩
    · omega

end

section
variable {P : Program} {w : World} {K : PySem.W.Frag} {mg : Str → Option Value} {base : Heap} {A : Ad}
theorem takeB' {α : Type} {xs : List α} {j : Nat} {b : α} (h : xs[j]? = some b) : xs.take (j + 1) = xs.take j ++ [b] := by
  rw [List.take_add_one, h]
  rfl
def RowsL (H : Hp) (qs : List Addr) (rs : List (List Nat)) : Prop := qs.length = rs.length ∧ ∀ (i : Nat) (q : Addr) (r : List Nat), qs[i]? = some q → rs[i]? = some r → ListN H q r
theorem RowsL.ex {H H1 : Hp} {qs : List Addr} {rs : List (List Nat)} (e : Ex H H1) (h : RowsL H qs rs) : RowsL H1 qs rs := ⟨h.1, fun i q r a b => (h.2 i q r a b).ex e⟩
theorem RowsL.more {H : Hp} {qs : List Addr} {rs : List (List Nat)} {q : Addr} {r : List Nat} (h : RowsL H qs rs) (hq : ListN H q r) : RowsL H (qs ++ [q]) (rs ++ [r]) := by
  refine ⟨by rw [List.length_append, List.length_append, h.1]; rfl, fun i p s hp hs => ?_⟩
  rcases Nat.lt_or_ge i qs.length with c | c
  · rw [List.getElem?_append_left c] at hp
    rw [List.getElem?_append_left (by rw [← h.1]; exact c)] at hs
    exact h.2 i p s hp hs
  · rw [List.getElem?_append_right c] at hp
    rw [List.getElem?_append_right (by rw [← h.1]; exact c)] at hs
    have z : i - qs.length = 0 := by
      by_cases z : i - qs.length = 0
      · exact z
      · rw [List.getElem?_eq_none (by simp; omega)] at hp
        cases hp
    rw [z] at hp
    rw [← h.1, z] at hs
    cases Option.some.inj hp
    cases Option.some.inj hs
    exact hq
/-- L changes, a list that no row of these is -/
theorem RowsL.upd {H : Hp} {qs : List Addr} {rs : List (List Nat)} {L : Addr} {o : HO} (h : RowsL H qs rs) (hL : ∀ q ∈ qs, q ≠ L) : RowsL (upd H L o) qs rs :=
  ⟨h.1, fun i q r a b => by
    show L2.upd H L o q = _
    rw [upd_ne (hL q (List.mem_of_getElem? a))]
    exact h.2 i q r a b⟩
def ext1 (gp row : List Nat) : List (List Nat) := (gp.filter fun x => !row.contains x).map fun x => row ++ [x]
theorem ords_succ {gp : List Nat} {k : Nat} : ords gp (k + 1) = (ords gp k).flatMap (ext1 gp) := rfl
theorem ext1_len {gp row : List Nat} : (ext1 gp row).length ≤ gp.length := by
  unfold ext1
  rw [List.length_map]
  exact List.length_filter_le ..
theorem flat_len {gp : List Nat} : ∀ {rs : List (List Nat)}, (rs.flatMap (ext1 gp)).length ≤ rs.length * gp.length
  | [] => by simp
  | r :: rs => by
    rw [List.flatMap_cons, List.length_append, List.length_cons, Nat.succ_mul]
    have := flat_len (gp := gp) (rs := rs)
    have := ext1_len (gp := gp) (row := r)
    omega
theorem ords_len {gp : List Nat} : ∀ k, (ords gp k).length ≤ gp.length ^ k
  | 0 => Nat.le_refl _
  | k + 1 => by
    rw [ords_succ, Nat.pow_succ]
    exact Nat.le_trans flat_len (Nat.mul_le_mul_right _ (ords_len k))
def spOrd : Sp := fun vs H Q _ => ∃ (g : Addr) (gp : List Nat), vs = [.ref g] ∧ ListN H g gp ∧ gp.length ≤ 4 ∧ ∀ (p : Addr) (qs : List Addr) H', H p = none → Ex H H' → H' p = some (.lst (qs.map V.ref)) → RowsL H' qs (ords gp gp.length) → Q (.ref p) H'
theorem ok_law_orders (T : Txt K mg A)   : Okd P w K mg base CX0 1 A.law_orders P_law_orders spOrd := by
  obtain ⟨fd, F⟩ := T.d_law_orders

  refine ⟨fd, F.ok sc_law_orders (fun vs H Q E h => ?_) (fun cdv A' outer s H vs Q E hr h => ?_), F.binds fun _ _ _ _ _ _ us hl => match us, hl with | [_], _ => rfl⟩
  · obtain ⟨g, gp, rfl, _⟩ := h
    rfl
  · obtain ⟨g, gp, rfl, hg, hl, k⟩ := h
    refine ⟨_, (pss_cons (ps_set (i := 1) sc_law_orders.nd rfl (Or.inl rfl) (pe_lst (pa_cons (pe_lst pa_nil) pa_nil)))
      (pss_cons (ps_for PassesOwn.never rfl (pi_range1 (by rfl) T.n_range (pa_cons (pe_callB call_len_seq (by rfl) T.n_len PySem.boot_len (pa_cons (pv 0) pa_nil)) pa_nil)) (pg_name (i := 2) sc_law_orders.nd rfl (Or.inl rfl)) (pss_cons (ps_set (i := 3) sc_law_orders.nd rfl (Or.inl rfl) (pe_lst pa_nil))
      (pss_cons (ps_for PassesOwn.never rfl (pi_list (pv 1)) (pg_name (i := 4) sc_law_orders.nd rfl (Or.inl rfl)) (pss_one (ps_for PassesOwn.never rfl (pi_list (pv 0)) (pg_name (i := 5) sc_law_orders.nd rfl (Or.inl rfl)) (pss_one (ps_if (pt_cmpR op_notIn_seq (pv 5) (pv 4) (by with_unfolding_all rfl)) (pss_one (ps_expr (pe_bm PySem.F.plainAttrs_list PySem.F.slot_list_append PySem.F.type_list_append mt_append (pv 3) (pa_cons (pe_op op_cat (pv 4) (pe_lst (pa_cons (pv 5) pa_nil))) pa_nil)))) pss_nil)))))
      (pss_one (ps_set (i := 1) sc_law_orders.nd rfl (Or.inl rfl) (pv 3))))))
      (pss_one (ps_ret (pv 1))))), ?_⟩
    refine ⟨by decide, fun r0 hr0 => ⟨(by show 1 ≤ sizeLine; decide), fun p0 hp0 => ?_⟩⟩
    have e0 : Ex H (upd (upd H r0 (.lst [])) p0 (.lst [V.ref r0])) := ex_new (Ex.new hr0) hp0
    have h0 : upd (upd H r0 (.lst [])) p0 (.lst [V.ref r0]) p0 = some (.lst ([r0].map V.ref)) := upd_same
    have hrow0 : ListN (upd (upd H r0 (.lst [])) p0 (.lst [V.ref r0])) r0 [] := Ex.new hp0 _ _ upd_same
    have fp0 : H p0 = none := fresh_back (Ex.new hr0) hp0
    generalize upd (upd H r0 (.lst [])) p0 (.lst [V.ref r0]) = H0 at *
    have hR0 : RowsL H0 [r0] (ords gp 0) := by
      refine ⟨rfl, fun i q r hq hr => ?_⟩
      rcases i with _ | i
      · have hq := Option.some.inj hq
        have hr : [] = r := Option.some.inj hr
        rw [← hq, ← hr]
        exact hrow0
      · simp at hq
    refine ⟨_, rfl, g, nI gp, rfl, Or.inl (hg.ex e0).sz, _, rfl, (by rw [nI_len]; omega), (by rw [nI_len]; omega), ?_⟩
    rw [nI_len]
    refine for_range (lo := 0) (n := gp.length) (fun k σ G => ∃ (p : Addr) (qs : List Addr) (v2 v3 v4 v5 : Option V), σ = [some (.ref g), some (.ref p), v2, v3, v4, v5] ∧ H p = none ∧ Ex H G ∧ G p = some (.lst (qs.map V.ref)) ∧ RowsL G qs (ords gp k))
      ⟨p0, [r0], none, none, none, none, rfl, fp0, e0, h0, hR0⟩ ?_ ?_
    · rintro k σ G hk ⟨p, qs, v2, v3, v4, v5, rfl, hp, e, hpl, hR⟩
      refine ⟨by decide, fun L hL => ?_⟩
      have hL0 : H L = none := fresh_back e hL
      have npL : p ≠ L := ne_of_none hpl hL
      have hkl : (ords gp k).length ≤ 64 := by
        have a1 := ords_len (gp := gp) k
        have a2 : gp.length ^ k ≤ 4 ^ k := Nat.pow_le_pow_left (by omega) k
        have a3 : 4 ^ k ≤ 4 ^ 3 := Nat.pow_le_pow_right (by decide) (by omega)
        omega
      refine ⟨_, rfl, p, rfl, ⟨_, SqL.of (Ex.new hL _ _ hpl)⟩, for_list (K := K) (a := p) (xs := qs.map V.ref) (fun i σ G' => ∃ (ls : List Addr) (v4 v5 : Option V), σ = [some (.ref g), some (.ref p), some (.int (0 + (k : Int))), some (.ref L), v4, v5] ∧ Mut L G G' ∧ G' L = some (.lst (ls.map V.ref)) ∧ RowsL G' ls (((ords gp k).take i).flatMap (ext1 gp)) ∧ ∀ q ∈ ls, q ≠ L)
        ⟨[], v4, v5, rfl, (Mut.refl _ _).new hL, upd_same, ⟨rfl, fun i q r h => by simp at h⟩, (fun _ h => nomatch h)⟩ (fun i σ G' _ ⟨_, _, _, _, M, _⟩ => SqL.of (M p _ npL hpl)) ?_ ?_⟩
      · rintro i x σ G' hi ⟨ls, v4, v5, rfl, M, hLl, hRl, hne⟩
        rw [List.getElem?_map] at hi
        cases hqi : qs[i]? with
        | none => rw [hqi] at hi; cases hi
        | some q =>
        rw [hqi] at hi
        injection hi with hi
        subst hi
        have hil : i < (ords gp k).length := by rw [← hR.1]; exact (List.getElem?_eq_some_iff.mp hqi).1
        have hri : (ords gp k)[i]? = some (ords gp k)[i] := List.getElem?_eq_getElem hil
        have hrow := hR.2 i q _ hqi hri
        have htk := takeB' hri
        have hmem := mem_ords.mp (List.getElem_mem hil)
        rw [htk, List.flatMap_append, List.flatMap_cons, List.flatMap_nil, List.append_nil]
        have hbase : (((ords gp k).take i).flatMap (ext1 gp)).length ≤ 256 := by
          have a1 := flat_len (gp := gp) (rs := (ords gp k).take i)
          have a2 : ((ords gp k).take i).length ≤ 64 := by rw [List.length_take]; omega
          have a3 : ((ords gp k).take i).length * gp.length ≤ 64 * 4 := Nat.mul_le_mul a2 hl
          omega
        generalize ((ords gp k).take i).flatMap (ext1 gp) = base at *
        generalize (ords gp k)[i] = row at *
        have nqL : q ≠ L := ne_of_none hrow hL
        have ngL : g ≠ L := fun z => by
          have hg : H g = _ := hg
          rw [z, hL0] at hg
          cases hg
        have hg' : ListN G g gp := hg.ex e
        refine ⟨_, rfl, g, rfl, ⟨_, SqL.of (M g _ ngL hg')⟩, for_list (K := K) (a := g) (xs := nI gp) (fun j σ G2 => ∃ (ls : List Addr) (v5 : Option V), σ = [some (.ref g), some (.ref p), some (.int (0 + (k : Int))), some (.ref L), some (.ref q), v5] ∧ Mut L G G2 ∧ G2 L = some (.lst (ls.map V.ref)) ∧ RowsL G2 ls (base ++ (((gp.take j).filter fun x => !row.contains x).map fun x => row ++ [x])) ∧ ∀ q ∈ ls, q ≠ L)
          ⟨ls, v5, rfl, M, hLl, by rw [List.take_zero]; simpa using hRl, hne⟩ (fun j σ G2 _ ⟨_, _, _, M2, _⟩ => SqL.of (M2 g _ ngL hg')) ?_ ?_⟩
        · rintro j x σ G2 hj ⟨ls2, v5, rfl, M2, hL2, hR2, hne2⟩
          obtain ⟨hj2, rfl⟩ := nat_at hj
          have hrow2 : ListN G2 q row := M2 q _ nqL hrow
          refine ⟨_, rfl, _, rfl, _, _, rfl, Or.inl hrow2.sz, rfl, flat_nI _, _, rfl, ?_⟩
          show if (!inV _ _) = true then _ else _
          rw [inV_nI]
          refine ite_b (fun c => ?_) (fun c => ?_)
          · have hxj : ListN G2 g gp := M2 g _ ngL hg'
            have hlen2 : ls2.length ≤ 260 := by
              rw [hR2.1, List.length_append, List.length_map]
              have := List.length_filter_le (fun x => !row.contains x) (gp.take j)
              rw [List.length_take] at this
              omega
            refine ⟨_, rfl, Or.inl ⟨rfl, _, SqL.of hL2⟩, _, rfl, _, rfl, (by show 1 ≤ sizeLine; decide), fun z hz => ?_⟩
            have e1 := Ex.new (o := .lst [V.int ((gp.getD j 0 : Nat) : Int)]) hz
            have hz1 : upd G2 z (.lst [V.int ((gp.getD j 0 : Nat) : Int)]) z = some (.lst [V.int ((gp.getD j 0 : Nat) : Int)]) := upd_same
            have hrl : row.length ≤ 4 := by rw [hmem.1]; omega
            refine ⟨q, z, _, _, rfl, rfl, e1 _ _ hrow2, hz1, Nat.le_of_lt (small1000 (by rw [nI_len]; show row.length + 1 ≤ 1000; omega)), fun n hn => ?_⟩
            have e2 := ex_new e1 hn (o := .lst (nI row ++ [V.int ((gp.getD j 0 : Nat) : Int)]))
            have hn2 : ListN (upd (upd G2 z (.lst [V.int ((gp.getD j 0 : Nat) : Int)])) n (.lst (nI row ++ [V.int ((gp.getD j 0 : Nat) : Int)]))) n (row ++ [gp.getD j 0]) := by
              show upd _ n _ n = _
              rw [upd_same, nI_app]
            have nnL : n ≠ L := fun w' => by
              rw [w', e1 _ _ hL2] at hn
              cases hn
            generalize upd (upd G2 z (.lst [V.int ((gp.getD j 0 : Nat) : Int)])) n (.lst (nI row ++ [V.int ((gp.getD j 0 : Nat) : Int)])) = G3 at *
            refine ⟨_, _, _, rfl, rfl, e2 _ _ hL2, small1000 (by rw [List.length_map]; omega), ?_⟩
            refine ⟨ls2 ++ [n], _, rfl, fun b o hb hv => by rw [upd_ne hb]; exact e2 _ _ (M2 b o hb hv), ?_, ?_, ?_⟩
            · rw [upd_same, List.map_append]
              rfl
            · rw [take_filter_pos hj2 c, List.map_append, ← List.append_assoc]
              refine RowsL.more ((hR2.ex e2).upd hne2) ?_
              show upd G3 L _ n = _
              rw [upd_ne nnL]
              exact hn2
            · intro y hy
              rcases List.mem_append.mp hy with hy | hy
              · exact hne2 y hy
              · rw [List.mem_singleton.mp hy]
                exact nnL
          · refine ⟨ls2, _, rfl, M2, hL2, ?_, hne2⟩
            rw [take_filter_neg hj2 c]
            exact hR2
        · rintro σ G2 ⟨ls2, v5, rfl, M2, hL2, hR2, hne2⟩
          rw [nI_len, List.take_length] at hR2
          exact ⟨ls2, _, _, rfl, M2, hL2, hR2, hne2⟩
      · rintro σ G' ⟨ls, v4, v5, rfl, M, hLl, hRl, hne⟩
        rw [List.length_map, hR.1, List.take_length] at hRl
        exact ⟨_, rfl, L, ls, _, _, _, _, rfl, hL0, fun b o hb => M b o (fun z => by rw [z, hL0] at hb; cases hb) (e b o hb), hLl, hRl⟩
    · rintro σ G ⟨p, qs, v2, v3, v4, v5, rfl, hp, e, hpl, hR⟩
      exact ⟨_, rfl, k p qs G hp e hpl hR⟩

end

section
variable {P : Program} {w : World} {K : PySem.W.Frag} {mg : Str → Option Value} {base : Heap} {A : Ad}
def spFits : Sp := fun vs H Q _ => ∃ (s r : Addr) (ys row : List Nat) (u : Nat), vs = [.ref s, .ref r, .int (u : Int)] ∧ u < 8 ∧ ListN H s ys ∧ ListN H r row ∧ (∀ x ∈ row, x < ys.length) ∧ row.length ≤ 4 ∧
  ∀ (b : Bool) H', Ex H H' → (b = true ↔ Fits (fun x => ys.getD x 0) row u) → Q (.bl b) H'
theorem ok_law_fits_form (T : Txt K mg A)  (g_law_pattern : Okd P w K mg base CX0 1 A.law_pattern P_law_pattern spForm) : Okd P w K mg base CX0 2 A.law_fits_form P_law_fits_form spFits := by
  obtain ⟨fd, F⟩ := T.d_law_fits_form
  obtain ⟨fd_law_pattern, G_law_pattern, b_law_pattern⟩ := g_law_pattern
  refine ⟨fd, F.ok sc_law_fits_form (fun vs H Q E h => ?_) (fun cdv A' outer s H vs Q E hr h => ?_), F.binds fun _ _ _ _ _ _ us hl => match us, hl with | [_, _, _], _ => rfl⟩
  · obtain ⟨s, r, ys, row, u, rfl, _⟩ := h
    rfl
  · obtain ⟨s, r, ys, row, u, rfl, hu, hs, hr_, hlt, hl4, k⟩ := h
    refine ⟨_, (pss_cons (ps_set (i := 3) sc_law_fits_form.nd rfl (Or.inl rfl) (pe_call G_law_pattern (hr.mono (by decide)) (by rfl) T.g_law_pattern T.k_law_pattern b_law_pattern .nil pass0 (pa_cons (pv 2) pa_nil)))
      (pss_cons (ps_if (pt_cmpR op_ne (pe_callB call_len_seq (by rfl) T.n_len PySem.boot_len (pa_cons (pv 3) pa_nil)) (pe_callB call_len_seq (by rfl) T.n_len PySem.boot_len (pa_cons (pv 1) pa_nil)) (nomark _)) (pss_one (ps_ret pe_bl)) pss_nil)
      (pss_cons (ps_for PassesOwn.never rfl (pi_range1 (by rfl) T.n_range (pa_cons (pe_callB call_len_seq (by rfl) T.n_len PySem.boot_len (pa_cons (pv 3) pa_nil)) pa_nil)) (pg_name (i := 4) sc_law_fits_form.nd rfl (Or.inl rfl)) (pss_one (ps_if (pt_cmpR op_ne (pe_ix ix_list (pv 0) (pe_ix ix_list (pv 1) (pv 4) (fun _ _ => rfl)) (fun _ _ => rfl)) (pe_ix ix_list (pv 1) (pe_ix ix_tup (pv 3) (pv 4) (fun _ _ => rfl)) (fun _ _ => rfl)) (nomark _)) (pss_one (ps_ret pe_bl)) pss_nil)))
      (pss_cons (ps_if (pt_cmpR op_eq (pv 2) pe_int (nomark _)) (pss_one (ps_ret (pe_cmpR op_lt (pe_ix ix_list (pv 1) pe_int (fun _ _ => rfl)) (pe_ix ix_list (pv 1) pe_int (fun _ _ => rfl)) (nomark _)))) pss_nil)
      (pss_cons (ps_if (pt_cmpR op_eq (pv 2) pe_int (nomark _)) (pss_one (ps_ret (pe_cmpR op_lt (pe_ix ix_list (pv 1) pe_int (fun _ _ => rfl)) (pe_ix ix_list (pv 1) pe_int (fun _ _ => rfl)) (nomark _)))) pss_nil)
      (pss_one (ps_ret (pe_or (pe_cmpR op_ne (pv 2) pe_int (nomark _)) (pe_one (pe_cmpR op_eq (pe_ix ix_list (pv 1) pe_int (fun _ _ => rfl)) (pe_callB (cr_min (by rfl)) (by rfl) T.n_min (by decide +kernel) (pa_cons (pv 1) pa_nil)) (nomark _))))))))))), ?_⟩
    refine ⟨_, rfl, u, rfl, hu, fun p H1 hp e1 hf => ?_⟩
    have hs1 := hs.ex e1
    have hr1 := hr_.ex e1
    have hfl : (nI (form u)).length = (form u).length := nI_len _
    refine ⟨_, rfl, p, _, rfl, Or.inr (SqT.of hf), _, rfl, r, _, rfl, Or.inl hr1.sz, rfl, _, rfl, ?_⟩
    rw [hfl, nI_len]
    have hdec : (!decide (V.int ((form u).length : Int) = V.int (row.length : Int))) = !decide ((form u).length = row.length) := by
      by_cases c : (form u).length = row.length
      · simp [c]
      · rw [decide_eq_false c, decide_eq_false]
        intro z
        injection z with z
        omega
    rw [hdec]
    refine ite_b (fun c => ?_) (fun c => ?_)
    · have c : ¬ (form u).length = row.length := by simpa using c
      exact k false H1 e1 ⟨(fun h => nomatch h), fun F => absurd F.len.symm c⟩
    have hlen : (form u).length = row.length := by simpa using c
    refine ⟨_, rfl, p, _, rfl, Or.inr (SqT.of hf), _, rfl, (by rw [hfl]; omega), (by rw [hfl]; omega), ?_⟩
    rw [hfl]
    refine for_range (lo := 0) (n := (form u).length) (fun i σ G => ∃ v4 : Option V, σ = [some (.ref s), some (.ref r), some (.int (u : Int)), some (.ref p), v4] ∧ G = H1 ∧ ∀ j, j < i → ys.getD (row.getD j 0) 0 = row.getD ((form u).getD j 0) 0) ⟨none, rfl, rfl, fun j hj => absurd hj (Nat.not_lt_zero _)⟩ ?_ ?_
    · rintro i σ G hi ⟨v4, rfl, rfl, hj⟩
      have k0 : (0 : Int) + (i : Int) = ((i : Nat) : Int) := by omega
      have hir : i < row.length := by omega
      have hfi := form_lt u i hi
      have hx : row.getD i 0 < ys.length := hlt _ (getD_mem hir)
      refine ⟨_, rfl, _, rfl, _, rfl, _, _, _, _, rfl, rfl, hr1.sz, at_of k0 (ixN_ hir), _, _, _, _, rfl, rfl, hs1.sz, atN hx, _, rfl, _, rfl, _, rfl, _, _, _, _, rfl, rfl, SqT.of hf, at_of k0 (ixN_ hi), _, _, _, _, rfl, rfl, hr1.sz, atN (by omega), rfl, _, rfl, ?_⟩
      have hd2 : (!decide (V.int ((ys.getD (row.getD i 0) 0 : Nat) : Int) = V.int ((row.getD ((form u).getD i 0) 0 : Nat) : Int))) = !decide (ys.getD (row.getD i 0) 0 = row.getD ((form u).getD i 0) 0) := by
        by_cases c : ys.getD (row.getD i 0) 0 = row.getD ((form u).getD i 0) 0
        · rw [c]
          simp
        · rw [decide_eq_false c, decide_eq_false]
          intro z
          injection z with z
          omega
      rw [hd2]
      refine ite_b (fun c => ?_) (fun c => ?_)
      · have c : ¬ ys.getD (row.getD i 0) 0 = row.getD ((form u).getD i 0) 0 := of_decide_eq_false (by simpa only [Bool.not_eq_true'] using c)
        exact k false _ e1 ⟨(fun h => nomatch h), fun F => absurd (F.sh i hir) c⟩
      · have c : ys.getD (row.getD i 0) 0 = row.getD ((form u).getD i 0) 0 := of_decide_eq_true (by simpa only [Bool.not_eq_false'] using c)
        refine ⟨_, rfl, rfl, fun j h => ?_⟩
        by_cases q : j = i
        · rw [q]
          exact c
        · exact hj j (by omega)
    · rintro σ G ⟨v4, rfl, rfl, hj⟩
      have eq_ : ∀ n : Nat, decide (V.int (u : Int) = V.int (n : Int)) = decide (u = n) := fun n => by
        by_cases z : u = n
        · simp [z]
        · rw [decide_eq_false z, decide_eq_false]
          intro y
          injection y with y
          omega
      have hsh : ∀ k, k < row.length → (fun x => ys.getD x 0) (row.getD k 0) = row.getD ((form u).getD k 0) 0 := fun k h => hj k (by omega)
      have e1' := eq_ 1
      have e5' := eq_ 5
      have e7' := eq_ 7
      have hrow0 : 0 < row.length := by
        have := form_len u
        omega
      refine ⟨_, rfl, rfl, _, rfl, ?_⟩
      rw [show decide (V.int (u : Int) = V.int 1) = _ from e1']
      refine ite_b (fun c => ?_) (fun c => ?_)
      · have c := of_decide_eq_true c
        subst c
        have hl2 : row.length = 2 := hlen.symm
        refine ⟨_, rfl, _, _, _, _, rfl, rfl, hr1.sz, at_of (j := 0) rfl (ixN_ (by omega)), _, rfl, _, _, _, _, rfl, rfl, hr1.sz, at_of (j := 1) rfl (ixN_ (by omega)), _, _, rfl, rfl, k _ _ e1 ⟨fun h => ⟨hlen.symm, hsh, ⟨fun _ => ?_, (fun z => nomatch z), (fun z => nomatch z)⟩⟩, fun F => decide_eq_true ?_⟩⟩
        · have h := of_decide_eq_true h
          show row.getD 0 0 < row.getD 1 0
          omega
        · have : row.getD 0 0 < row.getD 1 0 := F.can.pair rfl
          omega
      have n1 := of_decide_eq_false c
      refine ⟨_, rfl, rfl, _, rfl, ?_⟩
      rw [show decide (V.int (u : Int) = V.int 5) = _ from e5']
      refine ite_b (fun c => ?_) (fun c => ?_)
      · have c := of_decide_eq_true c
        subst c
        have hl2 : row.length = 4 := hlen.symm
        refine ⟨_, rfl, _, _, _, _, rfl, rfl, hr1.sz, at_of (j := 0) rfl (ixN_ (by omega)), _, rfl, _, _, _, _, rfl, rfl, hr1.sz, at_of (j := 3) rfl (ixN_ (by omega)), _, _, rfl, rfl, k _ _ e1 ⟨fun h => ⟨hlen.symm, hsh, ⟨(fun z => nomatch z), fun _ => ?_, (fun z => nomatch z)⟩⟩, fun F => decide_eq_true ?_⟩⟩
        · have h := of_decide_eq_true h
          show row.getD 0 0 < row.getD 3 0
          omega
        · have : row.getD 0 0 < row.getD 3 0 := F.can.clamp rfl
          omega
      have n5 := of_decide_eq_false c
      refine ⟨_, rfl, rfl, _, rfl, ?_⟩
      rw [show (!decide (V.int (u : Int) = V.int 7)) = !decide (u = 7) from congrArg not e7']
      refine ite_b (fun c => ?_) (fun c => ?_)
      · have n7 : ¬ u = 7 := of_decide_eq_false (by simpa only [Bool.not_eq_true'] using c)
        exact k true _ e1 ⟨fun _ => ⟨hlen.symm, hsh, ⟨fun z => absurd z n1, fun z => absurd z n5, fun z => absurd z n7⟩⟩, fun _ => rfl⟩
      · have c : u = 7 := of_decide_eq_true (by simpa only [Bool.not_eq_false'] using c)
        subst c
        have hns : nI row = (row.map fun x : Nat => (x : Int)).map V.int := by rw [List.map_map]; rfl
        have hne : row ≠ [] := fun z => by rw [z] at hrow0; exact absurd hrow0 (by decide)
        refine ⟨_, rfl, _, _, _, _, rfl, rfl, hr1.sz, at_of (j := 0) rfl (ixN_ hrow0), _, rfl, r, row.map fun x : Nat => (x : Int), rfl, hns ▸ hr1.sz, (by rw [List.length_map]; exact hrow0), fun mv h1 h2 => ?_⟩
        have hmm := mn_mem hne
        have hmv : mv = ((mn row : Nat) : Int) := by
          obtain ⟨x, hx, rfl⟩ := List.mem_map.mp h1
          have a1 := mn_le hx
          have a2 := h2 _ (List.mem_map.mpr ⟨_, hmm, rfl⟩)
          omega
        subst hmv
        refine ⟨rfl, k _ _ e1 ⟨fun h => ⟨hlen.symm, hsh, ⟨(fun z => nomatch z), (fun z => nomatch z), fun _ => ?_⟩⟩, fun F => decide_eq_true ?_⟩⟩
        · have h := of_decide_eq_true h
          injection h with h
          show row.getD 0 0 = mn row
          omega
        · have : row.getD 0 0 = mn row := F.can.wheel rfl
          rw [this]

end

section
variable {P : Program} {w : World} {K : PySem.W.Frag} {mg : Str → Option Value} {base : Heap} {A : Ad}
def spFO : Sp := fun vs H Q _ => ∃ (s g : Addr) (ys gp : List Nat), vs = [.ref s, .ref g] ∧ ListN H s ys ∧ ListN H g gp ∧ gp.Nodup ∧ (∀ x ∈ gp, x < ys.length) ∧ gp.length ≤ 64 ∧
  (FormOf (fun x => ys.getD x 0) gp none → ∀ H', Ex H H' → Q .non H') ∧
  ∀ b : Bk, FormOf (fun x => ys.getD x 0) gp (some b) → ∀ (q t : Addr) H', H q = none → Ex H H' → H' q = some (.tup [.str (word b.1), .ref t]) → H' t = some (.tup (nI b.2)) → Q (.ref q) H'
theorem wordsAt {i : Nat} (h : i < 8) : wordsV[i]? = some (V.str (word i)) := by
  rcases i with _ | _ | _ | _ | _ | _ | _ | _ | i
  all_goals first | rfl | omega
theorem form_le4 (w : Nat) : (form w).length ≤ 4 := by
  unfold form
  split <;> decide
theorem ok_law_form_of (T : Txt K mg A)  (g_law_orders : Okd P w K mg base CX0 1 A.law_orders P_law_orders spOrd) (g_law_fits_form : Okd P w K mg base CX0 2 A.law_fits_form P_law_fits_form spFits) (g_law_words : Okd P w K mg base CX0 1 A.law_words P_law_words spWords) : Okd P w K mg base CX0 3 A.law_form_of P_law_form_of spFO := by
  obtain ⟨fd, F⟩ := T.d_law_form_of
  obtain ⟨fd_law_orders, G_law_orders, b_law_orders⟩ := g_law_orders
  obtain ⟨fd_law_fits_form, G_law_fits_form, b_law_fits_form⟩ := g_law_fits_form
  obtain ⟨fd_law_words, G_law_words, b_law_words⟩ := g_law_words
  refine ⟨fd, F.ok sc_law_form_of (fun vs H Q E h => ?_) (fun cdv A' outer s H vs Q E hr h => ?_), F.binds fun _ _ _ _ _ _ us hl => match us, hl with | [_, _], _ => rfl⟩
  · obtain ⟨s, g, ys, gp, rfl, _⟩ := h
    rfl
  · obtain ⟨s, g, ys, gp, rfl, hs, hg, hnd, hlt, hl64, kn, ks⟩ := h
    refine ⟨_, (pss_cons (ps_if (pt_cmpR op_gt (pe_callB call_len_seq (by rfl) T.n_len PySem.boot_len (pa_cons (pv 1) pa_nil)) pe_int (nomark _)) (pss_one (ps_ret pe_non)) pss_nil)
      (pss_cons (ps_for PassesOwn.never rfl (pi_list (pe_call G_law_orders (hr.mono (by decide)) (by rfl) T.g_law_orders T.k_law_orders b_law_orders .nil pass0 (pa_cons (pv 1) pa_nil))) (pg_name (i := 2) sc_law_form_of.nd rfl (Or.inl rfl)) (pss_one (ps_for PassesOwn.never rfl (pi_range1 (by rfl) T.n_range (pa_cons pe_int pa_nil)) (pg_name (i := 3) sc_law_form_of.nd rfl (Or.inl rfl)) (pss_one (ps_if (pt_val (pe_call G_law_fits_form (hr.mono (by decide)) (by rfl) T.g_law_fits_form T.k_law_fits_form b_law_fits_form .nil pass0 (pa_cons (pv 0) (pa_cons (pv 2) (pa_cons (pv 3) pa_nil))))) (pss_one (ps_ret (pe_tup (pa_cons (pe_ix ix_tup (pe_call0 G_law_words (hr.mono (by decide)) (by rfl) T.g_law_words T.k_law_words b_law_words .nil pass0) (pv 3) (fun _ _ => rfl)) (pa_cons (pe_callTy call_tuple_of (by rfl) T.n_tuple (by decide +kernel) (pa_cons (pv 2) pa_nil)) pa_nil))))) pss_nil)))))
      (pss_one (ps_ret pe_non)))), ?_⟩
    refine ⟨_, rfl, g, _, rfl, Or.inl hg.sz, _, _, rfl, rfl, _, rfl, ?_⟩
    refine ite_b (fun c => ?_) (fun c => ?_)
    · have c := of_decide_eq_true c
      rw [nI_len] at c
      refine kn (fun w row hw hp F => ?_) H (Ex.refl H)
      have a1 := F.len
      have a2 := form_le4 w
      have a3 := hp.length_eq
      omega
    have c := of_decide_eq_false c
    rw [nI_len] at c
    refine ⟨_, rfl, g, gp, rfl, hg, by omega, fun p qs H1 hp e1 hP hR => ?_⟩
    refine ⟨p, rfl, ⟨_, SqL.of hP⟩, for_list (K := K) (a := p) (xs := qs.map V.ref) (fun i σ G => ∃ v2 v3 : Option V, σ = [some (.ref s), some (.ref g), v2, v3] ∧ Ex H1 G ∧ ∀ (i' w : Nat) (row : List Nat), i' < i → w < 8 → (ords gp gp.length)[i']? = some row → ¬ Fits (fun x => ys.getD x 0) row w)
      ⟨none, none, rfl, Ex.refl H1, fun i' w row h => absurd h (Nat.not_lt_zero _)⟩ (fun i σ G _ ⟨_, _, _, e, _⟩ => SqL.of (e _ _ hP)) ?_ ?_⟩
    · rintro i x σ G hi ⟨v2, v3, rfl, e, hno⟩
      rw [List.getElem?_map] at hi
      cases hqi : qs[i]? with
      | none => rw [hqi] at hi; cases hi
      | some q =>
      rw [hqi] at hi
      injection hi with hi
      subst hi
      have hil : i < (ords gp gp.length).length := by rw [← hR.1]; exact (List.getElem?_eq_some_iff.mp hqi).1
      have hri : (ords gp gp.length)[i]? = some (ords gp gp.length)[i] := List.getElem?_eq_getElem hil
      have hrow := hR.2 i q _ hqi hri
      obtain ⟨hm1, hm2, hm3⟩ := mem_ords.mp (List.getElem_mem hil)
      generalize (ords gp gp.length)[i] = row at *
      have hperm : row.Perm gp := perm_of_sub hm2 hm3 hm1
      refine ⟨_, rfl, by decide, by decide, ?_⟩
      refine for_range (lo := 0) (n := 8) (fun j σ G2 => ∃ v3 : Option V, σ = [some (.ref s), some (.ref g), some (.ref q), v3] ∧ Ex H1 G2 ∧ ∀ w, w < j → ¬ Fits (fun x => ys.getD x 0) row w) ⟨v3, rfl, e, fun w h => absurd h (Nat.not_lt_zero _)⟩ ?_ ?_
      · rintro j σ G2 hj ⟨v3, rfl, e2, hn2⟩
        have k0 : (0 : Int) + (j : Int) = ((j : Nat) : Int) := by omega
        refine ⟨_, rfl, _, rfl, _, rfl, s, q, ys, row, j, (by rw [k0]; rfl), hj, hs.ex (e1.trans e2), hrow.ex e2, fun x hx => hlt x (hm3 x hx), by omega, fun b G3 e3 hb => ⟨_, rfl, ?_⟩⟩
        have e13 := e2.trans e3
        refine ite_b (fun c => ?_) (fun c => ?_)
        · have hF := hb.mp c
          refine ⟨rfl, fun pw hpw => ?_⟩
          have e4 := ex_new (o := .tup wordsV) e13 hpw
          refine ⟨_, rfl, pw, wordsV, _, _, rfl, rfl, SqT.of upd_same, at_of k0 (wordsAt hj), ?_⟩
          generalize upd G3 pw (.tup wordsV) = G4 at *
          refine ⟨_, rfl, q, _, rfl, Or.inl ⟨(hrow.ex e4).sz, fun t ht => ⟨(by show 2 ≤ sizeLine; decide), fun r hr9 => ?_⟩⟩⟩
          have e5 := ex_new (ex_new e4 ht (o := .tup (nI row))) hr9 (o := .tup [.str (word j), .ref t])
          have htr : t ≠ r := ne_of_none upd_same hr9
          refine ks (j, row) ⟨hj, hperm, hF⟩ r t _ (fresh_back e1 (fresh_back (ex_new e4 ht (o := .tup (nI row))) hr9)) (e1.trans e5) upd_same ?_
          rw [upd_ne htr, upd_same]
        · refine ⟨_, rfl, e13, fun w hw => ?_⟩
          by_cases z : w = j
          · rw [z]
            intro F
            rw [hb.mpr F] at c
            cases c
          · exact hn2 w (by omega)
      · rintro σ G2 ⟨v3, rfl, e2, hn2⟩
        refine ⟨_, _, rfl, e2, fun i' w row' hi' hw hr' => ?_⟩
        by_cases z : i' = i
        · subst z
          rw [hri] at hr'
          cases Option.some.inj hr'
          exact hn2 w hw
        · exact hno i' w row' (by omega) hw hr'
    · rintro σ G ⟨v2, v3, rfl, e, hno⟩
      rw [List.length_map, hR.1] at hno
      refine kn (fun w row hw hp F => ?_) G (e1.trans e)
      have hmem : row ∈ ords gp gp.length := mem_ords.mpr ⟨hp.length_eq, hp.nodup_iff.mpr hnd, fun x hx => hp.mem_iff.mp hx⟩
      obtain ⟨i, hi, hei⟩ := List.getElem_of_mem hmem
      exact hno i w row hi hw (by rw [List.getElem?_eq_getElem hi, hei]) F

end

section
variable {P : Program} {w : World} {K : PySem.W.Frag} {mg : Str → Option Value} {base : Heap} {A : Ad}
/-- the first entry that is no record: its place, or -1 -/
def spFS : Sp := fun vs H Q _ => ∃ (s : Addr) (xs : List Int), vs = [.ref s] ∧ H s = some (.lst (xs.map V.int)) ∧ xs.length ≤ 64 ∧
  (∀ k : Nat, k < xs.length → badN xs k = true → (∀ j, j < k → badN xs j = false) → Q (.int (k : Int)) H) ∧ ((∀ k, k < xs.length → badN xs k = false) → Q (.int (-1)) H)
theorem ok_law_first_stray (T : Txt K mg A)   : Okd P w K mg base CX0 1 A.law_first_stray P_law_first_stray spFS := by
  obtain ⟨fd, F⟩ := T.d_law_first_stray

  refine ⟨fd, F.ok sc_law_first_stray (fun vs H Q E h => ?_) (fun cdv A' outer s H vs Q E hr h => ?_), F.binds fun _ _ _ _ _ _ us hl => match us, hl with | [_], _ => rfl⟩
  · obtain ⟨s, xs, rfl, _⟩ := h
    rfl
  · obtain ⟨s, xs, rfl, hs, hl, k1, k2⟩ := h
    refine ⟨_, (pss_cons (ps_for PassesOwn.never rfl (pi_range1 (by rfl) T.n_range (pa_cons (pe_callB call_len_seq (by rfl) T.n_len PySem.boot_len (pa_cons (pv 0) pa_nil)) pa_nil)) (pg_name (i := 1) sc_law_first_stray.nd rfl (Or.inl rfl)) (pss_one (ps_if (PW.pt (pw_or (pt_cmpR op_lt (pe_ix ix_list (pv 0) (pv 1) (fun _ _ => rfl)) pe_int (nomark _)) (pw_or1 (pt_cmpR op_ge (pe_ix ix_list (pv 0) (pv 1) (fun _ _ => rfl)) (pe_callB call_len_seq (by rfl) T.n_len PySem.boot_len (pa_cons (pv 0) pa_nil)) (nomark _))))) (pss_one (ps_ret (pv 1))) pss_nil)))
      (pss_one (ps_ret (pe_un un_neg pe_int)))), ?_⟩
    refine ⟨_, rfl, s, _, rfl, Or.inl (SqL.of hs), _, rfl, (by rw [List.length_map]; omega), (by rw [List.length_map]; omega), ?_⟩
    rw [List.length_map]
    refine for_range (lo := 0) (n := xs.length) (fun i σ G => ∃ v1 : Option V, σ = [some (.ref s), v1] ∧ G = H ∧ ∀ j, j < i → badN xs j = false) ⟨none, rfl, rfl, fun j h => absurd h (Nat.not_lt_zero _)⟩ ?_ ?_
    · rintro i σ G hi ⟨v1, rfl, rfl, hno⟩
      have k0 : (0 : Int) + (i : Int) = ((i : Nat) : Int) := by omega
      have hix : (xs.map V.int)[i]? = some (V.int (xs.getD i 0)) := by
        rw [List.getElem?_map, List.getD_eq_getElem?_getD, List.getElem?_eq_getElem hi]
        rfl
      refine ⟨_, rfl, _, rfl, _, _, _, _, rfl, rfl, SqL.of hs, at_of k0 hix, _, _, rfl, rfl, _, rfl, ?_⟩
      refine ite_b (fun c => ?_) (fun c => ?_)
      · rw [k0]
        exact ⟨_, rfl, k1 i hi (by unfold badN; rw [show decide (xs.getD i 0 < 0) = true from c]; rfl) hno⟩
      refine ⟨_, rfl, _, rfl, _, _, _, _, rfl, rfl, SqL.of hs, at_of k0 hix, _, rfl, s, _, rfl, Or.inl (SqL.of hs), _, _, rfl, rfl, _, rfl, ?_⟩
      rw [List.length_map]
      refine ite_b (fun c2 => ?_) (fun c2 => ?_)
      · exact ⟨_, rfl, by rw [k0]; exact k1 i hi (by unfold badN; rw [show decide ((xs.length : Int) ≤ xs.getD i 0) = true from c2, Bool.or_true]) hno⟩
      · refine ⟨_, rfl, rfl, fun j hj => ?_⟩
        by_cases z : j = i
        · rw [z]
          unfold badN
          rw [show decide (xs.getD i 0 < 0) = false from c, show decide ((xs.length : Int) ≤ xs.getD i 0) = false from c2]
          rfl
        · exact hno j (by omega)
    · rintro σ G ⟨v1, rfl, rfl, hno⟩
      exact ⟨_, rfl, k2 hno⟩

end

section
variable {P : Program} {w : World} {K : PySem.W.Frag} {mg : Str → Option Value} {base : Heap} {A : Ad}
def spJo : Sp := fun vs H Q _ => ∃ (s : Addr) (ys : List Nat), vs = [.ref s] ∧ ListN H s ys ∧ ys.length ≤ 64 ∧ (∀ x, x < ys.length → ys.getD x 0 < ys.length) ∧
  ∀ (p : Addr) (gs : List (Nat × Addr)) H', H p = none → Ex H H' → H' p = some (.lst (gs.map fun x => V.ref x.2)) → gs.map (·.1) = ((List.range ys.length).filter fun x => decide (labF ys x = x)) →
  (∀ x ∈ gs, ListN H' x.2 ((List.range ys.length).filter fun y => decide (labF ys y = x.1))) → Q (.ref p) H'
theorem step_map (L : List Nat) (r nm : Nat) : stepL L r nm = L.map fun o => if o = max (L.getD r 0) (L.getD nm 0) then min (L.getD r 0) (L.getD nm 0) else o := by
  unfold stepL
  split
  · rename_i c
    rw [c]
    conv => lhs; rw [← List.map_id L]
    refine List.map_congr_left fun o _ => ?_
    show o = _
    split
    · assumption
    · rfl
  · rfl
theorem part_at {L : List Nat} {f : Nat → Nat} {i : Nat} (h : i < L.length) : ((L.take i).map f ++ L.drop i).getD i 0 = L.getD i 0 := by
  rw [List.getD_eq_getElem?_getD, List.getElem?_append_right (by rw [List.length_map, List.length_take]; omega), List.length_map, List.length_take, Nat.min_eq_left (by omega), Nat.sub_self, List.getElem?_drop, Nat.add_zero, List.getD_eq_getElem?_getD]
theorem part_len {L : List Nat} {f : Nat → Nat} {i : Nat} (h : i ≤ L.length) : ((L.take i).map f ++ L.drop i).length = L.length := by
  rw [List.length_append, List.length_map, List.length_take, List.length_drop]
  omega
theorem part_set {L : List Nat} {f : Nat → Nat} {i : Nat} (h : i < L.length) : ((L.take i).map f ++ L.drop i).set i (f (L.getD i 0)) = (L.take (i + 1)).map f ++ L.drop (i + 1) := by
  rw [List.set_append_right _ _ (by rw [List.length_map, List.length_take]; omega), List.length_map, List.length_take, Nat.min_eq_left (by omega), Nat.sub_self, take_map_succ h, List.append_assoc]
  congr 1
  rw [List.drop_eq_getElem_cons h]
  rfl
theorem part_same {L : List Nat} {f : Nat → Nat} {i : Nat} (h : i < L.length) (e : f (L.getD i 0) = L.getD i 0) : (L.take i).map f ++ L.drop i = (L.take (i + 1)).map f ++ L.drop (i + 1) := by
  rw [take_map_succ h, e, List.append_assoc, List.drop_eq_getElem_cons h]
  congr 1
  rw [List.getD_eq_getElem?_getD, List.getElem?_eq_getElem h]
  rfl
theorem lab_len (ys : List Nat) : ∀ i, (lab ys i).length = ys.length := fun i => by
  induction i with
  | zero => exact List.length_range
  | succ i ih =>
    show (stepL (lab ys i) i (ys.getD i 0)).length = _
    rw [step_map, List.length_map]
    exact ih
theorem ok_law_joined (T : Txt K mg A)   : Okd P w K mg base CX0 1 A.law_joined P_law_joined spJo := by
  obtain ⟨fd, F⟩ := T.d_law_joined

  refine ⟨fd, F.ok sc_law_joined (fun vs H Q E h => ?_) (fun cdv A' outer s H vs Q E hr h => ?_), F.binds fun _ _ _ _ _ _ us hl => match us, hl with | [_], _ => rfl⟩
  · obtain ⟨s, ys, rfl, _⟩ := h
    rfl
  · obtain ⟨s, ys, rfl, hs, hl, ok, k⟩ := h
    refine ⟨_, (pss_cons (ps_set (i := 1) sc_law_joined.nd rfl (Or.inr rfl) (pe_listRg (by rfl) (by rfl) T.n_list (prg_1 (by rfl) T.n_range (pe_callB call_len_seq (by rfl) T.n_len PySem.boot_len (pa_cons (pv 0) pa_nil)))))
      (pss_cons (ps_for PassesOwn.never rfl (pi_range1 (by rfl) T.n_range (pa_cons (pe_callB call_len_seq (by rfl) T.n_len PySem.boot_len (pa_cons (pv 0) pa_nil)) pa_nil)) (pg_name (i := 2) sc_law_joined.nd rfl (Or.inr rfl)) (pss_cons (ps_set (i := 3) sc_law_joined.nd rfl (Or.inl rfl) (pe_callB (call_min2 (by rfl)) (by rfl) T.n_min (by decide +kernel) (pa_cons (pe_ix ix_list (pv 1) (pv 2) (fun _ _ => rfl)) (pa_cons (pe_ix ix_list (pv 1) (pe_ix ix_list (pv 0) (pv 2) (fun _ _ => rfl)) (fun _ _ => rfl)) pa_nil))))
      (pss_cons (ps_set (i := 4) sc_law_joined.nd rfl (Or.inl rfl) (pe_callB (call_max2 (by rfl)) (by rfl) T.n_max (by decide +kernel) (pa_cons (pe_ix ix_list (pv 1) (pv 2) (fun _ _ => rfl)) (pa_cons (pe_ix ix_list (pv 1) (pe_ix ix_list (pv 0) (pv 2) (fun _ _ => rfl)) (fun _ _ => rfl)) pa_nil))))
      (pss_one (ps_for PassesOwn.never rfl (pi_range1 (by rfl) T.n_range (pa_cons (pe_callB call_len_seq (by rfl) T.n_len PySem.boot_len (pa_cons (pv 1) pa_nil)) pa_nil)) (pg_name (i := 5) sc_law_joined.nd rfl (Or.inl rfl)) (pss_one (ps_if (pt_cmpR op_eq (pe_ix ix_list (pv 1) (pv 5) (fun _ _ => rfl)) (pv 4) (nomark _)) (pss_one (ps_asg (pv 3) (pg_sub (pv 1) (pv 5) set_list))) pss_nil)))))))
      (pss_cons (ps_set (i := 6) sc_law_joined.nd rfl (Or.inl rfl) (pe_lst pa_nil))
      (pss_cons (ps_for PassesOwn.never rfl (pi_range1 (by rfl) T.n_range (pa_cons (pe_callB call_len_seq (by rfl) T.n_len PySem.boot_len (pa_cons (pv 0) pa_nil)) pa_nil)) (pg_name (i := 2) sc_law_joined.nd rfl (Or.inr rfl)) (pss_one (ps_if (pt_cmpR op_eq (pe_ix ix_list (pv 1) (pv 2) (fun _ _ => rfl)) (pv 2) (nomark _)) (pss_one (ps_expr (pe_bm PySem.F.plainAttrs_list PySem.F.slot_list_append PySem.F.type_list_append mt_append (pv 6) (pa_cons (pe_lc (own := [("at", 5)]) (tt := _) (by rfl) sc_law_joined.nd (pi_range1 (by rfl) T.n_range (pa_cons (pe_callB call_len_seq (by rfl) T.n_len PySem.boot_len (pa_cons (pv 0) pa_nil)) pa_nil)) (blkOk_by (own := [("at", 5)]) (N := N_law_joined) (sc := defScope s_law_joined) (by decide +kernel)) (fun _ _ _ _ _ => (pg_name (i := 5) sc_law_joined.nd rfl (Or.inl rfl))) (fun _ _ _ _ _ => (pts_one (pt_cmpR op_eq (pe_ix (ix_listK (K := K) rfl) (pv 1) (pv 5) (fun _ _ => rfl)) (pv 2) (nomark _)))) (fun _ _ _ _ _ => (pv 5))) pa_nil)))) pss_nil)))
      (pss_one (ps_ret (pv 6))))))), ?_⟩
    have hn : (nI ys).length = ys.length := nI_len ys
    refine ⟨_, rfl, s, _, rfl, Or.inl hs.sz, _, rfl, RgOk.of_le (by decide) (by rw [hn]; omega) (by decide) (by rw [hn]; omega), fun p hp => ?_⟩
    have hp1 : ListN (upd H p (.lst (rgV 0 ((nI ys).length : Int)))) p (lab ys 0) := by
      show upd H p _ p = _
      rw [upd_same, hn, rgV_map, List.map_map]
      rfl
    have e0 := Ex.new (o := .lst (rgV 0 ((nI ys).length : Int))) hp
    generalize L2.upd H p _ = H0 at *
    have hs0 := hs.ex e0
    have nsp : s ≠ p := ne_of_none hs hp
    refine ⟨_, rfl, s, _, rfl, Or.inl hs0.sz, _, rfl, (by rw [hn]; omega), (by rw [hn]; omega), ?_⟩
    rw [hn]
    refine for_range (lo := 0) (n := ys.length) (fun i σ G => ∃ v2 v3 v4 v5 v6 : Option V, σ = [some (.ref s), some (.ref p), v2, v3, v4, v5, v6] ∧ Mut p H0 G ∧ ListN G p (lab ys i)) ⟨none, none, none, none, none, rfl, Mut.refl p H0, hp1⟩ ?_ ?_
    · rintro i σ G hi ⟨v2, v3, v4, v5, v6, rfl, M, hL⟩
      have k0 : (0 : Int) + (i : Int) = ((i : Nat) : Int) := by omega
      have hsG : ListN G s ys := M s _ nsp hs0
      have hlen := lab_len ys i
      have hx := ok i hi
      refine ⟨_, rfl, _, rfl, _, _, _, _, rfl, rfl, hL.sz, at_of k0 (ixN_ (by omega)), _, rfl, _, rfl, _, rfl, _, _, _, _, rfl, rfl, hsG.sz, at_of k0 (ixN_ hi), _, _, _, _, rfl, rfl, hL.sz, atN (by omega), _, _, rfl, ?_⟩
      refine ⟨_, rfl, _, rfl, _, _, _, _, rfl, rfl, hL.sz, at_of k0 (ixN_ (by omega)), _, rfl, _, rfl, _, rfl, _, _, _, _, rfl, rfl, hsG.sz, at_of k0 (ixN_ hi), _, _, _, _, rfl, rfl, hL.sz, atN (by omega), _, _, rfl, ?_⟩
      have hmin : (if (((lab ys i).getD (ys.getD i 0) 0 : Nat) : Int) < (((lab ys i).getD i 0 : Nat) : Int) then (((lab ys i).getD (ys.getD i 0) 0 : Nat) : Int) else (((lab ys i).getD i 0 : Nat) : Int)) = ((min ((lab ys i).getD i 0) ((lab ys i).getD (ys.getD i 0) 0) : Nat) : Int) := by
        split <;> omega
      have hmax : (if (((lab ys i).getD (ys.getD i 0) 0 : Nat) : Int) > (((lab ys i).getD i 0 : Nat) : Int) then (((lab ys i).getD (ys.getD i 0) 0 : Nat) : Int) else (((lab ys i).getD i 0 : Nat) : Int)) = ((max ((lab ys i).getD i 0) ((lab ys i).getD (ys.getD i 0) 0) : Nat) : Int) := by
        split <;> omega
      rw [hmin, hmax]
      have hstep : lab ys (i + 1) = stepL (lab ys i) i (ys.getD i 0) := rfl
      rw [step_map] at hstep
      generalize min ((lab ys i).getD i 0) ((lab ys i).getD (ys.getD i 0) 0) = lo at *
      generalize max ((lab ys i).getD i 0) ((lab ys i).getD (ys.getD i 0) 0) = up at *
      rw [hstep]
      generalize lab ys i = L at *
      refine ⟨_, rfl, p, _, rfl, Or.inl hL.sz, _, rfl, (by rw [nI_len]; omega), (by rw [nI_len]; omega), ?_⟩
      rw [nI_len]
      refine for_range (lo := 0) (n := L.length) (fun a σ G2 => ∃ v5 v6 : Option V, σ = [some (.ref s), some (.ref p), some (.int (0 + (i : Int))), some (.int (lo : Int)), some (.int (up : Int)), v5, v6] ∧ Mut p H0 G2 ∧ ListN G2 p ((L.take a).map (fun o => if o = up then lo else o) ++ L.drop a)) ⟨v5, v6, rfl, M, hL⟩ ?_ ?_
      · rintro a σ G2 ha ⟨v5, v6, rfl, M2, hL2⟩
        have ka : (0 : Int) + (a : Int) = ((a : Nat) : Int) := by omega
        have hpl := part_len (f := fun o => if o = up then lo else o) (Nat.le_of_lt ha)
        refine ⟨_, rfl, _, rfl, _, _, _, _, rfl, rfl, hL2.sz, at_of ka (ixN_ (by omega)), _, rfl, rfl, _, rfl, ?_⟩
        rw [part_at ha]
        refine ite_b (fun c => ?_) (fun c => ?_)
        · have c2 : L.getD a 0 = up := by
            have c := of_decide_eq_true c
            injection c with c
            omega
          refine ⟨_, rfl, _, rfl, _, rfl, p, _, _, a, rfl, rfl, hL2, (by rw [ka]; exact Evl.ixN_nat (by rw [nI_len]; omega)), ?_⟩
          refine ⟨_, _, rfl, M2.upd, ?_⟩
          have hps := part_set (f := fun o => if o = up then lo else o) ha
          rw [c2] at hps
          rw [if_pos rfl] at hps
          show upd G2 p _ p = _
          rw [upd_same, ← hps]
          exact congrArg (fun z => some (HO.lst z)) List.map_set.symm
        · have c2 : L.getD a 0 ≠ up := fun z => by
            have c := of_decide_eq_false c
            exact c (by rw [z])
          refine ⟨_, _, rfl, M2, ?_⟩
          rw [← part_same (f := fun o => if o = up then lo else o) ha (if_neg c2)]
          exact hL2
      · rintro σ G2 ⟨v5, v6, rfl, M2, hL2⟩
        rw [List.take_length, List.drop_length, List.append_nil] at hL2
        exact ⟨_, _, _, _, _, rfl, M2, hL2⟩
    · rintro σ G ⟨v2, v3, v4, v5, v6, rfl, M, hL⟩
      have hLl := lab_len ys ys.length
      have hLF : ∀ x, (lab ys ys.length).getD x 0 = labF ys x := fun x => rfl
      refine ⟨by decide, fun f hf => ?_⟩
      have hsG : ListN G s ys := M s _ nsp hs0
      have eG : Ex H G := fun b o hb => M b o (ne_of_none hb hp) (e0 b o hb)
      have fH : H f = none := fresh_back eG hf
      have hL1 := hL.ex (Ex.new (o := .lst []) hf)
      have hs1 := hsG.ex (Ex.new (o := .lst []) hf)
      have e1 : Ex H (upd G f (.lst [])) := eG.trans (Ex.new hf)
      have hf1 : upd G f (.lst []) f = some (.lst []) := upd_same
      have npf : p ≠ f := ne_of_none hL hf
      have nsf : s ≠ f := ne_of_none hsG hf
      generalize upd G f (.lst []) = G1 at *
      refine ⟨_, rfl, s, _, rfl, Or.inl hs1.sz, _, rfl, (by rw [hn]; omega), (by rw [hn]; omega), ?_⟩
      rw [hn]
      refine for_range (lo := 0) (n := ys.length) (fun i σ G2 => ∃ (gs : List (Nat × Addr)) (v2 v5 : Option V), σ = [some (.ref s), some (.ref p), v2, v3, v4, v5, some (.ref f)] ∧ Mut f G1 G2 ∧ G2 f = some (.lst (gs.map fun x => V.ref x.2)) ∧ gs.map (·.1) = ((List.range i).filter fun x => decide (labF ys x = x)) ∧ ∀ x ∈ gs, x.2 ≠ f ∧ ListN G2 x.2 ((List.range ys.length).filter fun y => decide (labF ys y = x.1)))
        ⟨[], v2, v5, rfl, Mut.refl f G1, hf1, rfl, (fun x h => nomatch h)⟩ ?_ ?_
      · rintro i σ G2 hi ⟨gs, v2, v5, rfl, M2, hf2, hk2, hg2⟩
        have k0 : (0 : Int) + (i : Int) = ((i : Nat) : Int) := by omega
        have hL2 : ListN G2 p (lab ys ys.length) := M2 p _ npf hL1
        have hs2 : ListN G2 s ys := M2 s _ nsf hs1
        have hgl : gs.length ≤ i := by
          have e := congrArg List.length hk2
          rw [List.length_map] at e
          have := List.length_filter_le (fun x => decide (labF ys x = x)) (List.range i)
          rw [List.length_range] at this
          omega
        refine ⟨_, rfl, _, rfl, _, _, _, _, rfl, rfl, hL2.sz, at_of k0 (ixN_ (by omega)), _, rfl, rfl, _, rfl, ?_⟩
        rw [hLF]
        have hdec : decide (V.int ((labF ys i : Nat) : Int) = V.int (0 + (i : Int))) = decide (labF ys i = i) := by
          by_cases z : labF ys i = i
          · rw [decide_eq_true z, decide_eq_true]
            rw [z, k0]
          · rw [decide_eq_false z, decide_eq_false]
            intro y
            injection y with y
            omega
        rw [hdec]
        have hkey : ((List.range (i + 1)).filter fun x => decide (labF ys x = x)) = ((List.range i).filter fun x => decide (labF ys x = x)) ++ (if decide (labF ys i = i) = true then [i] else []) := by
          rw [List.range_succ, List.filter_append, List.filter_cons]
          rfl
        refine ite_b (fun c => ?_) (fun c => ?_)
        · rw [if_pos c] at hkey
          have hii : labF ys i = i := of_decide_eq_true c
          refine ⟨_, rfl, Or.inl ⟨rfl, _, SqL.of hf2⟩, _, rfl, s, _, rfl, Or.inl hs2.sz, _, rfl, (by rw [hn]; omega), (by rw [hn]; omega), ?_⟩
          rw [hn]
          refine fun D hD => lc_range (lo := 0) (n := ys.length) (fun j G3 => Ex G2 G3 ∧ ListN G3 D ((List.range j).filter fun y => decide (labF ys y = i))) ⟨Ex.new hD, upd_same⟩ ?_ ?_
          · rintro j G3 hj ⟨e3, hd⟩
            have kj : (0 : Int) + (j : Int) = ((j : Nat) : Int) := by omega
            have hL3 := hL2.ex e3
            refine ⟨rfl, _, rfl, _, rfl, _, _, _, _, rfl, rfl, hL3.sz, at_of kj (ixN_ (by omega)), _, rfl, rfl, _, rfl, ?_⟩
            rw [hLF]
            have hdec2 : decide (V.int ((labF ys j : Nat) : Int) = V.int (0 + (i : Int))) = decide (labF ys j = i) := by
              by_cases z : labF ys j = i
              · rw [decide_eq_true z, decide_eq_true]
                rw [z, k0]
              · rw [decide_eq_false z, decide_eq_false]
                intro y
                injection y with y
                omega
            rw [hdec2]
            have hkj : ((List.range (j + 1)).filter fun x => decide (labF ys x = i)) = ((List.range j).filter fun x => decide (labF ys x = i)) ++ (if decide (labF ys j = i) = true then [j] else []) := by
              rw [List.range_succ, List.filter_append, List.filter_cons]
              rfl
            refine ite_b (fun c => ?_) (fun c => ?_)
            · rw [if_pos c] at hkj
              refine ⟨_, rfl, _, hd, small1000 (by rw [nI_len]; have := List.length_filter_le (fun x => decide (labF ys x = i)) (List.range j); rw [List.length_range] at this; omega), ?_⟩
              rw [hkj, kj]
              exact acc_step hD e3
            · rw [if_neg (by rw [c]; decide), List.append_nil] at hkj
              rw [hkj]
              exact ⟨e3, hd⟩
          · rintro G3 ⟨e3, hd⟩
            have nDf : D ≠ f := fun z => by
              rw [z, hf2] at hD
              cases hD
            refine ⟨f, _, _, rfl, rfl, e3 _ _ hf2, small1000 (by rw [List.length_map]; omega), ?_⟩
            refine ⟨gs ++ [(i, D)], _, _, rfl, fun b o hb hv => by rw [upd_ne hb]; exact e3 _ _ (M2 b o hb hv), ?_, ?_, ?_⟩
            · rw [upd_same, List.map_append]
              rfl
            · rw [hkey, List.map_append, hk2]
              rfl
            · intro x hx
              rcases List.mem_append.mp hx with hx | hx
              · obtain ⟨g1, g2⟩ := hg2 x hx
                refine ⟨g1, ?_⟩
                show upd G3 f _ x.2 = _
                rw [upd_ne g1]
                exact e3 _ _ g2
              · rw [List.mem_singleton.mp hx]
                refine ⟨nDf, ?_⟩
                show upd G3 f _ D = _
                rw [upd_ne nDf]
                exact hd
        · rw [if_neg (by rw [c]; decide), List.append_nil] at hkey
          exact ⟨gs, _, _, rfl, M2, hf2, by rw [hkey]; exact hk2, hg2⟩
      · rintro σ G2 ⟨gs, v2, v5, rfl, M2, hf2, hk2, hg2⟩
        exact ⟨_, rfl, k f gs G2 fH (fun b o hb => M2 b o (ne_of_none hb fH) (e1 b o hb)) hf2 hk2 fun x hx => (hg2 x hx).2⟩

end

section
variable {P : Program} {w : World} {K : PySem.W.Frag} {mg : Str → Option Value} {base : Heap} {A : Ad}
def spGM2 : Sp := fun vs H Q _ => ∃ (g d : Addr) (qs ds : List Addr) (rs : List (List Nat)), vs = [.ref g, .ref d] ∧ H g = some (.lst (qs.map V.ref)) ∧ H d = some (.lst (ds.map V.ref)) ∧ RowsL H qs rs ∧ RowsL H ds rs ∧ rs.length ≤ 64 ∧ (∀ r ∈ rs, r.length ≤ 64) ∧ Q (.bl true) H
theorem refAt {qs : List Addr} {i : Nat} (h : i < qs.length) : (qs.map V.ref)[i]? = some (V.ref qs[i]) := by
  rw [List.getElem?_map, List.getElem?_eq_getElem h]
  rfl
theorem ok_law_groups_meet (T : Txt K mg A)  (g_law_row_meets : Okd P w K mg base CX0 1 A.law_row_meets P_law_row_meets (spRM K)) : Okd P w K mg base CX0 2 A.law_groups_meet P_law_groups_meet spGM2 := by
  obtain ⟨fd, F⟩ := T.d_law_groups_meet
  obtain ⟨fd_law_row_meets, G_law_row_meets, b_law_row_meets⟩ := g_law_row_meets
  refine ⟨fd, F.ok sc_law_groups_meet (fun vs H Q E h => ?_) (fun cdv A' outer s H vs Q E hr h => ?_), F.binds fun _ _ _ _ _ _ us hl => match us, hl with | [_, _], _ => rfl⟩
  · obtain ⟨g, d, qs, ds, rs, rfl, _⟩ := h
    rfl
  · obtain ⟨g, d, qs, ds, rs, rfl, hg, hd, hq, he, hl, h64, k⟩ := h
    refine ⟨_, (pss_cons (ps_if (PW.pt (pw_or (pt_not (pt_val (pe_callB call_isi (by rfl) T.n_isinstance (by decide +kernel) (pa_cons (pv 0) (pa_cons (pe_bltn (v := .ty "list") (u := .type "list") (by rfl) T.n_list (by decide +kernel) rfl) pa_nil))))) (pw_or1 (pt_cmpR op_ne (pe_callB call_len_seq (by rfl) T.n_len PySem.boot_len (pa_cons (pv 0) pa_nil)) (pe_callB call_len_seq (by rfl) T.n_len PySem.boot_len (pa_cons (pv 1) pa_nil)) (nomark _))))) (pss_one (ps_ret pe_bl)) pss_nil)
      (pss_cons (ps_for PassesOwn.never rfl (pi_range1 (by rfl) T.n_range (pa_cons (pe_callB call_len_seq (by rfl) T.n_len PySem.boot_len (pa_cons (pv 1) pa_nil)) pa_nil)) (pg_name (i := 2) sc_law_groups_meet.nd rfl (Or.inl rfl)) (pss_one (ps_if (PW.pt (pw_or (pt_not (pt_val (pe_callB call_isi (by rfl) T.n_isinstance (by decide +kernel) (pa_cons (pe_ix ix_list (pv 0) (pv 2) (fun _ _ => rfl)) (pa_cons (pe_bltn (v := .ty "list") (u := .type "list") (by rfl) T.n_list (by decide +kernel) rfl) pa_nil))))) (pw_or1 (pt_not (pt_val (pe_call G_law_row_meets (hr.mono (by decide)) (by rfl) T.g_law_row_meets T.k_law_row_meets b_law_row_meets .nil pass0 (pa_cons (pe_ix ix_list (pv 0) (pv 2) (fun _ _ => rfl)) (pa_cons (pe_ix ix_list (pv 1) (pv 2) (fun _ _ => rfl)) pa_nil)))))))) (pss_one (ps_ret pe_bl)) pss_nil)))
      (pss_one (ps_ret pe_bl)))), ?_⟩
    refine ⟨_, rfl, _, _, _, _, true, rfl, ClsV.ty "list", TyX.base (TyOf.lst hg), kit_ty (by decide +kernel), _, rfl, ?_⟩
    refine ⟨_, rfl, g, _, rfl, Or.inl (SqL.of hg), _, rfl, d, _, rfl, Or.inl (SqL.of hd), rfl, _, rfl, ?_⟩
    rw [show (qs.map V.ref).length = (ds.map V.ref).length by rw [List.length_map, List.length_map, hq.1, he.1]]
    refine ite_b (fun c => absurd (ne_self _) (by rw [c]; decide)) (fun _ => ?_)
    refine ⟨_, rfl, d, _, rfl, Or.inl (SqL.of hd), _, rfl, (by rw [List.length_map, he.1]; omega), (by rw [List.length_map, he.1]; omega), ?_⟩
    rw [List.length_map, he.1]
    refine for_range (lo := 0) (n := rs.length) (fun i σ H' => ∃ v2, σ = [some (.ref g), some (.ref d), v2] ∧ H' = H) ⟨none, rfl, rfl⟩ ?_ ?_
    · rintro i σ G hi ⟨v2, rfl, rfl⟩
      have k0 : (0 : Int) + (i : Int) = ((i : Nat) : Int) := by omega
      have hqi : i < qs.length := by rw [hq.1]; exact hi
      have hdi : i < ds.length := by rw [he.1]; exact hi
      have hr1 := hq.2 i _ _ (List.getElem?_eq_getElem hqi) (List.getElem?_eq_getElem hi)
      have hr2 := he.2 i _ _ (List.getElem?_eq_getElem hdi) (List.getElem?_eq_getElem hi)
      have atq := at_of k0 (refAt hqi)
      have atd := at_of k0 (refAt hdi)
      have hlen := h64 _ (List.getElem_mem hi)
      refine ⟨_, rfl, _, rfl, _, _, _, _, rfl, rfl, SqL.of hg, atq, _, _, _, _, true, rfl, ClsV.ty "list", TyX.base (TyOf.lst hr1), kit_ty (by decide +kernel), _, rfl, ?_⟩
      exact ⟨_, rfl, _, rfl, _, _, _, _, rfl, rfl, SqL.of hg, atq, _, rfl, _, rfl, _, _, _, _, rfl, rfl, SqL.of hd, atd, _, _, _, rfl, Or.inl hr1.sz, Or.inl hr2.sz, hlen, _, rfl, _, rfl, rfl⟩
    · rintro σ G ⟨v2, rfl, rfl⟩
      exact k

end

section
variable {P : Program} {w : World} {K : PySem.W.Frag} {mg : Str → Option Value} {base : Heap} {A : Ad}
def PieceT (H : Hp) (q : Addr) (b : Bk) : Prop := ∃ t, H q = some (.tup [.str (word b.1), .ref t]) ∧ H t = some (.tup (nI b.2))
def PcsL (H : Hp) (qs : List Addr) (bs : List Bk) : Prop := qs.length = bs.length ∧ ∀ (i : Nat) (q : Addr) (b : Bk), qs[i]? = some q → bs[i]? = some b → PieceT H q b
def spPM2 : Sp := fun vs H Q _ => ∃ (g d : Addr) (qs ds : List Addr) (bs : List Bk), vs = [.ref g, .ref d] ∧ H g = some (.lst (qs.map V.ref)) ∧ H d = some (.lst (ds.map V.ref)) ∧ PcsL H qs bs ∧ PcsL H ds bs ∧ bs.length ≤ 64 ∧ (∀ b ∈ bs, b.2.length ≤ 64) ∧ Q (.bl true) H
theorem ok_law_pieces_meet (T : Txt K mg A)  (g_law_row_meets : Okd P w K mg base CX0 1 A.law_row_meets P_law_row_meets (spRM K)) : Okd P w K mg base CX0 2 A.law_pieces_meet P_law_pieces_meet spPM2 := by
  obtain ⟨fd, F⟩ := T.d_law_pieces_meet
  obtain ⟨fd_law_row_meets, G_law_row_meets, b_law_row_meets⟩ := g_law_row_meets
  refine ⟨fd, F.ok sc_law_pieces_meet (fun vs H Q E h => ?_) (fun cdv A' outer s H vs Q E hr h => ?_), F.binds fun _ _ _ _ _ _ us hl => match us, hl with | [_, _], _ => rfl⟩
  · obtain ⟨g, d, qs, ds, bs, rfl, _⟩ := h
    rfl
  · obtain ⟨g, d, qs, ds, bs, rfl, hg, hd, hq, he, hl, h64, k⟩ := h
    refine ⟨_, (pss_cons (ps_if (PW.pt (pw_or (pt_not (pt_val (pe_callB call_isi (by rfl) T.n_isinstance (by decide +kernel) (pa_cons (pv 0) (pa_cons (pe_bltn (v := .ty "list") (u := .type "list") (by rfl) T.n_list (by decide +kernel) rfl) pa_nil))))) (pw_or1 (pt_cmpR op_ne (pe_callB call_len_seq (by rfl) T.n_len PySem.boot_len (pa_cons (pv 0) pa_nil)) (pe_callB call_len_seq (by rfl) T.n_len PySem.boot_len (pa_cons (pv 1) pa_nil)) (nomark _))))) (pss_one (ps_ret pe_bl)) pss_nil)
      (pss_cons (ps_for PassesOwn.never rfl (pi_range1 (by rfl) T.n_range (pa_cons (pe_callB call_len_seq (by rfl) T.n_len PySem.boot_len (pa_cons (pv 1) pa_nil)) pa_nil)) (pg_name (i := 2) sc_law_pieces_meet.nd rfl (Or.inl rfl)) (pss_cons (ps_if (PW.pt (pw_or (pt_not (pt_val (pe_callB call_isi (by rfl) T.n_isinstance (by decide +kernel) (pa_cons (pe_ix ix_list (pv 0) (pv 2) (fun _ _ => rfl)) (pa_cons (pe_bltn (v := .ty "tuple") (u := .type "tuple") (by rfl) T.n_tuple (by decide +kernel) rfl) pa_nil))))) (pw_or1 (pt_cmpR op_ne (pe_callB call_len_seq (by rfl) T.n_len PySem.boot_len (pa_cons (pe_ix ix_list (pv 0) (pv 2) (fun _ _ => rfl)) pa_nil)) pe_int (nomark _))))) (pss_one (ps_ret pe_bl)) pss_nil)
      (pss_cons (ps_if (PW.pt (pw_or (pt_not (pt_val (pe_callB call_isi (by rfl) T.n_isinstance (by decide +kernel) (pa_cons (pe_ix ix_tup (pe_ix ix_list (pv 0) (pv 2) (fun _ _ => rfl)) pe_int (fun _ _ => rfl)) (pa_cons (pe_bltn (v := .ty "str") (u := .type "str") (by rfl) T.n_str (by decide +kernel) rfl) pa_nil))))) (pw_or1 (pt_cmpR op_ne (pe_ix ix_tup (pe_ix ix_list (pv 0) (pv 2) (fun _ _ => rfl)) pe_int (fun _ _ => rfl)) (pe_ix ix_tup (pe_ix ix_list (pv 1) (pv 2) (fun _ _ => rfl)) pe_int (fun _ _ => rfl)) (nomark _))))) (pss_one (ps_ret pe_bl)) pss_nil)
      (pss_one (ps_if (PW.pt (pw_or (pt_not (pt_val (pe_callB call_isi (by rfl) T.n_isinstance (by decide +kernel) (pa_cons (pe_ix ix_tup (pe_ix ix_list (pv 0) (pv 2) (fun _ _ => rfl)) pe_int (fun _ _ => rfl)) (pa_cons (pe_bltn (v := .ty "tuple") (u := .type "tuple") (by rfl) T.n_tuple (by decide +kernel) rfl) pa_nil))))) (pw_or1 (pt_not (pt_val (pe_call G_law_row_meets (hr.mono (by decide)) (by rfl) T.g_law_row_meets T.k_law_row_meets b_law_row_meets .nil pass0 (pa_cons (pe_ix ix_tup (pe_ix ix_list (pv 0) (pv 2) (fun _ _ => rfl)) pe_int (fun _ _ => rfl)) (pa_cons (pe_ix ix_tup (pe_ix ix_list (pv 1) (pv 2) (fun _ _ => rfl)) pe_int (fun _ _ => rfl)) pa_nil)))))))) (pss_one (ps_ret pe_bl)) pss_nil)))))
      (pss_one (ps_ret pe_bl)))), ?_⟩
    refine ⟨_, rfl, _, _, _, _, true, rfl, ClsV.ty "list", TyX.base (TyOf.lst hg), kit_ty (by decide +kernel), _, rfl, ?_⟩
    refine ⟨_, rfl, g, _, rfl, Or.inl (SqL.of hg), _, rfl, d, _, rfl, Or.inl (SqL.of hd), rfl, _, rfl, ?_⟩
    rw [show (qs.map V.ref).length = (ds.map V.ref).length by rw [List.length_map, List.length_map, hq.1, he.1]]
    refine ite_b (fun c => absurd (ne_self _) (by rw [c]; decide)) (fun _ => ?_)
    refine ⟨_, rfl, d, _, rfl, Or.inl (SqL.of hd), _, rfl, (by rw [List.length_map, he.1]; omega), (by rw [List.length_map, he.1]; omega), ?_⟩
    rw [List.length_map, he.1]
    refine for_range (lo := 0) (n := bs.length) (fun i σ H' => ∃ v2, σ = [some (.ref g), some (.ref d), v2] ∧ H' = H) ⟨none, rfl, rfl⟩ ?_ ?_
    · rintro i σ G hi ⟨v2, rfl, rfl⟩
      have k0 : (0 : Int) + (i : Int) = ((i : Nat) : Int) := by omega
      have hqi : i < qs.length := by rw [hq.1]; exact hi
      have hdi : i < ds.length := by rw [he.1]; exact hi
      obtain ⟨t1, a1, a2⟩ := hq.2 i _ _ (List.getElem?_eq_getElem hqi) (List.getElem?_eq_getElem hi)
      obtain ⟨t2, b1, b2⟩ := he.2 i _ _ (List.getElem?_eq_getElem hdi) (List.getElem?_eq_getElem hi)
      have atq := at_of k0 (refAt hqi)
      have atd := at_of k0 (refAt hdi)
      have hlen := h64 _ (List.getElem_mem hi)
      refine ⟨_, rfl, _, rfl, _, _, _, _, rfl, rfl, SqL.of hg, atq, _, _, _, _, true, rfl, ClsV.ty "tuple", TyX.base (TyOf.tup a1), kit_ty (by decide +kernel), _, rfl, ?_⟩
      refine ⟨_, rfl, _, rfl, _, _, _, _, rfl, rfl, SqL.of hg, atq, _, _, rfl, Or.inr (SqT.of a1), rfl, _, rfl, ?_⟩
      refine ite_b (fun c => absurd (ne_self (V.int 2)) (by rw [show (!decide (V.int 2 = V.int 2)) = true from c]; decide)) (fun _ => ?_)
      refine ⟨_, rfl, _, rfl, _, _, _, _, rfl, rfl, SqL.of hg, atq, _, _, _, _, rfl, rfl, SqT.of a1, rfl, _, _, _, _, true, rfl, ClsV.ty "str", TyX.base (TyOf.str _), kit_ty (by decide +kernel), _, rfl, ?_⟩
      refine ⟨_, rfl, _, rfl, _, _, _, _, rfl, rfl, SqL.of hg, atq, _, _, _, _, rfl, rfl, SqT.of a1, rfl, _, rfl, _, rfl, _, _, _, _, rfl, rfl, SqL.of hd, atd, _, _, _, _, rfl, rfl, SqT.of b1, rfl, rfl, _, rfl, ?_⟩
      refine ite_b (fun c => absurd (ne_self _) (by rw [c]; decide)) (fun _ => ?_)
      refine ⟨_, rfl, _, rfl, _, _, _, _, rfl, rfl, SqL.of hg, atq, _, _, _, _, rfl, rfl, SqT.of a1, rfl, _, _, _, _, true, rfl, ClsV.ty "tuple", TyX.base (TyOf.tup a2), kit_ty (by decide +kernel), _, rfl, ?_⟩
      exact ⟨_, rfl, _, rfl, _, _, _, _, rfl, rfl, SqL.of hg, atq, _, _, _, _, rfl, rfl, SqT.of a1, rfl, _, rfl, _, rfl, _, _, _, _, rfl, rfl, SqL.of hd, atd, _, _, _, _, rfl, rfl, SqT.of b1, rfl, _, _, _, rfl, Or.inr (SqT.of a2), Or.inr (SqT.of b2), hlen, _, rfl, _, rfl, rfl⟩
    · rintro σ G ⟨v2, rfl, rfl⟩
      exact k

end

section
variable {P : Program} {w : World} {K : PySem.W.Frag} {mg : Str → Option Value} {base : Heap} {A : Ad}
def GoodF (f : List Nat) : Prop := f ≠ [] ∧ ∀ x ∈ f, x < f.length
def total (fs : List (List Nat)) : Nat := (fs.map List.length).sum
theorem total_app {fs : List (List Nat)} {f : List Nat} : total (fs ++ [f]) = total fs + f.length := by
  unfold total
  rw [List.map_append, List.sum_append]
  simp
theorem form_good {w : Nat} : GoodF (form w) := by
  refine ⟨fun z => ?_, fun x hx => ?_⟩
  · have := form_len w
    rw [z] at this
    cases this
  · obtain ⟨k, hk, e⟩ := mem_getD hx
    rw [← e]
    exact form_lt w k hk
/-- the forms drawn so far -/
structure FsAt (b : Addr) (H : Hp) (p : Addr) (qs : List Addr) (fs : List (List Nat)) : Prop where
  at_ : H p = some (.lst (qs.map V.ref))
  rows : RowsL H qs fs
  nb : ∀ q ∈ qs, q ≠ b ∧ q ≠ p
  good : ∀ f ∈ fs, GoodF f
theorem FsAt.mut {b p : Addr} {H H' : Hp} {qs : List Addr} {fs : List (List Nat)} (h : FsAt b H p qs fs) (hp : p ≠ b) (M : Mut b H H') : FsAt b H' p qs fs :=
  ⟨M _ _ hp h.at_, ⟨h.rows.1, fun i q r hq hr => M _ _ (h.nb q (List.mem_of_getElem? hq)).1 (h.rows.2 i q r hq hr)⟩, h.nb, h.good⟩
theorem FsAt.app {b p q : Addr} {H : Hp} {qs : List Addr} {fs : List (List Nat)} {f : List Nat} (h : FsAt b H p qs fs) (hq : ListN H q f) (hb : q ≠ b) (hqp : q ≠ p) (g : GoodF f) : FsAt b (upd H p (.lst (qs.map V.ref ++ [V.ref q]))) p (qs ++ [q]) (fs ++ [f]) := by
  have keep : ∀ r l, ListN H r l → r ≠ p → ListN (upd H p (.lst (qs.map V.ref ++ [V.ref q]))) r l := fun r l hl hr => by
    show upd _ _ _ _ = _
    rw [upd_ne hr]
    exact hl
  refine ⟨by rw [upd_same, List.map_append]; rfl, ⟨by rw [List.length_append, List.length_append, h.rows.1]; rfl, fun i r l hr hl => ?_⟩, fun r hr => ?_, fun l hl => ?_⟩
  · rcases Nat.lt_or_ge i qs.length with c | c
    · rw [List.getElem?_append_left c] at hr
      rw [List.getElem?_append_left (by rw [← h.rows.1]; exact c)] at hl
      exact keep r l (h.rows.2 i r l hr hl) (h.nb r (List.mem_of_getElem? hr)).2
    · rw [List.getElem?_append_right c] at hr
      rw [List.getElem?_append_right (by rw [← h.rows.1]; exact c), ← h.rows.1] at hl
      have e : i - qs.length = 0 := by
        by_cases z : i - qs.length = 0
        · exact z
        · rw [List.getElem?_eq_none (by simp; omega)] at hr
          cases hr
      rw [e] at hr hl
      cases hr
      cases hl
      exact keep q f hq hqp
  · rcases List.mem_append.mp hr with hr | hr
    · exact h.nb r hr
    · rw [List.mem_singleton.mp hr]
      exact ⟨hb, hqp⟩
  · rcases List.mem_append.mp hl with hl | hl
    · exact h.good l hl
    · rw [List.mem_singleton.mp hl]
      exact g
theorem form_le4' (w : Nat) : (form w).length ≤ 4 := by
  unfold form
  split <;> decide
def spForms : Sp := fun vs H Q _ => ∃ b : Addr, vs = [.ref b] ∧ Bag H b ∧ ∀ p qs fs H', H p = none → p ≠ b → FsAt b H' p qs fs → fs.length ≤ 5 → total fs ≤ 16 → Bag H' b → Mut b H H' → Q (.ref p) H'
theorem ok_law_forms (T : Txt K mg A)  (g_law_take : Okd P w K mg base CX0 1 A.law_take P_law_take spTake) (g_law_pattern : Okd P w K mg base CX0 1 A.law_pattern P_law_pattern spForm) : Okd P w K mg base CX0 2 A.law_forms P_law_forms spForms := by
  obtain ⟨fd, F⟩ := T.d_law_forms
  obtain ⟨fd_law_take, G_law_take, b_law_take⟩ := g_law_take
  obtain ⟨fd_law_pattern, G_law_pattern, b_law_pattern⟩ := g_law_pattern
  refine ⟨fd, F.ok sc_law_forms (fun vs H Q E h => ?_) (fun cdv A' outer s H vs Q E hr h => ?_), F.binds fun _ _ _ _ _ _ us hl => match us, hl with | [_], _ => rfl⟩
  · obtain ⟨b, rfl, _⟩ := h
    rfl
  · obtain ⟨b, rfl, B, k⟩ := h
    refine ⟨_, (pss_cons (ps_set (i := 1) sc_law_forms.nd rfl (Or.inl rfl) (pe_lst pa_nil))
      (pss_cons (ps_set (i := 2) sc_law_forms.nd rfl (Or.inl rfl) pe_int)
      (pss_cons (ps_for PassesOwn.never rfl (pi_range1 (by rfl) T.n_range (pa_cons (pe_call G_law_take (hr.mono (by decide)) (by rfl) T.g_law_take T.k_law_take b_law_take .nil pass0 (pa_cons (pv 0) (pa_cons pe_int pa_nil))) pa_nil)) (pg_name (i := 3) sc_law_forms.nd rfl (Or.inl rfl)) (pss_cons (ps_set (i := 4) sc_law_forms.nd rfl (Or.inl rfl) (pe_call G_law_take (hr.mono (by decide)) (by rfl) T.g_law_take T.k_law_take b_law_take .nil pass0 (pa_cons (pv 0) (pa_cons pe_int pa_nil))))
      (pss_cons (ps_set (i := 5) sc_law_forms.nd rfl (Or.inr rfl) (pe_op op_add pe_int (pe_call G_law_take (hr.mono (by decide)) (by rfl) T.g_law_take T.k_law_take b_law_take .nil pass0 (pa_cons (pv 0) (pa_cons pe_int pa_nil)))))
      (pss_cut (ps_if (pt_cmpR op_lt (pv 4) pe_int (nomark _)) (pss_one (ps_set (i := 6) sc_law_forms.nd rfl (Or.inl rfl) (pe_callTy call_list_of (by rfl) T.n_list (by decide +kernel) (pa_cons (pe_call G_law_pattern (hr.mono (by decide)) (by rfl) T.g_law_pattern T.k_law_pattern b_law_pattern .nil pass0 (pa_cons (pv 4) pa_nil)) pa_nil)))) (pss_one (ps_setLc (i := 6) (own := [("at", 7)]) (tt := tYes) (by rfl) sc_law_forms.nd rfl rfl (sw_true rfl rfl rfl (by decide +kernel)) (pi_range1 (by rfl) T.n_range (pa_cons (pv 5) pa_nil)) (blkOk_by (own := [("at", 7)]) (N := N_law_forms) (sc := defScope s_law_forms) (by decide +kernel)) (fun _ _ _ _ _ => (pg_name (i := 7) sc_law_forms.nd rfl (Or.inl rfl))) (fun _ _ _ _ _ => pts_nil) (fun _ _ _ _ _ => (pe_call G_law_take (hr.mono (by decide)) (by rfl) T.g_law_take T.k_law_take b_law_take .nil pass0 (pa_cons (pv 0) (pa_cons (pv 5) pa_nil)))))))
      (pss_one (ps_if (pt_cmpR op_le (pe_op op_add (pv 2) (pe_callB call_len_seq (by rfl) T.n_len PySem.boot_len (pa_cons (pv 6) pa_nil))) pe_int (nomark _)) (pss_cons (ps_expr (pe_bm PySem.F.plainAttrs_list PySem.F.slot_list_append PySem.F.type_list_append mt_append (pv 1) (pa_cons (pv 6) pa_nil)))
      (pss_one (ps_set (i := 2) sc_law_forms.nd rfl (Or.inl rfl) (pe_op op_add (pv 2) (pe_callB call_len_seq (by rfl) T.n_len PySem.boot_len (pa_cons (pv 6) pa_nil)))))) pss_nil))))))
      (pss_one (ps_ret (pv 1)))))), ?_⟩
    refine ⟨by decide, fun p hp => ?_⟩
    have npb : p ≠ b := B.ne hp
    have B1 : Bag (upd H p (.lst [])) b := B.keep fun o e => by rw [upd_ne (Ne.symm npb)]; exact e
    have M1 : Mut b H (upd H p (.lst [])) := (Mut.refl b H).new hp
    have F1 : FsAt b (upd H p (.lst [])) p [] [] := ⟨upd_same, ⟨rfl, fun i q r h => by simp at h⟩, (fun q h => nomatch h), (fun f h => nomatch h)⟩
    generalize upd H p (.lst []) = H1 at *
    refine ⟨_, rfl, b, 6, rfl, by decide, by decide, B1, fun n H2 n0 n1 B2 M2 => ?_⟩
    obtain ⟨n, rfl⟩ := Int.eq_ofNat_of_zero_le n0
    refine ⟨_, rfl, by omega, by omega, for_range (lo := 0) (n := n) (fun i σ G => ∃ (qs : List Addr) (fs : List (List Nat)) (v3 v4 v5 v6 v7 : Option V), σ = [some (.ref b), some (.ref p), some (.int (total fs : Nat)), v3, v4, v5, v6, v7] ∧ FsAt b G p qs fs ∧ fs.length ≤ i ∧ total fs ≤ 16 ∧ Bag G b ∧ Mut b H G)
      ⟨[], [], none, none, none, none, none, rfl, F1.mut npb M2, Nat.zero_le _, Nat.zero_le _, B2, M1.trans M2⟩ ?_ ?_⟩
    · rintro i σ G hi ⟨qs, fs, v3, v4, v5, v6, v7, rfl, F, hl, ht, B3, M3⟩
      refine ⟨_, rfl, b, 10, rfl, by decide, by decide, B3, fun w G1 w0 w1 B4 M4 => ?_⟩
      obtain ⟨w, rfl⟩ := Int.eq_ofNat_of_zero_le w0
      refine ⟨_, rfl, b, 4, rfl, by decide, by decide, B4, fun m G2 m0 m1 B5 M5 => ?_⟩
      obtain ⟨m, rfl⟩ := Int.eq_ofNat_of_zero_le m0
      refine ⟨_, _, rfl, rfl, ?_⟩
      have F5 := (F.mut npb M4).mut npb M5
      have M35 := (M3.trans M4).trans M5
      refine ⟨fun σ G3 => ∃ (q : Addr) (f : List Nat) (v3 v4 v5 v7 : Option V), σ = [some (.ref b), some (.ref p), some (.int (total fs : Nat)), v3, v4, v5, some (.ref q), v7] ∧ FsAt b G3 p qs fs ∧ ListN G3 q f ∧ f.length ≤ 6 ∧ GoodF f ∧ q ≠ b ∧ q ≠ p ∧ Bag G3 b ∧ Mut b H G3, ?_, ?_⟩
      · refine ⟨_, rfl, _, _, rfl, rfl, _, rfl, ?_⟩
        refine ite_b (fun c => ?_) (fun c => ?_)
        · have c := of_decide_eq_true c
          refine ⟨_, rfl, w, rfl, by omega, fun t G3 ht3 e3 h3 => ?_⟩
          refine ⟨t, _, rfl, Or.inr (SqT.of h3), fun q hq => ?_⟩
          have e4 := ex_new (o := .lst (nI (form w))) e3 hq
          have hGq := fresh_back e3 hq
          have nqb : q ≠ b := B5.ne hGq
          have nqp : q ≠ p := fun z => by rw [z, F5.at_] at hGq; cases hGq
          exact ⟨q, form w, _, _, _, _, rfl, F5.mut npb (fun a o _ h => e4 a o h), upd_same, Nat.le_trans (form_le4' w) (by decide), form_good, nqb, nqp, B5.keep fun o h => e4 _ _ h, fun a o ha h => e4 a o (M35 a o ha h)⟩
        · refine ⟨_, rfl, _, rfl, by omega, by omega, fun D hD => ?_⟩
          have nDb : D ≠ b := B5.ne hD
          have nDp : D ≠ p := fun z => by rw [z, F5.at_] at hD; cases hD
          have hDH : H D = none := M35.free nDb hD
          rw [show (3 + (m : Int)).toNat = m + 3 by omega]
          refine lc_range (lo := 0) (n := m + 3) (fun j G3 => ∃ ys : List Nat, ys.length = j ∧ (∀ y ∈ ys, y < m + 3) ∧ ListN G3 D ys ∧ FsAt b G3 p qs fs ∧ Bag G3 b ∧ Mut b H G3) ⟨[], rfl, (fun y h => nomatch h), upd_same, F5.mut npb (fun a o _ h => Ex.new hD a o h), B5.keep fun o h => Ex.new hD _ _ h, M35.new hD⟩ ?_ ?_
          · rintro j G3 hj ⟨ys, ly, hy, hD3, F6, B6, M6⟩
            refine ⟨rfl, _, rfl, _, rfl, b, _, rfl, by omega, by omega, B6, fun d G4 d0 d1 B7 M7 => ?_⟩
            obtain ⟨d, rfl⟩ := Int.eq_ofNat_of_zero_le d0
            refine ⟨_, M7 _ _ nDb hD3, small1000 (by rw [nI_len]; omega), ys ++ [d], by rw [List.length_append, ly]; rfl, fun y hy2 => ?_, ?_, ?_, B7.keep fun o h => by rw [upd_ne (Ne.symm nDb)]; exact h, fun a o ha h => ?_⟩
            · rcases List.mem_append.mp hy2 with h | h
              · exact hy y h
              · rw [List.mem_singleton.mp h]
                omega
            · show upd G4 D _ D = _
              rw [upd_same, nI_app]
            · have F8 := F6.mut npb M7
              refine ⟨by rw [upd_ne (Ne.symm nDp)]; exact F8.at_, ⟨F8.rows.1, fun i q r hq hr => ?_⟩, F8.nb, F8.good⟩
              have h8 := F8.rows.2 i q r hq hr
              have nqD : q ≠ D := fun z => by
                have h5 := F5.rows.2 i q r hq hr
                rw [z] at h5
                rw [show G2 D = _ from h5] at hD
                cases hD
              show upd _ _ _ _ = _
              rw [upd_ne nqD]
              exact h8
            · rw [upd_ne (ne_of_none h hDH)]
              exact M7 _ _ ha (M6 _ _ ha h)
          · rintro G3 ⟨ys, ly, hy, hD3, F6, B6, M6⟩
            refine ⟨D, ys, _, _, _, _, rfl, F6, hD3, by omega, ⟨fun z => ?_, fun x hx => by rw [ly]; exact hy x hx⟩, nDb, nDp, B6, M6⟩
            rw [z] at ly
            cases ly
      · rintro σ G3 ⟨q, f, w3, w4, w5, w7, rfl, F6, hq, hf6, hg, nqb, nqp, B6, M6⟩
        refine ⟨_, rfl, _, rfl, q, _, rfl, Or.inl hq.sz, _, _, rfl, rfl, _, _, rfl, rfl, _, rfl, ?_⟩
        rw [nI_len]
        refine ite_b (fun c => ?_) (fun c => ?_)
        · have c := of_decide_eq_true c
          refine ⟨_, rfl, Or.inl ⟨rfl, _, SqL.of F6.at_⟩, _, rfl, _, _, _, rfl, rfl, F6.at_, small1000 (by rw [List.length_map, F6.rows.1]; omega), ?_⟩
          have F7 := F6.app hq nqb nqp hg
          have hq7 : ListN (upd G3 p (.lst (qs.map V.ref ++ [V.ref q]))) q f := by
            show upd _ _ _ _ = _
            rw [upd_ne nqp]
            exact hq
          refine ⟨_, rfl, _, rfl, q, _, rfl, Or.inl hq7.sz, _, _, rfl, rfl, ?_⟩
          rw [nI_len]
          have ht2 : ((total fs : Nat) : Int) + (f.length : Nat) = ((total (fs ++ [f]) : Nat) : Int) := by rw [total_app]; omega
          refine ⟨qs ++ [q], fs ++ [f], w3, w4, w5, some (.ref q), w7, by rw [← ht2]; rfl, F7, by rw [List.length_append]; show fs.length + 1 ≤ _; omega, by rw [total_app]; omega, B6.keep fun o h => by rw [upd_ne (Ne.symm npb)]; exact h, fun a o ha h => ?_⟩
          rw [upd_ne (ne_of_none h hp)]
          exact M6 _ _ ha h
        · exact ⟨qs, fs, _, _, _, _, _, rfl, F6, by omega, ht, B6, M6⟩
    · rintro σ G ⟨qs, fs, v3, v4, v5, v6, v7, rfl, F, hl, ht, B3, M3⟩
      exact ⟨_, rfl, k p qs fs G hp npb F (by omega) ht B3 M3⟩

end

section
variable {P : Program} {w : World} {K : PySem.W.Frag} {mg : Str → Option Value} {base : Heap} {A : Ad}
theorem sum_nat : ∀ xs : List Nat, (xs.map fun x : Nat => (x : Int)).sum = ((xs.sum : Nat) : Int)
  | [] => rfl
  | x :: xs => by
    rw [List.map_cons, List.sum_cons, List.sum_cons, sum_nat xs, Int.natCast_add]
theorem total_take {fs : List (List Nat)} {i : Nat} {f : List Nat} (h : fs[i]? = some f) : total (fs.take (i + 1)) = total (fs.take i) + f.length := by
  rw [List.take_add_one, h]
  exact total_app
theorem total_le (fs : List (List Nat)) (i : Nat) : total (fs.take i) ≤ total fs := by
  have h : total fs = total (fs.take i) + total (fs.drop i) := by
    unfold total
    rw [← List.sum_append, ← List.map_append, List.take_append_drop]
  omega
def spBuilt : Sp := fun vs H Q _ => ∃ b : Addr, vs = [.ref b] ∧ Bag H b ∧ ∀ p (ys : List Nat) H', H p = none → p ≠ b → ListN H' p ys → ys.length ≤ 16 → Bag H' b → Mut b H H' → Q (.ref p) H'
theorem ok_law_built (T : Txt K mg A)  (g_law_forms : Okd P w K mg base CX0 2 A.law_forms P_law_forms spForms) (g_law_order : Okd P w K mg base CX0 3 A.law_order P_law_order spPerm) (g_law_take : Okd P w K mg base CX0 1 A.law_take P_law_take spTake) : Okd P w K mg base CX0 4 A.law_built P_law_built spBuilt := by
  obtain ⟨fd, F⟩ := T.d_law_built
  obtain ⟨fd_law_forms, G_law_forms, b_law_forms⟩ := g_law_forms
  obtain ⟨fd_law_order, G_law_order, b_law_order⟩ := g_law_order
  obtain ⟨fd_law_take, G_law_take, b_law_take⟩ := g_law_take
  refine ⟨fd, F.ok sc_law_built (fun vs H Q E h => ?_) (fun cdv A' outer s H vs Q E hr h => ?_), F.binds fun _ _ _ _ _ _ us hl => match us, hl with | [_], _ => rfl⟩
  · obtain ⟨b, rfl, _⟩ := h
    rfl
  · obtain ⟨b, rfl, B, k⟩ := h
    refine ⟨_, (pss_cons (ps_set (i := 1) sc_law_built.nd rfl (Or.inl rfl) (pe_call G_law_forms (hr.mono (by decide)) (by rfl) T.g_law_forms T.k_law_forms b_law_forms .nil pass0 (pa_cons (pv 0) pa_nil)))
      (pss_cons (ps_set (i := 2) sc_law_built.nd rfl (Or.inl rfl) (pe_call G_law_order (hr.mono (by decide)) (by rfl) T.g_law_order T.k_law_order b_law_order .nil pass0 (pa_cons (pv 0) (pa_cons (pe_callB (cr_sum (by rfl)) (by rfl) T.n_sum (by decide +kernel) (pa_cons (pe_lc (own := [("form", 5)]) (tt := tYes) (by rfl) sc_law_built.nd (pi_list (pv 1)) (blkOk_by (own := [("form", 5)]) (N := N_law_built) (sc := defScope s_law_built) (by decide +kernel)) (fun _ _ _ _ _ => (pg_name (i := 5) sc_law_built.nd rfl (Or.inl rfl))) (fun _ _ _ _ _ => pts_nil) (fun _ _ _ _ _ => (pe_callB (call_lenK (K := K) rfl) (by rfl) T.n_len PySem.boot_len (pa_cons (pv 5) pa_nil)))) pa_nil)) pa_nil))))
      (pss_cons (ps_set (i := 3) sc_law_built.nd rfl (Or.inl rfl) (pe_op op_rep (pe_lst (pa_cons pe_int pa_nil)) (pe_callB call_len_seq (by rfl) T.n_len PySem.boot_len (pa_cons (pv 2) pa_nil))))
      (pss_cons (ps_set (i := 4) sc_law_built.nd rfl (Or.inl rfl) pe_int)
      (pss_cons (ps_for PassesOwn.never rfl (pi_list (pv 1)) (pg_name (i := 5) sc_law_built.nd rfl (Or.inl rfl)) (pss_cons (ps_for PassesOwn.never rfl (pi_range1 (by rfl) T.n_range (pa_cons (pe_callB call_len_seq (by rfl) T.n_len PySem.boot_len (pa_cons (pv 5) pa_nil)) pa_nil)) (pg_name (i := 6) sc_law_built.nd rfl (Or.inl rfl)) (pss_one (ps_asg (pe_ix ix_list (pv 2) (pe_op op_add (pv 4) (pe_ix ix_list (pv 5) (pv 6) (fun _ _ => rfl))) (fun _ _ => rfl)) (pg_sub (pv 3) (pe_ix ix_list (pv 2) (pe_op op_add (pv 4) (pv 6)) (fun _ _ => rfl)) set_list))))
      (pss_one (ps_set (i := 4) sc_law_built.nd rfl (Or.inl rfl) (pe_op op_add (pv 4) (pe_callB call_len_seq (by rfl) T.n_len PySem.boot_len (pa_cons (pv 5) pa_nil)))))))
      (pss_cut (ps_if (PW.pt (pw_and (pt_cmpR op_eq (pe_call G_law_take (hr.mono (by decide)) (by rfl) T.g_law_take T.k_law_take b_law_take .nil pass0 (pa_cons (pv 0) (pa_cons pe_int pa_nil))) pe_int (nomark _)) (pw_and1 (pt_cmpR op_gt (pe_callB call_len_seq (by rfl) T.n_len PySem.boot_len (pa_cons (pv 3) pa_nil)) pe_int (nomark _))))) (pss_cons (ps_set (i := 7) sc_law_built.nd rfl (Or.inl rfl) (pe_call G_law_take (hr.mono (by decide)) (by rfl) T.g_law_take T.k_law_take b_law_take .nil pass0 (pa_cons (pv 0) (pa_cons (pe_callB call_len_seq (by rfl) T.n_len PySem.boot_len (pa_cons (pv 3) pa_nil)) pa_nil))))
      (pss_one (ps_asg (pe_call G_law_take (hr.mono (by decide)) (by rfl) T.g_law_take T.k_law_take b_law_take .nil pass0 (pa_cons (pv 0) (pa_cons (pe_callB call_len_seq (by rfl) T.n_len PySem.boot_len (pa_cons (pv 3) pa_nil)) pa_nil))) (pg_sub (pv 3) (pv 7) set_list)))) pss_nil)
      (pss_one (ps_ret (pv 3))))))))), ?_⟩
    refine ⟨_, rfl, b, rfl, B, fun p qs fs H1 hp npb F hl ht B1 M1 => ?_⟩
    have hql := F.rows.1
    refine ⟨_, rfl, _, rfl, p, rfl, ⟨_, SqL.of F.at_⟩, fun D hD => lc_list (K := K) (a := p) (xs := qs.map V.ref) (fun j G => Ex H1 G ∧ ListN G D ((fs.map List.length).take j)) ⟨Ex.new hD, upd_same⟩ (fun j G _ q => SqL.of (q.1 p _ F.at_)) ?_ ?_⟩
    · rintro j y G hj ⟨e, hd⟩
      rw [List.getElem?_map] at hj
      cases hqj : qs[j]? with
      | none => rw [hqj] at hj; cases hj
      | some q =>
      rw [hqj] at hj
      injection hj with hj
      subst hj
      have hjl : j < fs.length := by rw [← hql]; exact (List.getElem?_eq_some_iff.mp hqj).1
      have hfj : fs[j]? = some fs[j] := List.getElem?_eq_getElem hjl
      have hq := (F.rows.2 j q _ hqj hfj).ex e
      refine ⟨rfl, _, rfl, q, _, rfl, Or.inl hq.sz, ?_⟩
      refine ⟨_, hd, small1000 (by rw [nI_len, List.length_take, List.length_map]; omega), ?_⟩
      rw [nI_len]
      have hm : (fs.map List.length).take (j + 1) = (fs.map List.length).take j ++ [fs[j].length] := by
        rw [List.take_add_one, List.getElem?_map, hfj]
        rfl
      rw [hm]
      exact acc_step hD e
    rintro G ⟨e, hd⟩
    rw [List.length_map, hql, List.take_of_length_le (by rw [List.length_map]; exact Nat.le_refl _)] at hd
    have hd' : G D = some (.lst (((fs.map List.length).map fun x : Nat => (x : Int)).map V.int)) := by
      rw [List.map_map]
      exact hd
    have BG := B1.keep fun o h => e _ _ h
    refine ⟨D, _, rfl, SqL.of hd', ?_⟩
    rw [sum_nat]
    have htot : (fs.map List.length).sum = total fs := rfl
    rw [htot]
    refine ⟨b, total fs, rfl, by omega, BG, fun o ms H2 ho nob hpm hms B2 M2 => ?_⟩
    have FG : FsAt b G p qs fs := F.mut npb fun a u _ h => e a u h
    have F2 := FG.mut npb M2
    have MH : Mut b H H2 := fun a u ha h => M2 a u ha (e a u (M1 a u ha h))
    have hml : ms.length = total fs := by rw [hpm.length_eq, List.length_range]
    have hmlt : ∀ x ∈ ms, x < total fs := fun x hx => List.mem_range.mp (hpm.mem_iff.mp hx)
    refine ⟨by decide, fun z hz => ?_⟩
    have o1 : ListN (upd H2 z (.lst [V.int 0])) o ms := hms.ex (Ex.new hz)
    refine ⟨_, rfl, o, _, rfl, Or.inl o1.sz, ?_⟩
    rw [nI_len, hml]
    refine ⟨z, _, _, rfl, rfl, upd_same, by omega, by omega, (by show 1 * _ ≤ sizeLine; rw [Nat.one_mul, Int.toNat_natCast]; exact Nat.le_of_lt (small1000 (by omega))), fun s hs => ?_⟩
    have hrep : (List.replicate ((total fs : Nat) : Int).toNat [V.int 0]).flatten = nI (List.replicate (total fs) 0) := by
      rw [Int.toNat_natCast]
      generalize total fs = t
      induction t with
      | zero => rfl
      | succ t ih =>
        rw [List.replicate_succ, List.replicate_succ, List.flatten_cons, ih]
        rfl
    rw [hrep]
    have ez : Ex H2 (upd H2 z (.lst [V.int 0])) := Ex.new hz
    have nos : o ≠ s := ne_of_none o1 hs
    have es := ex_new (o := .lst (nI (List.replicate (total fs) 0))) ez hs
    have o2 := hms.ex es
    have s2 : ListN (upd (upd H2 z (.lst [V.int 0])) s (.lst (nI (List.replicate (total fs) 0)))) s (List.replicate (total fs) 0) := upd_same
    have F3 : FsAt b _ p qs fs := F2.mut npb fun a u _ h => es a u h
    have B3 := B2.keep fun u h => es _ _ h
    have hs2 : H2 s = none := fresh_back ez hs
    have nsb : s ≠ b := B2.ne hs2
    have nsp : s ≠ p := fun w => by rw [w, F2.at_] at hs2; cases hs2
    have nsq : ∀ q ∈ qs, q ≠ s := fun q hq w => by
      obtain ⟨i, hi, he⟩ := List.getElem_of_mem hq
      have h1 := F2.rows.2 i q fs[i] (by rw [List.getElem?_eq_getElem hi, he]) (List.getElem?_eq_getElem (by rw [← hql]; exact hi))
      rw [w] at h1
      rw [show H2 s = _ from h1] at hs2
      cases hs2
    have hsH : H s = none := MH.free nsb hs2
    generalize upd (upd H2 z (.lst [V.int 0])) s (.lst (nI (List.replicate (total fs) 0))) = H3 at *
    have M3 : Mut b H H3 := fun a u ha h => es a u (MH a u ha h)
    refine ⟨_, rfl, p, rfl, ⟨_, SqL.of F3.at_⟩, for_list (K := K) (a := p) (xs := qs.map V.ref) (fun i σ G => ∃ (ys : List Nat) (v5 v6 v7 : Option V), σ = [some (.ref b), some (.ref p), some (.ref o), some (.ref s), some (.int (total (fs.take i) : Nat)), v5, v6, v7] ∧ ListN G s ys ∧ ys.length = total fs ∧ Mut s H3 G)
      ⟨List.replicate (total fs) 0, none, none, none, rfl, s2, List.length_replicate, Mut.refl s H3⟩ (fun i σ G _ ⟨_, _, _, _, _, _, _, M⟩ => SqL.of (M p _ (Ne.symm nsp) F3.at_)) ?_ ?_⟩
    · rintro i x σ G hi ⟨ys, v5, v6, v7, rfl, hy, hyl, M⟩
      rw [List.getElem?_map] at hi
      cases hqi : qs[i]? with
      | none => rw [hqi] at hi; cases hi
      | some q =>
      rw [hqi] at hi
      injection hi with hi
      subst hi
      have hil : i < fs.length := by rw [← hql]; exact (List.getElem?_eq_some_iff.mp hqi).1
      have hfi : fs[i]? = some fs[i] := List.getElem?_eq_getElem hil
      have hq3 := F3.rows.2 i q _ hqi hfi
      have nq := nsq q (List.mem_of_getElem? hqi)
      have hgood := F.good _ (List.getElem_mem hil)
      have htk := total_take hfi
      have hle := total_le fs (i + 1)
      generalize fs[i] = f at *
      generalize htt : total (fs.take i) = u at *
      have hqG : ListN G q f := M _ _ nq hq3
      refine ⟨_, rfl, q, _, rfl, Or.inl hqG.sz, _, rfl, by rw [nI_len]; omega, by rw [nI_len]; omega, ?_⟩
      rw [nI_len]
      refine for_range (lo := 0) (n := f.length) (fun j σ G2 => ∃ (ys : List Nat) (v6 v7 : Option V), σ = [some (.ref b), some (.ref p), some (.ref o), some (.ref s), some (.int (u : Nat)), some (.ref q), v6, v7] ∧ ListN G2 s ys ∧ ys.length = total fs ∧ Mut s H3 G2) ⟨ys, v6, v7, rfl, hy, hyl, M⟩ ?_ ?_
      · rintro j σ G2 hj ⟨ys, v6, v7, rfl, hy, hyl, M⟩
        have k0 : (0 : Int) + (j : Int) = ((j : Nat) : Int) := by omega
        have hq2 : ListN G2 q f := M _ _ nq hq3
        have ho2 : ListN G2 o ms := M _ _ nos o2
        have hfj : f.getD j 0 < f.length := hgood.2 _ (getD_mem hj)
        have i1 : ((u : Nat) : Int) + ((f.getD j 0 : Nat) : Int) = ((u + f.getD j 0 : Nat) : Int) := by omega
        have i2 : ((u : Nat) : Int) + (0 + (j : Int)) = ((u + j : Nat) : Int) := by omega
        refine ⟨_, rfl, _, rfl, _, rfl, _, rfl, _, _, _, _, rfl, rfl, hq2.sz, at_of k0 (ixN_ hj), _, _, rfl, rfl, _, _, _, _, rfl, rfl, ho2.sz, at_of i1 (ixN_ (by omega)), ?_⟩
        refine ⟨_, rfl, _, rfl, _, rfl, _, rfl, _, _, rfl, rfl, _, _, _, _, rfl, rfl, ho2.sz, at_of i2 (ixN_ (by omega)), ?_⟩
        have hlt : ms.getD (u + j) 0 < ys.length := by rw [hyl]; exact hmlt _ (getD_mem (by omega))
        refine ⟨s, _, _, ms.getD (u + j) 0, rfl, rfl, hy, Evl.ixN_nat (by rw [nI_len]; exact hlt), ?_⟩
        refine ⟨ys.set (ms.getD (u + j) 0) (ms.getD (u + f.getD j 0) 0), _, _, rfl, ?_, by rw [List.length_set]; exact hyl, M.upd⟩
        show upd G2 s _ s = _
        rw [upd_same]
        exact congrArg (fun w => some (HO.lst w)) List.map_set.symm
      · rintro σ G2 ⟨ys, v6, v7, rfl, hy, hyl, M⟩
        have hq2 : ListN G2 q f := M _ _ nq hq3
        refine ⟨_, rfl, _, rfl, q, _, rfl, Or.inl hq2.sz, _, _, rfl, rfl, ?_⟩
        rw [nI_len]
        have e9 : ((u : Nat) : Int) + ((f.length : Nat) : Int) = ((total (fs.take (i + 1)) : Nat) : Int) := by omega
        exact ⟨ys, _, _, _, by rw [← e9]; rfl, hy, hyl, M⟩
    · rintro σ G ⟨ys, v5, v6, v7, rfl, hy, hyl, M⟩
      have BG : Bag G b := B3.keep fun u h => M _ _ (Ne.symm nsb) h
      have MG : Mut b H G := fun a u ha h => M a u (ne_of_none h hsH) (M3 a u ha h)
      generalize total (fs.take (qs.map V.ref).length) = w4
      refine ⟨fun σ G => ∃ (ys : List Nat) (v4 v5 v6 v7 : Option V), σ = [some (.ref b), some (.ref p), some (.ref o), some (.ref s), v4, v5, v6, v7] ∧ ListN G s ys ∧ ys.length = total fs ∧ Bag G b ∧ Mut b H G, ?_, ?_⟩
      · refine ⟨_, rfl, b, 3, rfl, by decide, by decide, BG, fun d G1 d0 d1 B5 M5 => ?_⟩
        have hy5 : ListN G1 s ys := M5 _ _ nsb hy
        refine ⟨rfl, _, rfl, ?_⟩
        refine ite_b (fun c => ?_) (fun c => ?_)
        · refine ⟨_, rfl, s, _, rfl, Or.inl hy5.sz, _, _, rfl, rfl, _, rfl, ?_⟩
          rw [nI_len]
          refine ite_b (fun c2 => ?_) (fun c2 => ?_)
          · have c2 : (0 : Int) < (ys.length : Int) := of_decide_eq_true c2
            refine ⟨_, rfl, _, rfl, s, _, rfl, Or.inl hy5.sz, ?_⟩
            rw [nI_len]
            refine ⟨b, _, rfl, by omega, by omega, B5, fun t G2 t0 t1 B6 M6 => ?_⟩
            obtain ⟨t, rfl⟩ := Int.eq_ofNat_of_zero_le t0
            have hy6 : ListN G2 s ys := M6 _ _ nsb hy5
            refine ⟨_, rfl, _, rfl, s, _, rfl, Or.inl hy6.sz, ?_⟩
            rw [nI_len]
            refine ⟨b, _, rfl, by omega, by omega, B6, fun r G3 r0 r1 B7 M7 => ?_⟩
            obtain ⟨r, rfl⟩ := Int.eq_ofNat_of_zero_le r0
            have hy7 : ListN G3 s ys := M7 _ _ nsb hy6
            refine ⟨_, rfl, _, rfl, s, _, _, t, rfl, rfl, hy7, Evl.ixN_nat (by rw [nI_len]; omega), ?_⟩
            refine ⟨ys.set t r, _, _, _, _, rfl, ?_, by rw [List.length_set]; exact hyl, B7.keep fun u h => by rw [upd_ne (Ne.symm nsb)]; exact h, fun a u ha h => ?_⟩
            · show upd G3 s _ s = _
              rw [upd_same]
              exact congrArg (fun w => some (HO.lst w)) List.map_set.symm
            · rw [upd_ne (ne_of_none h hsH)]
              exact M7 _ _ ha (M6 _ _ ha (M5 _ _ ha (MG _ _ ha h)))
          · exact ⟨ys, _, _, _, _, rfl, hy5, hyl, B5, MG.trans M5⟩
        · exact ⟨ys, _, _, _, _, rfl, hy5, hyl, B5, MG.trans M5⟩
      · rintro σ G ⟨ys, v4, v5, v6, v7, rfl, hy, hyl, BG, MG⟩
        exact ⟨_, rfl, k s ys G hsH nsb hy (by omega) BG MG⟩

end

section
variable {P : Program} {w : World} {K : PySem.W.Frag} {mg : Str → Option Value} {base : Heap} {A : Ad}
def spDrawn2 : Sp := fun vs H Q _ => ∃ b : Addr, vs = [.ref b] ∧ Bag H b ∧ ∀ p (xs : List Int) H', H p = none → p ≠ b → H' p = some (.lst (xs.map V.int)) → xs.length ≤ 16 → Bag H' b → Mut b H H' → Q (.ref p) H'
theorem set_ints {xs : List Int} {t : Nat} {v : Int} : (xs.map V.int).set t (V.int v) = (xs.set t v).map V.int := List.map_set.symm
theorem ok_law_drawn (T : Txt K mg A)  (g_law_built : Okd P w K mg base CX0 4 A.law_built P_law_built spBuilt) (g_law_take : Okd P w K mg base CX0 1 A.law_take P_law_take spTake) : Okd P w K mg base CX0 5 A.law_drawn P_law_drawn spDrawn2 := by
  obtain ⟨fd, F⟩ := T.d_law_drawn
  obtain ⟨fd_law_built, G_law_built, b_law_built⟩ := g_law_built
  obtain ⟨fd_law_take, G_law_take, b_law_take⟩ := g_law_take
  refine ⟨fd, F.ok sc_law_drawn (fun vs H Q E h => ?_) (fun cdv A' outer s H vs Q E hr h => ?_), F.binds fun _ _ _ _ _ _ us hl => match us, hl with | [_], _ => rfl⟩
  · obtain ⟨b, rfl, _⟩ := h
    rfl
  · obtain ⟨b, rfl, B, k⟩ := h
    refine ⟨_, (pss_cons (ps_set (i := 1) sc_law_drawn.nd rfl (Or.inl rfl) (pe_call G_law_take (hr.mono (by decide)) (by rfl) T.g_law_take T.k_law_take b_law_take .nil pass0 (pa_cons (pv 0) (pa_cons pe_int pa_nil))))
      (pss_cut (ps_if (pt_cmpR op_eq (pe_call G_law_take (hr.mono (by decide)) (by rfl) T.g_law_take T.k_law_take b_law_take .nil pass0 (pa_cons (pv 0) (pa_cons pe_int pa_nil))) pe_int (nomark _)) (pss_cons (ps_set (i := 2) sc_law_drawn.nd rfl (Or.inr rfl) (pe_call G_law_take (hr.mono (by decide)) (by rfl) T.g_law_take T.k_law_take b_law_take .nil pass0 (pa_cons (pv 0) (pa_cons pe_int pa_nil))))
      (pss_one (ps_setLc (i := 3) (own := [("k", 6)]) (tt := tYes) (by rfl) sc_law_drawn.nd rfl rfl (sw_true rfl rfl rfl (by decide +kernel)) (pi_range1 (by rfl) T.n_range (pa_cons (pv 2) pa_nil)) (blkOk_by (own := [("k", 6)]) (N := N_law_drawn) (sc := defScope s_law_drawn) (by decide +kernel)) (fun _ _ _ _ _ => (pg_name (i := 6) sc_law_drawn.nd rfl (Or.inl rfl))) (fun _ _ _ _ _ => pts_nil) (fun _ _ _ _ _ => (pe_call G_law_take (hr.mono (by decide)) (by rfl) T.g_law_take T.k_law_take b_law_take .nil pass0 (pa_cons (pv 0) (pa_cons (pv 2) pa_nil))))))) (pss_one (ps_set (i := 3) sc_law_drawn.nd rfl (Or.inl rfl) (pe_call G_law_built (hr.mono (by decide)) (by rfl) T.g_law_built T.k_law_built b_law_built .nil pass0 (pa_cons (pv 0) pa_nil)))))
      (pss_cut (ps_if (PW.pt (pw_and (pt_cmpR op_eq (pv 1) pe_int (nomark _)) (pw_and1 (pt_cmpR op_gt (pe_callB call_len_seq (by rfl) T.n_len PySem.boot_len (pa_cons (pv 3) pa_nil)) pe_int (nomark _))))) (pss_cons (ps_set (i := 4) sc_law_drawn.nd rfl (Or.inl rfl) (pe_call G_law_take (hr.mono (by decide)) (by rfl) T.g_law_take T.k_law_take b_law_take .nil pass0 (pa_cons (pv 0) (pa_cons (pe_callB call_len_seq (by rfl) T.n_len PySem.boot_len (pa_cons (pv 3) pa_nil)) pa_nil))))
      (pss_cons (ps_set (i := 5) sc_law_drawn.nd rfl (Or.inl rfl) (pe_call G_law_take (hr.mono (by decide)) (by rfl) T.g_law_take T.k_law_take b_law_take .nil pass0 (pa_cons (pv 0) (pa_cons (pe_op op_mul pe_int (pe_callB call_len_seq (by rfl) T.n_len PySem.boot_len (pa_cons (pv 3) pa_nil))) pa_nil))))
      (pss_cut (ps_if (pt_cmpR op_eq (pe_call G_law_take (hr.mono (by decide)) (by rfl) T.g_law_take T.k_law_take b_law_take .nil pass0 (pa_cons (pv 0) (pa_cons pe_int pa_nil))) pe_int (nomark _)) (pss_one (ps_set (i := 5) sc_law_drawn.nd rfl (Or.inl rfl) (pe_call G_law_take (hr.mono (by decide)) (by rfl) T.g_law_take T.k_law_take b_law_take .nil pass0 (pa_cons (pv 0) (pa_cons (pe_op op_pow pe_int pe_int) pa_nil))))) pss_nil)
      (pss_cons (ps_asg (pe_op op_add (pe_callB call_len_seq (by rfl) T.n_len PySem.boot_len (pa_cons (pv 3) pa_nil)) (pv 5)) (pg_sub (pv 3) (pv 4) set_list))
      (pss_one (ps_if (pt_cmpR op_eq (pe_call G_law_take (hr.mono (by decide)) (by rfl) T.g_law_take T.k_law_take b_law_take .nil pass0 (pa_cons (pv 0) (pa_cons pe_int pa_nil))) pe_int (nomark _)) (pss_one (ps_asg (pe_op op_sub (pe_un un_neg pe_int) (pv 5)) (pg_sub (pv 3) (pv 4) set_list))) pss_nil)))))) pss_nil)
      (pss_one (ps_ret (pv 3)))))), ?_⟩
    refine ⟨_, rfl, b, 8, rfl, by decide, by decide, B, fun sp H1 sp0 sp1 B1 M1 => ?_⟩
    refine ⟨fun σ G => ∃ (p : Addr) (xs : List Int) (v2 v4 v5 v6 : Option V), σ = [some (.ref b), some (.int sp), v2, some (.ref p), v4, v5, v6] ∧ G p = some (.lst (xs.map V.int)) ∧ xs.length ≤ 16 ∧ H p = none ∧ p ≠ b ∧ Bag G b ∧ Mut b H G, ?_, ?_⟩
    · refine ⟨_, rfl, b, 2, rfl, by decide, by decide, B1, fun d G1 d0 d1 B2 M2 => ?_⟩
      refine ⟨rfl, _, rfl, ?_⟩
      refine ite_b (fun c => ?_) (fun c => ?_)
      · refine ⟨_, rfl, b, 10, rfl, by decide, by decide, B2, fun n G2 n0 n1 B3 M3 => ?_⟩
        obtain ⟨n, rfl⟩ := Int.eq_ofNat_of_zero_le n0
        have M13 := (M1.trans M2).trans M3
        refine ⟨_, rfl, _, rfl, by omega, by omega, fun D hD => lc_range (lo := 0) (n := n) (fun j G => ∃ xs : List Int, xs.length = j ∧ G D = some (.lst (xs.map V.int)) ∧ Bag G b ∧ Mut b G2 G) ⟨[], rfl, upd_same, B3.keep fun u h => Ex.new hD _ _ h, (Mut.refl b G2).new hD⟩ ?_ ?_⟩
        · rintro j G hj ⟨xs, hl, hx, BG, MG⟩
          have nDb : D ≠ b := B3.ne hD
          refine ⟨rfl, _, rfl, _, rfl, b, _, rfl, by omega, by omega, BG, fun v G3 v0 v1 B4 M4 => ?_⟩
          refine ⟨_, M4 _ _ nDb hx, small1000 (by rw [List.length_map]; omega), xs ++ [v], by rw [List.length_append, hl]; rfl, by rw [upd_same, List.map_append]; rfl, B4.keep fun u h => by rw [upd_ne (Ne.symm nDb)]; exact h, fun a u ha h => ?_⟩
          rw [upd_ne (ne_of_none h hD)]
          exact M4 _ _ ha (MG _ _ ha h)
        · rintro G ⟨xs, hl, hx, BG, MG⟩
          exact ⟨D, xs, _, _, _, _, rfl, hx, by omega, M13.free (B3.ne hD) hD, B3.ne hD, BG, M13.trans MG⟩
      · refine ⟨_, rfl, b, rfl, B2, fun p ys G2 hp npb hy hyl B3 M3 => ?_⟩
        have hy2 : G2 p = some (.lst ((ys.map fun x : Nat => (x : Int)).map V.int)) := by
          rw [List.map_map]
          exact hy
        exact ⟨p, _, _, _, _, _, rfl, hy2, by rw [List.length_map]; exact hyl, (M1.trans M2).free npb hp, npb, B3, (M1.trans M2).trans M3⟩
    · rintro σ G ⟨p, xs, v2, v4, v5, v6, rfl, hx, hl, hp, npb, BG, MG⟩
      refine ⟨fun σ G => ∃ (xs : List Int) (v2 v4 v5 v6 : Option V), σ = [some (.ref b), some (.int sp), v2, some (.ref p), v4, v5, v6] ∧ G p = some (.lst (xs.map V.int)) ∧ xs.length ≤ 16 ∧ Bag G b ∧ Mut b H G, ?_, ?_⟩
      · refine ⟨_, rfl, rfl, _, rfl, ?_⟩
        refine ite_b (fun c => ?_) (fun c => ?_)
        · refine ⟨_, rfl, p, _, rfl, Or.inl (SqL.of hx), _, _, rfl, rfl, _, rfl, ?_⟩
          rw [List.length_map]
          refine ite_b (fun c2 => ?_) (fun c2 => ?_)
          · have c2 : (0 : Int) < (xs.length : Int) := of_decide_eq_true c2
            refine ⟨_, rfl, _, rfl, p, _, rfl, Or.inl (SqL.of hx), ?_⟩
            rw [List.length_map]
            refine ⟨b, _, rfl, by omega, by omega, BG, fun t G2 t0 t1 B2 M2 => ?_⟩
            obtain ⟨t, rfl⟩ := Int.eq_ofNat_of_zero_le t0
            have hx2 := M2 _ _ npb hx
            refine ⟨_, rfl, _, rfl, p, _, rfl, Or.inl (SqL.of hx2), ?_⟩
            rw [List.length_map]
            refine ⟨_, _, rfl, rfl, Or.inl ⟨by decide, by decide⟩, b, _, rfl, by omega, by omega, B2, fun f G3 f0 f1 B3 M3 => ?_⟩
            have hx3 := M3 _ _ npb hx2
            have M23 := (MG.trans M2).trans M3
            refine ⟨fun σ G4 => ∃ (f : Int) (v6 : Option V), σ = [some (.ref b), some (.int sp), v2, some (.ref p), some (.int (t : Nat)), some (.int f), v6] ∧ G4 p = some (.lst (xs.map V.int)) ∧ Bag G4 b ∧ Mut b H G4, ?_, ?_⟩
            · refine ⟨_, rfl, b, 3, rfl, by decide, by decide, B3, fun d G4 d0 d1 B4 M4 => ?_⟩
              refine ⟨rfl, _, rfl, ?_⟩
              refine ite_b (fun c => ?_) (fun c => ?_)
              · refine ⟨_, rfl, _, _, rfl, rfl, ⟨by decide, by decide, by decide⟩, b, _, rfl, by decide, by decide, B4, fun f G5 f0 f1 B5 M5 => ?_⟩
                exact ⟨f, _, rfl, M5 _ _ npb (M4 _ _ npb hx3), B5, (M23.trans M4).trans M5⟩
              · exact ⟨f, _, rfl, M4 _ _ npb hx3, B4, M23.trans M4⟩
            · rintro σ G4 ⟨f, v6, rfl, hx4, B4, M4⟩
              have tlt : t < (xs.map V.int).length := by rw [List.length_map]; omega
              refine ⟨_, rfl, p, _, rfl, Or.inl (SqL.of hx4), _, rfl, _, _, rfl, rfl, ?_⟩
              refine ⟨_, rfl, _, rfl, p, _, _, t, rfl, rfl, hx4, Evl.ixN_nat tlt, ?_⟩
              rw [set_ints]
              have nset : ∀ v : Int, (xs.set t v).length = xs.length := fun v => List.length_set
              have B5 : ∀ o, Bag (upd G4 p o) b := fun o => B4.keep fun u h => by rw [upd_ne (Ne.symm npb)]; exact h
              have M5 : ∀ o, Mut b H (upd G4 p o) := fun o a u ha h => by
                rw [upd_ne (ne_of_none h hp)]
                exact M4 _ _ ha h
              refine ⟨_, rfl, b, 2, rfl, by decide, by decide, B5 _, fun d G6 d0 d1 B6 M6 => ?_⟩
              have hx6 : G6 p = some (.lst ((xs.set t (((xs.map V.int).length : Int) + f)).map V.int)) := M6 _ _ npb upd_same
              refine ⟨rfl, _, rfl, ?_⟩
              refine ite_b (fun c => ?_) (fun c => ?_)
              · refine ⟨_, rfl, _, rfl, _, _, rfl, rfl, _, rfl, _, rfl, p, _, _, t, rfl, rfl, hx6, Evl.ixN_nat (by rw [List.length_map, nset]; omega), ?_⟩
                rw [set_ints]
                refine ⟨_, _, _, _, _, rfl, upd_same, by rw [List.length_set, nset]; exact hl, B6.keep fun u h => by rw [upd_ne (Ne.symm npb)]; exact h, fun a u ha h => ?_⟩
                rw [upd_ne (ne_of_none h hp)]
                exact M6 _ _ ha (M5 _ _ _ ha h)
              · exact ⟨_, _, _, _, _, rfl, hx6, by rw [nset]; exact hl, B6, (M5 _).trans M6⟩
          · exact ⟨xs, _, _, _, _, rfl, hx, hl, BG, MG⟩
        · exact ⟨xs, _, _, _, _, rfl, hx, hl, BG, MG⟩
      · rintro σ G ⟨xs, v2, v4, v5, v6, rfl, hx, hl, BG, MG⟩
        exact ⟨_, rfl, k p xs G hp npb hx hl BG MG⟩

end

section
variable {P : Program} {w : World} {K : PySem.W.Frag} {mg : Str → Option Value} {base : Heap} {A : Ad}
theorem map_some_inj : ∀ {xs ys : List Bk}, xs.map some = ys.map some → xs = ys
  | [], [], _ => rfl
  | [], _ :: _, h => nomatch h
  | _ :: _, [], h => nomatch h
  | x :: xs, y :: ys, h => by
    rw [List.map_cons, List.map_cons] at h
    injection h with h1 h2
    rw [Option.some.inj h1, map_some_inj h2]
theorem FormAt.updL {H : Hp} {f : Addr} {v : V} {c : Option Bk} {xs : List V} {o : HO} (h : FormAt H v c) (hf : H f = some (.lst xs)) : FormAt (upd H f o) v c := by
  cases c with
  | none => exact h
  | some b =>
    obtain ⟨q, h1, h2⟩ := h
    exact ⟨q, h1, h2.updL hf⟩
theorem FormsAll.updL {H : Hp} {f : Addr} {xs : List V} {o : HO} (hf : H f = some (.lst xs)) : ∀ {vs : List V} {os : List (Option Bk)}, FormsAll H vs os → FormsAll (upd H f o) vs os
  | _, _, .nil => .nil
  | _, _, .cons a b => .cons (a.updL hf) (FormsAll.updL hf b)
def spLaw (K : PySem.W.Frag) : Sp := fun vs H Q _ => ∃ (a : Addr) (ns : List Int), vs = [.ref a] ∧ SqL K H a (ns.map V.int) ∧ ns.length ≤ 63 ∧ ∀ H', Q (.bl true) H'
theorem formsF_len (ys : List Nat) : (formsF ys).length ≤ ys.length := by
  unfold formsF gpsF
  rw [List.length_map, List.length_map]
  exact roots_len ys
theorem rows_of {H' : Hp} {ys : List Nat} {gs : List (Nat × Addr)} (h1 : gs.map (·.1) = rootsF ys) (h2 : ∀ x ∈ gs, ListN H' x.2 (grpF ys x.1)) : RowsL H' (gs.map (·.2)) (gpsF ys) := by
  refine ⟨?_, fun i q r hq hr => ?_⟩
  · unfold gpsF
    rw [List.length_map, List.length_map, ← h1, List.length_map]
  · rw [List.getElem?_map] at hq
    cases hg : gs[i]? with
    | none => rw [hg] at hq; cases hq
    | some x =>
      rw [hg] at hq
      cases hq
      have := (gs_forms h1 hg).1
      rw [hr] at this
      cases Option.some.inj this
      exact h2 x (List.mem_of_getElem? hg)
theorem all_bad {ys : List Nat} : (formsF ys).any Option.isNone = !(formsF ys).all Option.isSome := by
  rw [List.not_all_eq_any_not]
  congr 1
  funext o
  cases o <;> rfl
theorem isNone_ix {os : List (Option Bk)} (h : os.any Option.isNone = true) : ∃ j, os[j]? = some none ∧ ∀ (m : Nat) (z : Option Bk), m < j → os[m]? = some z → z.isNone = false := by
  induction os with
  | nil => cases h
  | cons o os ih =>
    cases o with
    | none => exact ⟨0, rfl, fun m z hm => absurd hm (Nat.not_lt_zero _)⟩
    | some b =>
      obtain ⟨j, h1, h2⟩ := ih (by simpa using h)
      refine ⟨j + 1, h1, fun m z hm hz => ?_⟩
      cases m with
      | zero => cases hz; rfl
      | succ m => exact h2 m z (by omega) hz
theorem bad_at {ys : List Nat} {j : Nat} (h1 : (formsF ys)[j]? = some none) (h2 : ∀ (m : Nat) (z : Option Bk), m < j → (formsF ys)[m]? = some z → z.isNone = false) : ∃ gp, (gpsF ys)[j]? = some gp ∧ badF ys = some gp := by
  have hj := (List.getElem?_eq_some_iff.mp h1).1
  have hl : (formsF ys).length = (gpsF ys).length := by unfold formsF; rw [List.length_map]
  have hjl : j < (gpsF ys).length := by omega
  have at_ : ∀ m (hm : m < (gpsF ys).length), (formsF ys)[m]? = some (pieceF (gN ys) (gpsF ys)[m]) := fun m hm => by
    unfold formsF
    rw [List.getElem?_map, List.getElem?_eq_getElem hm]
    rfl
  refine ⟨(gpsF ys)[j], List.getElem?_eq_getElem hjl, ?_⟩
  unfold badF
  rw [List.find?_eq_some_iff_getElem]
  refine ⟨?_, j, hjl, rfl, fun m hm => ?_⟩
  · have := at_ j hjl
    rw [h1] at this
    have e : none = pieceF (gN ys) (gpsF ys)[j] := Option.some.inj this
    show (pieceF (gN ys) (gpsF ys)[j]).isNone = true
    rw [← e]
    rfl
  · have hml : m < (gpsF ys).length := by omega
    have := h2 m _ hm (at_ m hml)
    show (!(pieceF (gN ys) (gpsF ys)[m]).isNone) = true
    rw [this]
    rfl
theorem ok_law {fd : FuncData} (T : Txt K mg A) (F : Fun K "law" "law" s_law A.law fd)  (g_law_bag : Okd P w K mg base CX0 1 A.law_bag P_law_bag (spBag K)) (g_law_drawn : Okd P w K mg base CX0 5 A.law_drawn P_law_drawn spDrawn2) (g_law_first_stray : Okd P w K mg base CX0 1 A.law_first_stray P_law_first_stray spFS) (g_law_refused_stray : Okd P w K mg base CX0 8 A.law_refused_stray P_law_refused_stray (spRS A)) (g_law_joined : Okd P w K mg base CX0 1 A.law_joined P_law_joined spJo) (g_law_groups_meet : Okd P w K mg base CX0 2 A.law_groups_meet P_law_groups_meet spGM2) (g_groups : Okd P w K mg base (L2N.CX P w) 4 A.groups P_groups (spGr2 A)) (g_is_repairable : Okd P w K mg base (L2N.CX P w) 5 A.is_repairable P_is_repairable (spRep2 A)) (g_law_form_of : Okd P w K mg base CX0 3 A.law_form_of P_law_form_of spFO) (g_law_pieces_meet : Okd P w K mg base CX0 2 A.law_pieces_meet P_law_pieces_meet spPM2) (g_pieces : Okd P w K mg base (L2N.CX P w) 5 A.pieces P_pieces (spPi2 A)) (g_law_refused_group : Okd P w K mg base CX0 8 A.law_refused_group P_law_refused_group (spRG A)) : FnOk P w K mg base CX0 9 A.law fd P_law (spLaw K) := by
  obtain ⟨fd_law_bag, G_law_bag, b_law_bag⟩ := g_law_bag
  obtain ⟨fd_law_drawn, G_law_drawn, b_law_drawn⟩ := g_law_drawn
  obtain ⟨fd_law_first_stray, G_law_first_stray, b_law_first_stray⟩ := g_law_first_stray
  obtain ⟨fd_law_refused_stray, G_law_refused_stray, b_law_refused_stray⟩ := g_law_refused_stray
  obtain ⟨fd_law_joined, G_law_joined, b_law_joined⟩ := g_law_joined
  obtain ⟨fd_law_groups_meet, G_law_groups_meet, b_law_groups_meet⟩ := g_law_groups_meet
  obtain ⟨fd_groups, G_groups, b_groups⟩ := g_groups
  obtain ⟨fd_is_repairable, G_is_repairable, b_is_repairable⟩ := g_is_repairable
  obtain ⟨fd_law_form_of, G_law_form_of, b_law_form_of⟩ := g_law_form_of
  obtain ⟨fd_law_pieces_meet, G_law_pieces_meet, b_law_pieces_meet⟩ := g_law_pieces_meet
  obtain ⟨fd_pieces, G_pieces, b_pieces⟩ := g_pieces
  obtain ⟨fd_law_refused_group, G_law_refused_group, b_law_refused_group⟩ := g_law_refused_group
  refine F.ok sc_law (fun vs H Q E h => ?_) (fun cdv A' outer s H vs Q E hr h => ?_)
  · obtain ⟨a, ns, rfl, _⟩ := h
    rfl
  · obtain ⟨a, ns, rfl, hS, hlen, k⟩ := h
    refine ⟨_, (pss_cons (ps_set (i := 1) sc_law.nd rfl (Or.inl rfl) (pe_call G_law_bag (hr.mono (by decide)) (by rfl) T.g_law_bag T.k_law_bag b_law_bag .nil pass0 (pa_cons (pv 0) pa_nil)))
      (pss_cons (ps_set (i := 2) sc_law.nd rfl (Or.inr rfl) (pe_call G_law_drawn (hr.mono (by decide)) (by rfl) T.g_law_drawn T.k_law_drawn b_law_drawn .nil pass0 (pa_cons (pv 1) pa_nil)))
      (pss_cons (ps_set (i := 3) sc_law.nd rfl (Or.inl rfl) (pe_callTy call_list_of (by rfl) T.n_list (by decide +kernel) (pa_cons (pv 2) pa_nil)))
      (pss_cons (ps_set (i := 4) sc_law.nd rfl (Or.inl rfl) (pe_call G_law_first_stray (hr.mono (by decide)) (by rfl) T.g_law_first_stray T.k_law_first_stray b_law_first_stray .nil pass0 (pa_cons (pv 2) pa_nil)))
      (pss_cons (ps_if (pt_cmpR op_ge (pv 4) pe_int (nomark _)) (pss_cons (ps_for PassesOwn.never rfl (pi_range1 (by rfl) T.n_range (pa_cons pe_int pa_nil)) (pg_name (i := 5) sc_law.nd rfl (Or.inl rfl)) (pss_one (ps_if (PW.pt (pw_or (pt_not (pt_val (pe_call G_law_refused_stray (hr.mono (by decide)) (by rfl) T.g_law_refused_stray T.k_law_refused_stray b_law_refused_stray .nil pass0 (pa_cons (pv 5) (pa_cons (pv 3) (pa_cons (pv 4) pa_nil)))))) (pw_or1 (pt_cmpR (op_neD hr.units) (pv 3) (pv 2) (nomark _))))) (pss_one (ps_ret pe_bl)) pss_nil)))
      (pss_one (ps_ret pe_bl))) pss_nil)
      (pss_cons (ps_set (i := 6) sc_law.nd rfl (Or.inl rfl) (pe_call G_law_joined (hr.mono (by decide)) (by rfl) T.g_law_joined T.k_law_joined b_law_joined .nil pass0 (pa_cons (pv 2) pa_nil)))
      (pss_cons (ps_if (pt_not (pt_val (pe_call G_law_groups_meet (hr.mono (by decide)) (by rfl) T.g_law_groups_meet T.k_law_groups_meet b_law_groups_meet .nil pass0 (pa_cons (pe_callS G_groups (hr.mono (by decide)) rfl T.g_groups T.k_groups b_groups (fun σ => L2N.passAt L2N.takes0N σ) (pa_cons (pv 3) pa_nil)) (pa_cons (pv 6) pa_nil))))) (pss_one (ps_ret pe_bl)) pss_nil)
      (pss_cons (ps_set (i := 7) sc_law.nd rfl (Or.inl rfl) (pe_callS G_is_repairable (hr.mono (by decide)) rfl T.g_is_repairable T.k_is_repairable b_is_repairable (fun σ => L2N.passAt L2N.takes0N σ) (pa_cons (pv 3) pa_nil)))
      (pss_cons (ps_setLc (i := 8) (own := [("group", 10)]) (tt := tYes) (by rfl) sc_law.nd rfl rfl (sw_true rfl rfl rfl (by decide +kernel)) (pi_list (pv 6)) (blkOk_by (own := [("group", 10)]) (N := N_law) (sc := defScope s_law) (by decide +kernel)) (fun _ _ _ _ _ => (pg_name (i := 10) sc_law.nd rfl (Or.inl rfl))) (fun _ _ _ _ _ => pts_nil) (fun _ _ _ _ _ => (pe_call G_law_form_of (hr.mono (by decide)) (by rfl) T.g_law_form_of T.k_law_form_of b_law_form_of .nil pass0 (pa_cons (pv 2) (pa_cons (pv 10) pa_nil)))))
      (pss_cons (ps_if (pt_cmpR (op_notInD hr.units65) pe_non (pv 8) (by with_unfolding_all rfl)) (pss_cons (ps_if (PW.pt (pw_or (pt_not (pt_val (pe_callB call_isi (by rfl) T.n_isinstance (by decide +kernel) (pa_cons (pv 7) (pa_cons (pe_bltn (v := .ty "bool") (u := .type "bool") (by rfl) T.n_bool (by decide +kernel) rfl) pa_nil))))) (pw_or (pt_not (pt_val (pv 7))) (pw_or1 (pt_cmpR (op_neD hr.units) (pv 3) (pv 2) (nomark _)))))) (pss_one (ps_ret pe_bl)) pss_nil)
      (pss_one (ps_ret (pe_and (pe_call G_law_pieces_meet (hr.mono (by decide)) (by rfl) T.g_law_pieces_meet T.k_law_pieces_meet b_law_pieces_meet .nil pass0 (pa_cons (pe_callS G_pieces (hr.mono (by decide)) rfl T.g_pieces T.k_pieces b_pieces (fun σ => L2N.passAt L2N.takes0N σ) (pa_cons (pv 3) pa_nil)) (pa_cons (pv 8) pa_nil))) (pe_one (pe_cmpR (op_eqD hr.units) (pv 3) (pv 2) (nomark _))))))) pss_nil)
      (pss_cons (ps_if (PW.pt (pw_or (pt_not (pt_val (pe_callB call_isi (by rfl) T.n_isinstance (by decide +kernel) (pa_cons (pv 7) (pa_cons (pe_bltn (v := .ty "bool") (u := .type "bool") (by rfl) T.n_bool (by decide +kernel) rfl) pa_nil))))) (pw_or1 (pt_val (pv 7))))) (pss_one (ps_ret pe_bl)) pss_nil)
      (pss_cons (ps_set (i := 9) sc_law.nd rfl (Or.inl rfl) (pe_ix ix_list (pv 6) (pe_bm PySem.F.plainAttrs_list PySem.F.slot_list_index PySem.F.type_list_index (mt_indexD hr.units65) (pv 8) (pa_cons pe_non pa_nil)) (fun _ _ => rfl)))
      (pss_cons (ps_for PassesOwn.never rfl (pi_range1 (by rfl) T.n_range (pa_cons pe_int pa_nil)) (pg_name (i := 5) sc_law.nd rfl (Or.inl rfl)) (pss_one (ps_if (PW.pt (pw_or (pt_not (pt_val (pe_call G_law_refused_group (hr.mono (by decide)) (by rfl) T.g_law_refused_group T.k_law_refused_group b_law_refused_group .nil pass0 (pa_cons (pv 5) (pa_cons (pv 3) (pa_cons (pv 9) pa_nil)))))) (pw_or1 (pt_cmpR (op_neD hr.units) (pv 3) (pv 2) (nomark _))))) (pss_one (ps_ret pe_bl)) pss_nil)))
      (pss_one (ps_ret pe_bl))))))))))))))), ?_⟩
    refine ⟨_, rfl, a, ns, rfl, hS, fun b g f s0 hb B => ?_⟩
    have B1 : Bag (upd H b (.lst (bagL g f s0))) b := ⟨g, f, s0, upd_same, B⟩
    generalize L2.upd H b _ = H1 at *
    refine ⟨_, rfl, b, rfl, B1, fun p xs H2 hp npb hx hl B2 M2 => ?_⟩
    refine ⟨_, rfl, p, _, rfl, Or.inl (SqL.of hx), fun h hh => ?_⟩
    have hx3 : upd H2 h (.lst (xs.map V.int)) p = some (.lst (xs.map V.int)) := by rw [upd_ne (ne_of_none hx hh)]; exact hx
    have hh3 : upd H2 h (.lst (xs.map V.int)) h = some (.lst (xs.map V.int)) := upd_same
    generalize upd H2 h (.lst (xs.map V.int)) = H3 at *
    have ne_go : ∀ {G : Hp}, Ex H3 G → ∀ {Q' : V → Hp → Prop}, Q' (.bl false) G → rNeD K (.ref h) (.ref p) G Q' := fun {G} e {Q'} q => by
      refine ⟨dI xs, dI xs, dp_I (e _ _ hh3), dp_I (e _ _ hx3), shaped_I _, shaped_I _, ?_⟩
      rw [eqv_I]
      exact q
    refine ⟨_, rfl, p, xs, rfl, hx3, by omega, fun k0 hk0 hbad hno => ?_, fun hgood => ?_⟩
    · have hst : strayI xs = some k0 := firstOf_some hk0 hbad hno
      refine ⟨_, rfl, _, _, rfl, rfl, _, rfl, ?_⟩
      refine ite_b (fun _ => ?_) (fun c => absurd (of_decide_eq_false c) (by omega))
      refine ⟨_, rfl, by decide, by decide, for_range (lo := 0) (n := 6) (fun i σ G => ∃ v5 : Option V, σ = [some (.ref a), some (.ref b), some (.ref p), some (.ref h), some (.int (k0 : Nat)), v5, none, none, none, none, none] ∧ Ex H3 G) ⟨none, rfl, Ex.refl H3⟩ ?_ ?_⟩
      · rintro i σ G hi ⟨v5, rfl, e⟩
        have k9 : (0 : Int) + (i : Int) = ((i : Nat) : Int) := by omega
        refine ⟨_, rfl, _, rfl, _, rfl, h, xs, i, k0, by rw [k9]; rfl, e _ _ hh3, by omega, hst, hi, fun G2 e2 => ?_⟩
        refine ⟨_, rfl, ?_⟩
        refine iteF ?_
        refine ⟨_, rfl, _, rfl, ne_go (e.trans e2) ⟨_, rfl, ?_⟩⟩
        refine iteF ?_
        exact ⟨_, rfl, e.trans e2⟩
      · rintro σ G ⟨v5, rfl, e⟩
        exact k G
    · have hst : strayI xs = none := firstOf_none hgood
      have hnat := natI_at' hst hx3
      have hrec := natI_rec hst
      have hl16 : (natI xs).length ≤ 16 := by rw [natI_len]; exact hl
      have hnk : ∀ k, strayI xs = some k → False := fun k hk => by rw [hst] at hk; cases hk
      refine ⟨_, rfl, _, _, rfl, rfl, _, rfl, ?_⟩
      refine ite_b (fun c => absurd (of_decide_eq_true c) (by decide)) (fun _ => ?_)
      generalize hys : natI xs = ys at *
      refine ⟨_, rfl, p, ys, rfl, hnat, by omega, hrec, fun d gs H4 hd e4 hd4 hk4 hg4 => ?_⟩
      have hk4 : gs.map (·.1) = rootsF ys := hk4
      have hg4 : ∀ x ∈ gs, ListN H4 x.2 (grpF ys x.1) := hg4
      have hgl := gs_len hk4
      refine ⟨_, rfl, h, xs, rfl, e4 _ _ hh3, by omega, fun _ q ts H5 hq e5 ⟨hq5, hk5, hg5⟩ => ?_, fun k hk => (hnk k hk).elim⟩
      rw [hys] at hk5 hg5
      have e35 := e4.trans e5
      have r1 : RowsL H5 (ts.map (·.2)) (gpsF ys) := rows_of hk5 fun x hx => (hg5 x hx).2.2
      have r2 : RowsL H5 (gs.map (·.2)) (gpsF ys) := (rows_of hk4 hg4).ex e5
      have hgpl : (gpsF ys).length ≤ 16 := by
        have := r2.1
        rw [List.length_map] at this
        omega
      refine ⟨_, rfl, q, d, ts.map (·.2), gs.map (·.2), gpsF ys, rfl, by rw [hq5, List.map_map]; rfl, by rw [e5 _ _ hd4, List.map_map]; rfl, r1, r2, by omega, fun r hr => ?_, ?_⟩
      · obtain ⟨r0, _, rfl⟩ := mem_gps hr
        have := grpF_len (ys := ys) r0
        omega
      refine ⟨_, rfl, ?_⟩
      refine iteF ?_
      refine ⟨_, rfl, h, xs, rfl, e35 _ _ hh3, by omega, fun _ H6 e6 => ?_, fun k hk => (hnk k hk).elim⟩
      rw [hys]
      have e36 := e35.trans e6
      have hd6 : H6 d = some (.lst (gs.map fun x => V.ref x.2)) := e6 _ _ (e5 _ _ hd4)
      have e46 := e5.trans e6
      have hfl := forms_len hk4
      refine ⟨_, rfl, d, rfl, ⟨_, SqL.of hd6⟩, fun D hD => lc_list (K := K) (a := d) (xs := gs.map fun x => V.ref x.2) (fun j G => Ex H6 G ∧ ∃ vs : List V, G D = some (.lst vs) ∧ FormsAll G vs ((formsF ys).take j)) ⟨Ex.new hD, [], upd_same, .nil⟩ (fun j G _ q => SqL.of (q.1 d _ hd6)) ?_ ?_⟩
      · rintro i y G hi ⟨ef, vs, hv, F⟩
        rw [List.getElem?_map] at hi
        cases hgi : gs[i]? with
        | none => rw [hgi] at hi; cases hi
        | some gx =>
        rw [hgi] at hi
        injection hi with hi
        subst hi
        have hil : i < gs.length := (List.getElem?_eq_some_iff.mp hgi).1
        have hmem : gx ∈ gs := List.mem_of_getElem? hgi
        obtain ⟨hr1, hr2⟩ := gs_root hk4 hgi
        obtain ⟨hf1, hf2⟩ := gs_forms hk4 hgi
        have hG := gp_of hrec hr2
        have eG := e36.trans ef
        have hgx : ListN G gx.2 (grpF ys gx.1) := (hg4 gx hmem).ex (e46.trans ef)
        have hvl : vs.length ≤ 16 := by
          have := F.len
          rw [List.length_take] at this
          omega
        have glen := grpF_len (ys := ys) gx.1
        have fin : ∀ (v : V) (G2 : Hp), Ex G G2 → FormAt G2 v (pieceF (gN ys) (grpF ys gx.1)) → ∃ acc, G2 D = some (.lst acc) ∧ acc.length < sizeLine ∧ Ex H6 (upd G2 D (.lst (acc ++ [v]))) ∧ ∃ vs : List V, (upd G2 D (.lst (acc ++ [v]))) D = some (.lst vs) ∧ FormsAll (upd G2 D (.lst (acc ++ [v]))) vs ((formsF ys).take (i + 1)) := fun v G2 e2 hf => by
          have hv2 := e2 _ _ hv
          refine ⟨vs, hv2, small1000 (by omega), fun c o hc => ?_, vs ++ [v], upd_same, ?_⟩
          · rw [upd_ne (ne_of_none hc hD)]
            exact e2 _ _ (ef _ _ hc)
          · rw [takeB2 hf2]
            exact ((F.ex e2).app hf).updL hv2
        refine ⟨rfl, _, rfl, _, rfl, p, gx.2, ys, grpF ys gx.1, rfl, hnat.ex eG, hgx, hG.nd, fun x hx => (mem_grpF.mp hx).1, by omega, fun hno G2 e2 => ?_, fun b2 hb2 q2 t2 G2 hq2 e2 h1 h2 => ?_⟩
        · refine fin .non G2 e2 ?_
          have := hG.form_one hno
          rw [show gN ys = fun x => ys.getD x 0 from rfl, ← this]
          rfl
        · refine fin (.ref q2) G2 e2 ?_
          have := hG.form_one hb2
          rw [show gN ys = fun x => ys.getD x 0 from rfl, ← this]
          exact ⟨q2, rfl, t2, h1, h2⟩
      rintro G ⟨ef, vs, hv, F⟩
      rw [List.length_map, hfl, List.take_length] at F
      have eG := e36.trans ef
      have hfo := formsF_len ys
      refine ⟨_, rfl, .none, (formsF ys).map dataF, .non, .lst (SqL.of hv) F.dp, rfl, shaped_F _, _, rfl, ?_⟩
      rw [any_none, all_bad, Bool.not_not]
      cases hall : (formsF ys).all Option.isSome with
      | true =>
        obtain ⟨bs, hbs⟩ : ∃ bs : List Bk, formsF ys = bs.map some := by
          refine bad_none ?_
          cases hb : badF ys with
          | none => rfl
          | some gp =>
            exfalso
            unfold badF at hb
            have hm := List.mem_of_find?_eq_some hb
            have hp2 := List.find?_some hb
            have : pieceF (fun x => ys.getD x 0) gp ∈ formsF ys := List.mem_map.mpr ⟨gp, hm, rfl⟩
            have h9 := List.all_eq_true.mp hall _ this
            rw [Option.isNone_iff_eq_none.mp hp2] at h9
            cases h9
        refine iteT ?_
        refine ⟨_, rfl, _, _, _, _, true, rfl, ClsV.ty "bool", TyX.base (TyOf.bl _), kit_ty (by decide +kernel), true, rfl, ?_⟩
        refine iteF ?_
        refine ⟨_, rfl, true, rfl, ?_⟩
        refine iteF ?_
        refine ⟨_, rfl, _, rfl, ne_go eG ⟨_, rfl, ?_⟩⟩
        refine iteF ?_
        refine ⟨_, rfl, h, xs, rfl, eG _ _ hh3, by omega, fun _ bs2 hbs2 r G2 hr e2 ⟨rs, hr1, hr2, hr3⟩ => ?_, fun k hk => (hnk k hk).elim, fun _ gp hgp => ?_⟩
        · rw [hys, hbs] at hbs2
          have hbb : bs2 = bs := (map_some_inj hbs2).symm
          subst hbb
          rw [hbs] at F
          obtain ⟨fs, hf1, hf2, hf3⟩ := (F.ex e2).all2 (p := D)
          have hbl : bs2.length ≤ 16 := by
            have := hfo
            rw [hbs, List.length_map] at this
            omega
          refine ⟨_, rfl, r, D, rs, fs, bs2, rfl, hr1, by rw [e2 _ _ hv, hf1], ⟨hr2, hr3⟩, ⟨hf2, hf3⟩, by omega, fun b hb => ?_, true, rfl, ?_⟩
          · have : some b ∈ formsF ys := by rw [hbs]; exact List.mem_map.mpr ⟨b, hb, rfl⟩
            obtain ⟨gp, hgp, hpb⟩ := List.mem_map.mp this
            obtain ⟨r0, hr0, rfl⟩ := mem_gps hgp
            have h1 := ((gp_of hrec hr0).grp hpb).1.perm.length_eq
            have := grpF_len (ys := ys) r0
            omega
          rw [if_pos rfl]
          refine ⟨_, rfl, _, rfl, dI xs, dI xs, dp_I (e2 _ _ (eG _ _ hh3)), dp_I (e2 _ _ (eG _ _ hx3)), shaped_I _, shaped_I _, ?_⟩
          rw [eqv_I]
          exact k G2
        · exfalso
          rw [hys, forms_bad hbs] at hgp
          cases hgp
      | false =>
        refine iteF ?_
        refine ⟨_, rfl, _, _, _, _, true, rfl, ClsV.ty "bool", TyX.base (TyOf.bl _), kit_ty (by decide +kernel), true, rfl, ?_⟩
        refine iteF ?_
        refine ⟨_, rfl, false, rfl, ?_⟩
        refine iteF ?_
        have hany : (formsF ys).any Option.isNone = true := by rw [all_bad, hall]; rfl
        obtain ⟨j, hj1, hj2⟩ := isNone_ix hany
        obtain ⟨gp, hgp, hbad⟩ := bad_at hj1 hj2
        have hdG : G d = some (.lst (gs.map fun x => V.ref x.2)) := ef _ _ hd6
        obtain ⟨hjl, hje⟩ := List.getElem?_eq_some_iff.mp hgp
        have hjg : j < gs.length := by
          have := r2.1
          rw [List.length_map] at this
          omega
        have hgj : gs[j]? = some gs[j] := List.getElem?_eq_getElem hjg
        have hgpe : gp = grpF ys gs[j].1 := by
          have := (gs_forms hk4 hgj).1
          rw [hgp] at this
          exact Option.some.inj this
        refine ⟨_, rfl, _, rfl, Or.inl ⟨rfl, _, SqL.of hv⟩, D, .non, .none, (formsF ys).map dataF, j, .none, rfl, rfl, .lst (SqL.of hv) F.dp, .non, shaped_F _, rfl, by rw [List.getElem?_map, hj1]; rfl, rfl, fun m z hm hz => ?_, ?_⟩
        · rw [List.getElem?_map] at hz
          cases hfm : (formsF ys)[m]? with
          | none => rw [hfm] at hz; cases hz
          | some o =>
            rw [hfm] at hz
            cases hz
            rw [eqv_none]
            exact hj2 m o hm hfm
        refine ⟨_, _, _, _, rfl, rfl, SqL.of hdG, atI_nat (by rw [List.getElem?_map, hgj]; rfl), ?_⟩
        have hgx : ListN G gs[j].2 gp := by rw [hgpe]; exact (hg4 _ (List.getElem_mem hjg)).ex (e46.trans ef)
        have glen : gp.length ≤ 64 := by
          rw [hgpe]
          have := grpF_len (ys := ys) gs[j].1
          omega
        refine ⟨_, rfl, by decide, by decide, for_range (lo := 0) (n := 4) (fun i σ G2 => ∃ v5 : Option V, σ = [some (.ref a), some (.ref b), some (.ref p), some (.ref h), some (.int (-1)), v5, some (.ref d), some (.bl false), some (.ref D), some (.ref gs[j].2), none] ∧ Ex G G2) ⟨_, rfl, Ex.refl G⟩ ?_ ?_⟩
        · rintro i σ G2 hi ⟨v5, rfl, e⟩
          have k9 : (0 : Int) + (i : Int) = ((i : Nat) : Int) := by omega
          refine ⟨_, rfl, _, rfl, _, rfl, h, gs[j].2, xs, gp, i, by rw [k9]; rfl, e _ _ (eG _ _ hh3), by omega, hst, by rw [hys]; exact hbad, hgx.ex e, glen, hi, fun G3 e3 => ?_⟩
          refine ⟨_, rfl, ?_⟩
          refine iteF ?_
          refine ⟨_, rfl, _, rfl, ne_go ((eG.trans e).trans e3) ⟨_, rfl, ?_⟩⟩
          refine iteF ?_
          exact ⟨_, rfl, e.trans e3⟩
        · rintro σ G2 ⟨v5, rfl, e⟩
          exact k G2

end
end Pv
namespace Pv
open PySem L2 Evl
theorem all_mk {l : PySem.W.OpenLaw} {w : World} {K : PySem.W.Frag} {h : Heap} {mg : Str → Option Value} {fa f_own f_check_image f_groups f_least_records f_pieces f_is_repairable f_census f_torn_pieces f_piece_of f_row_of f_image_number f_law_bag f_law_take f_law_order f_law_words f_law_pattern f_law_forms f_law_built f_law_drawn f_law_first_stray f_law_joined f_law_orders f_law_fits_form f_law_form_of f_law_row_meets f_law_groups_meet f_law_pieces_meet f_law_asked f_law_refused_stray f_law_refused_group f_law c_WORDS c_WHOLE c_FORMS kk0 kk1 kk2 kk3 kk4 kk5 kk6 kk7 c_MendError N_MendError_ c_InvalidImage N_InvalidImage_ i_InvalidImage c_Unrepairable N_Unrepairable_ i_Unrepairable : Addr}
    {od_own an_own od_check_image an_check_image od_groups an_groups od_least_records an_least_records od_pieces an_pieces od_is_repairable an_is_repairable od_census an_census od_torn_pieces an_torn_pieces od_piece_of an_piece_of od_row_of an_row_of od_image_number an_image_number od_law_bag an_law_bag od_law_take an_law_take od_law_order an_law_order od_law_words an_law_words od_law_pattern an_law_pattern od_law_forms an_law_forms od_law_built an_law_built od_law_drawn an_law_drawn od_law_first_stray an_law_first_stray od_law_joined an_law_joined od_law_orders an_law_orders od_law_fits_form an_law_fits_form od_law_form_of an_law_form_of od_law_row_meets an_law_row_meets od_law_groups_meet an_law_groups_meet od_law_pieces_meet an_law_pieces_meet od_law_asked an_law_asked od_law_refused_stray an_law_refused_stray od_law_refused_group an_law_refused_group od_law an_law odc_WORDS odc_WHOLE odF0 odF1 odF2 odF3 odF4 odF5 odF6 odF7 dd_MendError dd_InvalidImage od_i_InvalidImage an_i_InvalidImage dd_Unrepairable od_i_Unrepairable an_i_Unrepairable : Option Addr}
    {sl_own sl_check_image sl_groups sl_least_records sl_pieces sl_is_repairable sl_census sl_torn_pieces sl_piece_of sl_row_of sl_image_number sl_law_bag sl_law_take sl_law_order sl_law_words sl_law_pattern sl_law_forms sl_law_built sl_law_drawn sl_law_first_stray sl_law_joined sl_law_orders sl_law_fits_form sl_law_form_of sl_law_row_meets sl_law_groups_meet sl_law_pieces_meet sl_law_asked sl_law_refused_stray sl_law_refused_group sl_law slc_WORDS slc_WHOLE slF0 slF1 slF2 slF3 slF4 slF5 slF6 slF7 sl_i_InvalidImage sl_i_Unrepairable : Array (Option Value)}
    {oc_own doc_own pm_own cd_own ct_own kV_own oc_check_image doc_check_image pm_check_image cd_check_image ct_check_image kV_check_image oc_groups doc_groups pm_groups cd_groups ct_groups kV_groups oc_least_records doc_least_records pm_least_records cd_least_records ct_least_records kV_least_records oc_pieces doc_pieces pm_pieces cd_pieces ct_pieces kV_pieces oc_is_repairable doc_is_repairable pm_is_repairable cd_is_repairable ct_is_repairable kV_is_repairable oc_census doc_census pm_census cd_census ct_census kV_census oc_torn_pieces doc_torn_pieces pm_torn_pieces cd_torn_pieces ct_torn_pieces kV_torn_pieces oc_piece_of doc_piece_of pm_piece_of cd_piece_of ct_piece_of kV_piece_of oc_row_of doc_row_of pm_row_of cd_row_of ct_row_of kV_row_of oc_image_number doc_image_number pm_image_number cd_image_number ct_image_number kV_image_number oc_law_bag doc_law_bag pm_law_bag cd_law_bag ct_law_bag kV_law_bag oc_law_take doc_law_take pm_law_take cd_law_take ct_law_take kV_law_take oc_law_order doc_law_order pm_law_order cd_law_order ct_law_order kV_law_order oc_law_words doc_law_words pm_law_words cd_law_words ct_law_words kV_law_words oc_law_pattern doc_law_pattern pm_law_pattern cd_law_pattern ct_law_pattern kV_law_pattern oc_law_forms doc_law_forms pm_law_forms cd_law_forms ct_law_forms kV_law_forms oc_law_built doc_law_built pm_law_built cd_law_built ct_law_built kV_law_built oc_law_drawn doc_law_drawn pm_law_drawn cd_law_drawn ct_law_drawn kV_law_drawn oc_law_first_stray doc_law_first_stray pm_law_first_stray cd_law_first_stray ct_law_first_stray kV_law_first_stray oc_law_joined doc_law_joined pm_law_joined cd_law_joined ct_law_joined kV_law_joined oc_law_orders doc_law_orders pm_law_orders cd_law_orders ct_law_orders kV_law_orders oc_law_fits_form doc_law_fits_form pm_law_fits_form cd_law_fits_form ct_law_fits_form kV_law_fits_form oc_law_form_of doc_law_form_of pm_law_form_of cd_law_form_of ct_law_form_of kV_law_form_of oc_law_row_meets doc_law_row_meets pm_law_row_meets cd_law_row_meets ct_law_row_meets kV_law_row_meets oc_law_groups_meet doc_law_groups_meet pm_law_groups_meet cd_law_groups_meet ct_law_groups_meet kV_law_groups_meet oc_law_pieces_meet doc_law_pieces_meet pm_law_pieces_meet cd_law_pieces_meet ct_law_pieces_meet kV_law_pieces_meet oc_law_asked doc_law_asked pm_law_asked cd_law_asked ct_law_asked kV_law_asked oc_law_refused_stray doc_law_refused_stray pm_law_refused_stray cd_law_refused_stray ct_law_refused_stray kV_law_refused_stray oc_law_refused_group doc_law_refused_group pm_law_refused_group cd_law_refused_group ct_law_refused_group kV_law_refused_group oc_law doc_law pm_law cd_law ct_law kV_law oc_i_InvalidImage kV_i_InvalidImage doc_i_InvalidImage pm_i_InvalidImage cd_i_InvalidImage ct_i_InvalidImage oc_i_Unrepairable kV_i_Unrepairable doc_i_Unrepairable pm_i_Unrepairable cd_i_Unrepairable ct_i_Unrepairable : Value}
    {tWORDS_0 tWORDS_1 tWORDS_2 tWORDS_3 tWORDS_4 tWORDS_5 tWORDS_6 tWORDS_7 tWHOLE_0 tWHOLE_1 tF0 tF1 tF2 tF3 tF4 tF5 tF6 tF7 aF0_0 aF1_0 aF1_1 aF2_0 aF2_1 aF3_0 aF3_1 aF3_2 aF4_0 aF4_1 aF4_2 aF5_0 aF5_1 aF5_2 aF5_3 aF6_0 aF6_1 aF6_2 aF6_3 aF7_0 aF7_1 aF7_2 aF7_3 : Tok}
    {nc_WORDS nc_WHOLE epF nF0 nF1 nF2 nF3 nF4 nF5 nF6 nF7 : Nat}
    {nm_MendError q_MendError nm_InvalidImage q_InvalidImage nm_Unrepairable q_Unrepairable : Str}
    {bs_MendError sub_MendError bm_MendError bs_InvalidImage sub_InvalidImage bs_Unrepairable sub_Unrepairable : List Value}
    {sn_MendError sn_InvalidImage sn_Unrepairable : List Str}
    {ab_MendError ab_InvalidImage ab_Unrepairable : Bool}
    {col_MendError col_InvalidImage col_Unrepairable : Option Bool}
    {k0_MendError k1_MendError k2_MendError k3_MendError k5_MendError k0_InvalidImage k1_InvalidImage k2_InvalidImage k3_InvalidImage k5_InvalidImage k0_Unrepairable k1_Unrepairable k2_Unrepairable k3_Unrepairable k5_Unrepairable : Option Value}
    (X : K.In h) (G : h.Ns mainGlobals mg) (hfa : mg "law" = some (.ref fa))
    (a_own : PySem.W.nsIn K mainGlobals "_own" = some (some (.ref f_own)))
    (l_own : K.lookup f_own = some ⟨oc_own, od_own, .func (PySem.W.fnOf "_own" "_own" (defArgs s_own) (defBody s_own) (defScope s_own) .none kV_own doc_own pm_own an_own cd_own ct_own), sl_own⟩)
    (cd_is_own : PySem.W.codeIn K cd_own "_own" = true)
    (k_own : PySem.W.keepIn K (.ref f_own) = true)
    (a_check_image : PySem.W.nsIn K mainGlobals "check_image" = some (some (.ref f_check_image)))
    (l_check_image : K.lookup f_check_image = some ⟨oc_check_image, od_check_image, .func (PySem.W.fnOf "check_image" "check_image" (defArgs s_check_image) (defBody s_check_image) (defScope s_check_image) .none kV_check_image doc_check_image pm_check_image an_check_image cd_check_image ct_check_image), sl_check_image⟩)
    (cd_is_check_image : PySem.W.codeIn K cd_check_image "check_image" = true)
    (k_check_image : PySem.W.keepIn K (.ref f_check_image) = true)
    (a_groups : PySem.W.nsIn K mainGlobals "groups" = some (some (.ref f_groups)))
    (l_groups : K.lookup f_groups = some ⟨oc_groups, od_groups, .func (PySem.W.fnOf "groups" "groups" (defArgs s_groups) (defBody s_groups) (defScope s_groups) .none kV_groups doc_groups pm_groups an_groups cd_groups ct_groups), sl_groups⟩)
    (cd_is_groups : PySem.W.codeIn K cd_groups "groups" = true)
    (k_groups : PySem.W.keepIn K (.ref f_groups) = true)
    (a_least_records : PySem.W.nsIn K mainGlobals "_least_records" = some (some (.ref f_least_records)))
    (l_least_records : K.lookup f_least_records = some ⟨oc_least_records, od_least_records, .func (PySem.W.fnOf "_least_records" "_least_records" (defArgs s_least_records) (defBody s_least_records) (defScope s_least_records) .none kV_least_records doc_least_records pm_least_records an_least_records cd_least_records ct_least_records), sl_least_records⟩)
    (cd_is_least_records : PySem.W.codeIn K cd_least_records "_least_records" = true)
    (k_least_records : PySem.W.keepIn K (.ref f_least_records) = true)
    (a_pieces : PySem.W.nsIn K mainGlobals "pieces" = some (some (.ref f_pieces)))
    (l_pieces : K.lookup f_pieces = some ⟨oc_pieces, od_pieces, .func (PySem.W.fnOf "pieces" "pieces" (defArgs s_pieces) (defBody s_pieces) (defScope s_pieces) .none kV_pieces doc_pieces pm_pieces an_pieces cd_pieces ct_pieces), sl_pieces⟩)
    (cd_is_pieces : PySem.W.codeIn K cd_pieces "pieces" = true)
    (k_pieces : PySem.W.keepIn K (.ref f_pieces) = true)
    (a_is_repairable : PySem.W.nsIn K mainGlobals "is_repairable" = some (some (.ref f_is_repairable)))
    (l_is_repairable : K.lookup f_is_repairable = some ⟨oc_is_repairable, od_is_repairable, .func (PySem.W.fnOf "is_repairable" "is_repairable" (defArgs s_is_repairable) (defBody s_is_repairable) (defScope s_is_repairable) .none kV_is_repairable doc_is_repairable pm_is_repairable an_is_repairable cd_is_repairable ct_is_repairable), sl_is_repairable⟩)
    (cd_is_is_repairable : PySem.W.codeIn K cd_is_repairable "is_repairable" = true)
    (k_is_repairable : PySem.W.keepIn K (.ref f_is_repairable) = true)
    (a_census : PySem.W.nsIn K mainGlobals "census" = some (some (.ref f_census)))
    (l_census : K.lookup f_census = some ⟨oc_census, od_census, .func (PySem.W.fnOf "census" "census" (defArgs s_census) (defBody s_census) (defScope s_census) .none kV_census doc_census pm_census an_census cd_census ct_census), sl_census⟩)
    (cd_is_census : PySem.W.codeIn K cd_census "census" = true)
    (k_census : PySem.W.keepIn K (.ref f_census) = true)
    (a_torn_pieces : PySem.W.nsIn K mainGlobals "torn_pieces" = some (some (.ref f_torn_pieces)))
    (l_torn_pieces : K.lookup f_torn_pieces = some ⟨oc_torn_pieces, od_torn_pieces, .func (PySem.W.fnOf "torn_pieces" "torn_pieces" (defArgs s_torn_pieces) (defBody s_torn_pieces) (defScope s_torn_pieces) .none kV_torn_pieces doc_torn_pieces pm_torn_pieces an_torn_pieces cd_torn_pieces ct_torn_pieces), sl_torn_pieces⟩)
    (cd_is_torn_pieces : PySem.W.codeIn K cd_torn_pieces "torn_pieces" = true)
    (k_torn_pieces : PySem.W.keepIn K (.ref f_torn_pieces) = true)
    (a_piece_of : PySem.W.nsIn K mainGlobals "_piece_of" = some (some (.ref f_piece_of)))
    (l_piece_of : K.lookup f_piece_of = some ⟨oc_piece_of, od_piece_of, .func (PySem.W.fnOf "_piece_of" "_piece_of" (defArgs s_piece_of) (defBody s_piece_of) (defScope s_piece_of) .none kV_piece_of doc_piece_of pm_piece_of an_piece_of cd_piece_of ct_piece_of), sl_piece_of⟩)
    (cd_is_piece_of : PySem.W.codeIn K cd_piece_of "_piece_of" = true)
    (k_piece_of : PySem.W.keepIn K (.ref f_piece_of) = true)
    (a_row_of : PySem.W.nsIn K mainGlobals "_row_of" = some (some (.ref f_row_of)))
    (l_row_of : K.lookup f_row_of = some ⟨oc_row_of, od_row_of, .func (PySem.W.fnOf "_row_of" "_row_of" (defArgs s_row_of) (defBody s_row_of) (defScope s_row_of) .none kV_row_of doc_row_of pm_row_of an_row_of cd_row_of ct_row_of), sl_row_of⟩)
    (cd_is_row_of : PySem.W.codeIn K cd_row_of "_row_of" = true)
    (k_row_of : PySem.W.keepIn K (.ref f_row_of) = true)
    (a_image_number : PySem.W.nsIn K mainGlobals "image_number" = some (some (.ref f_image_number)))
    (l_image_number : K.lookup f_image_number = some ⟨oc_image_number, od_image_number, .func (PySem.W.fnOf "image_number" "image_number" (defArgs s_image_number) (defBody s_image_number) (defScope s_image_number) .none kV_image_number doc_image_number pm_image_number an_image_number cd_image_number ct_image_number), sl_image_number⟩)
    (cd_is_image_number : PySem.W.codeIn K cd_image_number "image_number" = true)
    (k_image_number : PySem.W.keepIn K (.ref f_image_number) = true)
    (a_law_bag : PySem.W.nsIn K mainGlobals "_law_bag" = some (some (.ref f_law_bag)))
    (l_law_bag : K.lookup f_law_bag = some ⟨oc_law_bag, od_law_bag, .func (PySem.W.fnOf "_law_bag" "_law_bag" (defArgs s_law_bag) (defBody s_law_bag) (defScope s_law_bag) .none kV_law_bag doc_law_bag pm_law_bag an_law_bag cd_law_bag ct_law_bag), sl_law_bag⟩)
    (cd_is_law_bag : PySem.W.codeIn K cd_law_bag "_law_bag" = true)
    (k_law_bag : PySem.W.keepIn K (.ref f_law_bag) = true)
    (a_law_take : PySem.W.nsIn K mainGlobals "_law_take" = some (some (.ref f_law_take)))
    (l_law_take : K.lookup f_law_take = some ⟨oc_law_take, od_law_take, .func (PySem.W.fnOf "_law_take" "_law_take" (defArgs s_law_take) (defBody s_law_take) (defScope s_law_take) .none kV_law_take doc_law_take pm_law_take an_law_take cd_law_take ct_law_take), sl_law_take⟩)
    (cd_is_law_take : PySem.W.codeIn K cd_law_take "_law_take" = true)
    (k_law_take : PySem.W.keepIn K (.ref f_law_take) = true)
    (a_law_order : PySem.W.nsIn K mainGlobals "_law_order" = some (some (.ref f_law_order)))
    (l_law_order : K.lookup f_law_order = some ⟨oc_law_order, od_law_order, .func (PySem.W.fnOf "_law_order" "_law_order" (defArgs s_law_order) (defBody s_law_order) (defScope s_law_order) .none kV_law_order doc_law_order pm_law_order an_law_order cd_law_order ct_law_order), sl_law_order⟩)
    (cd_is_law_order : PySem.W.codeIn K cd_law_order "_law_order" = true)
    (k_law_order : PySem.W.keepIn K (.ref f_law_order) = true)
    (a_law_words : PySem.W.nsIn K mainGlobals "_law_words" = some (some (.ref f_law_words)))
    (l_law_words : K.lookup f_law_words = some ⟨oc_law_words, od_law_words, .func (PySem.W.fnOf "_law_words" "_law_words" (defArgs s_law_words) (defBody s_law_words) (defScope s_law_words) .none kV_law_words doc_law_words pm_law_words an_law_words cd_law_words ct_law_words), sl_law_words⟩)
    (cd_is_law_words : PySem.W.codeIn K cd_law_words "_law_words" = true)
    (k_law_words : PySem.W.keepIn K (.ref f_law_words) = true)
    (a_law_pattern : PySem.W.nsIn K mainGlobals "_law_pattern" = some (some (.ref f_law_pattern)))
    (l_law_pattern : K.lookup f_law_pattern = some ⟨oc_law_pattern, od_law_pattern, .func (PySem.W.fnOf "_law_pattern" "_law_pattern" (defArgs s_law_pattern) (defBody s_law_pattern) (defScope s_law_pattern) .none kV_law_pattern doc_law_pattern pm_law_pattern an_law_pattern cd_law_pattern ct_law_pattern), sl_law_pattern⟩)
    (cd_is_law_pattern : PySem.W.codeIn K cd_law_pattern "_law_pattern" = true)
    (k_law_pattern : PySem.W.keepIn K (.ref f_law_pattern) = true)
    (a_law_forms : PySem.W.nsIn K mainGlobals "_law_forms" = some (some (.ref f_law_forms)))
    (l_law_forms : K.lookup f_law_forms = some ⟨oc_law_forms, od_law_forms, .func (PySem.W.fnOf "_law_forms" "_law_forms" (defArgs s_law_forms) (defBody s_law_forms) (defScope s_law_forms) .none kV_law_forms doc_law_forms pm_law_forms an_law_forms cd_law_forms ct_law_forms), sl_law_forms⟩)
    (cd_is_law_forms : PySem.W.codeIn K cd_law_forms "_law_forms" = true)
    (k_law_forms : PySem.W.keepIn K (.ref f_law_forms) = true)
    (a_law_built : PySem.W.nsIn K mainGlobals "_law_built" = some (some (.ref f_law_built)))
    (l_law_built : K.lookup f_law_built = some ⟨oc_law_built, od_law_built, .func (PySem.W.fnOf "_law_built" "_law_built" (defArgs s_law_built) (defBody s_law_built) (defScope s_law_built) .none kV_law_built doc_law_built pm_law_built an_law_built cd_law_built ct_law_built), sl_law_built⟩)
    (cd_is_law_built : PySem.W.codeIn K cd_law_built "_law_built" = true)
    (k_law_built : PySem.W.keepIn K (.ref f_law_built) = true)
    (a_law_drawn : PySem.W.nsIn K mainGlobals "_law_drawn" = some (some (.ref f_law_drawn)))
    (l_law_drawn : K.lookup f_law_drawn = some ⟨oc_law_drawn, od_law_drawn, .func (PySem.W.fnOf "_law_drawn" "_law_drawn" (defArgs s_law_drawn) (defBody s_law_drawn) (defScope s_law_drawn) .none kV_law_drawn doc_law_drawn pm_law_drawn an_law_drawn cd_law_drawn ct_law_drawn), sl_law_drawn⟩)
    (cd_is_law_drawn : PySem.W.codeIn K cd_law_drawn "_law_drawn" = true)
    (k_law_drawn : PySem.W.keepIn K (.ref f_law_drawn) = true)
    (a_law_first_stray : PySem.W.nsIn K mainGlobals "_law_first_stray" = some (some (.ref f_law_first_stray)))
    (l_law_first_stray : K.lookup f_law_first_stray = some ⟨oc_law_first_stray, od_law_first_stray, .func (PySem.W.fnOf "_law_first_stray" "_law_first_stray" (defArgs s_law_first_stray) (defBody s_law_first_stray) (defScope s_law_first_stray) .none kV_law_first_stray doc_law_first_stray pm_law_first_stray an_law_first_stray cd_law_first_stray ct_law_first_stray), sl_law_first_stray⟩)
    (cd_is_law_first_stray : PySem.W.codeIn K cd_law_first_stray "_law_first_stray" = true)
    (k_law_first_stray : PySem.W.keepIn K (.ref f_law_first_stray) = true)
    (a_law_joined : PySem.W.nsIn K mainGlobals "_law_joined" = some (some (.ref f_law_joined)))
    (l_law_joined : K.lookup f_law_joined = some ⟨oc_law_joined, od_law_joined, .func (PySem.W.fnOf "_law_joined" "_law_joined" (defArgs s_law_joined) (defBody s_law_joined) (defScope s_law_joined) .none kV_law_joined doc_law_joined pm_law_joined an_law_joined cd_law_joined ct_law_joined), sl_law_joined⟩)
    (cd_is_law_joined : PySem.W.codeIn K cd_law_joined "_law_joined" = true)
    (k_law_joined : PySem.W.keepIn K (.ref f_law_joined) = true)
    (a_law_orders : PySem.W.nsIn K mainGlobals "_law_orders" = some (some (.ref f_law_orders)))
    (l_law_orders : K.lookup f_law_orders = some ⟨oc_law_orders, od_law_orders, .func (PySem.W.fnOf "_law_orders" "_law_orders" (defArgs s_law_orders) (defBody s_law_orders) (defScope s_law_orders) .none kV_law_orders doc_law_orders pm_law_orders an_law_orders cd_law_orders ct_law_orders), sl_law_orders⟩)
    (cd_is_law_orders : PySem.W.codeIn K cd_law_orders "_law_orders" = true)
    (k_law_orders : PySem.W.keepIn K (.ref f_law_orders) = true)
    (a_law_fits_form : PySem.W.nsIn K mainGlobals "_law_fits_form" = some (some (.ref f_law_fits_form)))
    (l_law_fits_form : K.lookup f_law_fits_form = some ⟨oc_law_fits_form, od_law_fits_form, .func (PySem.W.fnOf "_law_fits_form" "_law_fits_form" (defArgs s_law_fits_form) (defBody s_law_fits_form) (defScope s_law_fits_form) .none kV_law_fits_form doc_law_fits_form pm_law_fits_form an_law_fits_form cd_law_fits_form ct_law_fits_form), sl_law_fits_form⟩)
    (cd_is_law_fits_form : PySem.W.codeIn K cd_law_fits_form "_law_fits_form" = true)
    (k_law_fits_form : PySem.W.keepIn K (.ref f_law_fits_form) = true)
    (a_law_form_of : PySem.W.nsIn K mainGlobals "_law_form_of" = some (some (.ref f_law_form_of)))
    (l_law_form_of : K.lookup f_law_form_of = some ⟨oc_law_form_of, od_law_form_of, .func (PySem.W.fnOf "_law_form_of" "_law_form_of" (defArgs s_law_form_of) (defBody s_law_form_of) (defScope s_law_form_of) .none kV_law_form_of doc_law_form_of pm_law_form_of an_law_form_of cd_law_form_of ct_law_form_of), sl_law_form_of⟩)
    (cd_is_law_form_of : PySem.W.codeIn K cd_law_form_of "_law_form_of" = true)
    (k_law_form_of : PySem.W.keepIn K (.ref f_law_form_of) = true)
    (a_law_row_meets : PySem.W.nsIn K mainGlobals "_law_row_meets" = some (some (.ref f_law_row_meets)))
    (l_law_row_meets : K.lookup f_law_row_meets = some ⟨oc_law_row_meets, od_law_row_meets, .func (PySem.W.fnOf "_law_row_meets" "_law_row_meets" (defArgs s_law_row_meets) (defBody s_law_row_meets) (defScope s_law_row_meets) .none kV_law_row_meets doc_law_row_meets pm_law_row_meets an_law_row_meets cd_law_row_meets ct_law_row_meets), sl_law_row_meets⟩)
    (cd_is_law_row_meets : PySem.W.codeIn K cd_law_row_meets "_law_row_meets" = true)
    (k_law_row_meets : PySem.W.keepIn K (.ref f_law_row_meets) = true)
    (a_law_groups_meet : PySem.W.nsIn K mainGlobals "_law_groups_meet" = some (some (.ref f_law_groups_meet)))
    (l_law_groups_meet : K.lookup f_law_groups_meet = some ⟨oc_law_groups_meet, od_law_groups_meet, .func (PySem.W.fnOf "_law_groups_meet" "_law_groups_meet" (defArgs s_law_groups_meet) (defBody s_law_groups_meet) (defScope s_law_groups_meet) .none kV_law_groups_meet doc_law_groups_meet pm_law_groups_meet an_law_groups_meet cd_law_groups_meet ct_law_groups_meet), sl_law_groups_meet⟩)
    (cd_is_law_groups_meet : PySem.W.codeIn K cd_law_groups_meet "_law_groups_meet" = true)
    (k_law_groups_meet : PySem.W.keepIn K (.ref f_law_groups_meet) = true)
    (a_law_pieces_meet : PySem.W.nsIn K mainGlobals "_law_pieces_meet" = some (some (.ref f_law_pieces_meet)))
    (l_law_pieces_meet : K.lookup f_law_pieces_meet = some ⟨oc_law_pieces_meet, od_law_pieces_meet, .func (PySem.W.fnOf "_law_pieces_meet" "_law_pieces_meet" (defArgs s_law_pieces_meet) (defBody s_law_pieces_meet) (defScope s_law_pieces_meet) .none kV_law_pieces_meet doc_law_pieces_meet pm_law_pieces_meet an_law_pieces_meet cd_law_pieces_meet ct_law_pieces_meet), sl_law_pieces_meet⟩)
    (cd_is_law_pieces_meet : PySem.W.codeIn K cd_law_pieces_meet "_law_pieces_meet" = true)
    (k_law_pieces_meet : PySem.W.keepIn K (.ref f_law_pieces_meet) = true)
    (a_law_asked : PySem.W.nsIn K mainGlobals "_law_asked" = some (some (.ref f_law_asked)))
    (l_law_asked : K.lookup f_law_asked = some ⟨oc_law_asked, od_law_asked, .func (PySem.W.fnOf "_law_asked" "_law_asked" (defArgs s_law_asked) (defBody s_law_asked) (defScope s_law_asked) .none kV_law_asked doc_law_asked pm_law_asked an_law_asked cd_law_asked ct_law_asked), sl_law_asked⟩)
    (cd_is_law_asked : PySem.W.codeIn K cd_law_asked "_law_asked" = true)
    (k_law_asked : PySem.W.keepIn K (.ref f_law_asked) = true)
    (a_law_refused_stray : PySem.W.nsIn K mainGlobals "_law_refused_stray" = some (some (.ref f_law_refused_stray)))
    (l_law_refused_stray : K.lookup f_law_refused_stray = some ⟨oc_law_refused_stray, od_law_refused_stray, .func (PySem.W.fnOf "_law_refused_stray" "_law_refused_stray" (defArgs s_law_refused_stray) (defBody s_law_refused_stray) (defScope s_law_refused_stray) .none kV_law_refused_stray doc_law_refused_stray pm_law_refused_stray an_law_refused_stray cd_law_refused_stray ct_law_refused_stray), sl_law_refused_stray⟩)
    (cd_is_law_refused_stray : PySem.W.codeIn K cd_law_refused_stray "_law_refused_stray" = true)
    (k_law_refused_stray : PySem.W.keepIn K (.ref f_law_refused_stray) = true)
    (a_law_refused_group : PySem.W.nsIn K mainGlobals "_law_refused_group" = some (some (.ref f_law_refused_group)))
    (l_law_refused_group : K.lookup f_law_refused_group = some ⟨oc_law_refused_group, od_law_refused_group, .func (PySem.W.fnOf "_law_refused_group" "_law_refused_group" (defArgs s_law_refused_group) (defBody s_law_refused_group) (defScope s_law_refused_group) .none kV_law_refused_group doc_law_refused_group pm_law_refused_group an_law_refused_group cd_law_refused_group ct_law_refused_group), sl_law_refused_group⟩)
    (cd_is_law_refused_group : PySem.W.codeIn K cd_law_refused_group "_law_refused_group" = true)
    (k_law_refused_group : PySem.W.keepIn K (.ref f_law_refused_group) = true)
    (a_law : PySem.W.nsIn K mainGlobals "law" = some (some (.ref f_law)))
    (l_law : K.lookup f_law = some ⟨oc_law, od_law, .func (PySem.W.fnOf "law" "law" (defArgs s_law) (defBody s_law) (defScope s_law) .none kV_law doc_law pm_law an_law cd_law ct_law), sl_law⟩)
    (cd_is_law : PySem.W.codeIn K cd_law "law" = true)
    (k_law : PySem.W.keepIn K (.ref f_law) = true)
    (a_WORDS : PySem.W.nsIn K mainGlobals "WORDS" = some (some (.ref c_WORDS)))
    (a_WHOLE : PySem.W.nsIn K mainGlobals "_WHOLE" = some (some (.ref c_WHOLE)))
    (a_FORMS : PySem.W.nsIn K mainGlobals "_FORMS" = some (some (.ref c_FORMS)))
    (l_WORDS : K.lookup c_WORDS = some ⟨.type "tuple", odc_WORDS, .seq #[.str "free" tWORDS_0, .str "pair" tWORDS_1, .str "claim" tWORDS_2, .str "hook" tWORDS_3, .str "relay" tWORDS_4, .str "clamp" tWORDS_5, .str "trail" tWORDS_6, .str "wheel" tWORDS_7] nc_WORDS, slc_WORDS⟩)
    (l_WHOLE : K.lookup c_WHOLE = some ⟨.type "tuple", odc_WHOLE, .seq #[.str "free" tWHOLE_0, .str "pair" tWHOLE_1] nc_WHOLE, slc_WHOLE⟩)
    (sm_FORMS : (c_FORMS == sysModules) = false)
    (l_FORMS : K.lookup c_FORMS = some { cls := .type "dict", data := .dict #[⟨-8753497827991233192, .ref kk0, .str "free" tF0⟩, ⟨-5164621852614943976, .ref kk1, .str "pair" tF1⟩, ⟨8389048192121911274, .ref kk2, .str "claim" tF2⟩, ⟨3313134723150563520, .ref kk3, .str "hook" tF3⟩, ⟨-1579939305822132846, .ref kk4, .str "relay" tF4⟩, ⟨8677768113715720416, .ref kk5, .str "clamp" tF5⟩, ⟨3374690043038133861, .ref kk6, .str "trail" tF6⟩, ⟨1760123315908831802, .ref kk7, .str "wheel" tF7⟩] epF })
    (l_F0 : K.lookup kk0 = some ⟨.type "tuple", odF0, .seq #[.int 0 aF0_0] nF0, slF0⟩)
    (l_F1 : K.lookup kk1 = some ⟨.type "tuple", odF1, .seq #[.int 1 aF1_0, .int 0 aF1_1] nF1, slF1⟩)
    (l_F2 : K.lookup kk2 = some ⟨.type "tuple", odF2, .seq #[.int 1 aF2_0, .int 1 aF2_1] nF2, slF2⟩)
    (l_F3 : K.lookup kk3 = some ⟨.type "tuple", odF3, .seq #[.int 1 aF3_0, .int 2 aF3_1, .int 1 aF3_2] nF3, slF3⟩)
    (l_F4 : K.lookup kk4 = some ⟨.type "tuple", odF4, .seq #[.int 1 aF4_0, .int 2 aF4_1, .int 2 aF4_2] nF4, slF4⟩)
    (l_F5 : K.lookup kk5 = some ⟨.type "tuple", odF5, .seq #[.int 1 aF5_0, .int 2 aF5_1, .int 1 aF5_2, .int 2 aF5_3] nF5, slF5⟩)
    (l_F6 : K.lookup kk6 = some ⟨.type "tuple", odF6, .seq #[.int 1 aF6_0, .int 2 aF6_1, .int 3 aF6_2, .int 2 aF6_3] nF6, slF6⟩)
    (l_F7 : K.lookup kk7 = some ⟨.type "tuple", odF7, .seq #[.int 1 aF7_0, .int 2 aF7_1, .int 3 aF7_2, .int 0 aF7_3] nF7, slF7⟩)
    (a_MendError : PySem.W.nsIn K mainGlobals "MendError" = some (some (.ref c_MendError)))
    (x_MendError : K.lookup c_MendError = some (excClassObj nm_MendError q_MendError c_MendError N_MendError_ bs_MendError bm_MendError true sn_MendError sub_MendError ab_MendError col_MendError dd_MendError k0_MendError k1_MendError k2_MendError k3_MendError k5_MendError "ValueError.__new__"))
    (a_InvalidImage : PySem.W.nsIn K mainGlobals "InvalidImage" = some (some (.ref c_InvalidImage)))
    (x_InvalidImage : K.lookup c_InvalidImage = some (excClassObj nm_InvalidImage q_InvalidImage c_InvalidImage N_InvalidImage_ bs_InvalidImage [.ref c_MendError, .type "ValueError", .type "Exception", .type "BaseException", .type "object"] true sn_InvalidImage sub_InvalidImage ab_InvalidImage col_InvalidImage dd_InvalidImage k0_InvalidImage k1_InvalidImage k2_InvalidImage k3_InvalidImage k5_InvalidImage "ValueError.__new__"))
    (kc_InvalidImage : PySem.W.keepIn K (.ref c_InvalidImage) = true)
    (sa_InvalidImage : PySem.W.findIn K (.ref c_InvalidImage) "__setattr__" = some (some (.builtin "object.__setattr__")))
    (ga_InvalidImage : PySem.W.findIn K (.ref c_InvalidImage) "__getattribute__" = some (some (.builtin "BaseException.__getattribute__")))
    (gg_InvalidImage : PySem.W.findIn K (.ref c_InvalidImage) "__getattr__" = some none)
    (ca_InvalidImage : PySem.W.findIn K (.ref c_InvalidImage) "__class__" = some (some (.builtin "object.__class__")))
    (i_is_InvalidImage : PySem.W.findIn K (.ref c_InvalidImage) "__init__" = some (some (.ref i_InvalidImage)))
    (t_InvalidImage : PySem.W.typeIn K (.ref i_InvalidImage) = some (.type "function"))
    (nf_InvalidImage : PySem.W.findIn K (.ref c_InvalidImage) "record" = some none)
    (l_i_InvalidImage : K.lookup i_InvalidImage = some ⟨oc_i_InvalidImage, od_i_InvalidImage, .func (PySem.W.fnOf "__init__" "InvalidImage.__init__" (defArgs s_InvalidImage) (defBody s_InvalidImage) (defScope s_InvalidImage) .none kV_i_InvalidImage doc_i_InvalidImage pm_i_InvalidImage an_i_InvalidImage cd_i_InvalidImage ct_i_InvalidImage), sl_i_InvalidImage⟩)
    (cd_is_i_InvalidImage : PySem.W.codeIn K cd_i_InvalidImage "InvalidImage.__init__" = true)
    (k_i_InvalidImage : PySem.W.keepIn K (.ref i_InvalidImage) = true)
    (a_Unrepairable : PySem.W.nsIn K mainGlobals "Unrepairable" = some (some (.ref c_Unrepairable)))
    (x_Unrepairable : K.lookup c_Unrepairable = some (excClassObj nm_Unrepairable q_Unrepairable c_Unrepairable N_Unrepairable_ bs_Unrepairable [.ref c_MendError, .type "ValueError", .type "Exception", .type "BaseException", .type "object"] true sn_Unrepairable sub_Unrepairable ab_Unrepairable col_Unrepairable dd_Unrepairable k0_Unrepairable k1_Unrepairable k2_Unrepairable k3_Unrepairable k5_Unrepairable "ValueError.__new__"))
    (kc_Unrepairable : PySem.W.keepIn K (.ref c_Unrepairable) = true)
    (sa_Unrepairable : PySem.W.findIn K (.ref c_Unrepairable) "__setattr__" = some (some (.builtin "object.__setattr__")))
    (ga_Unrepairable : PySem.W.findIn K (.ref c_Unrepairable) "__getattribute__" = some (some (.builtin "BaseException.__getattribute__")))
    (gg_Unrepairable : PySem.W.findIn K (.ref c_Unrepairable) "__getattr__" = some none)
    (ca_Unrepairable : PySem.W.findIn K (.ref c_Unrepairable) "__class__" = some (some (.builtin "object.__class__")))
    (i_is_Unrepairable : PySem.W.findIn K (.ref c_Unrepairable) "__init__" = some (some (.ref i_Unrepairable)))
    (t_Unrepairable : PySem.W.typeIn K (.ref i_Unrepairable) = some (.type "function"))
    (nf_Unrepairable : PySem.W.findIn K (.ref c_Unrepairable) "group" = some none)
    (l_i_Unrepairable : K.lookup i_Unrepairable = some ⟨oc_i_Unrepairable, od_i_Unrepairable, .func (PySem.W.fnOf "__init__" "Unrepairable.__init__" (defArgs s_Unrepairable) (defBody s_Unrepairable) (defScope s_Unrepairable) .none kV_i_Unrepairable doc_i_Unrepairable pm_i_Unrepairable an_i_Unrepairable cd_i_Unrepairable ct_i_Unrepairable), sl_i_Unrepairable⟩)
    (cd_is_i_Unrepairable : PySem.W.codeIn K cd_i_Unrepairable "Unrepairable.__init__" = true)
    (k_i_Unrepairable : PySem.W.keepIn K (.ref i_Unrepairable) = true)
    (cn : PySem.W.specialIn K (.builtin "object.__class__") "__get__" = some (some (.builtin "getset_descriptor.__get__")))
    (ct : PySem.W.takesIn K (.builtin "object.__class__") = some true)
    (nd : [c_MendError, c_InvalidImage, c_Unrepairable].Nodup)
    (z_int : PySem.W.nsIn K mainGlobals "int" = some none)
    (z_bool : PySem.W.nsIn K mainGlobals "bool" = some none)
    (z_list : PySem.W.nsIn K mainGlobals "list" = some none)
    (z_str : PySem.W.nsIn K mainGlobals "str" = some none)
    (z_tuple : PySem.W.nsIn K mainGlobals "tuple" = some none)
    (z_dict : PySem.W.nsIn K mainGlobals "dict" = some none)
    (z_len : PySem.W.nsIn K mainGlobals "len" = some none)
    (z_range : PySem.W.nsIn K mainGlobals "range" = some none)
    (z_enumerate : PySem.W.nsIn K mainGlobals "enumerate" = some none)
    (z_isinstance : PySem.W.nsIn K mainGlobals "isinstance" = some none)
    (z_all : PySem.W.nsIn K mainGlobals "all" = some none)
    (z_min : PySem.W.nsIn K mainGlobals "min" = some none)
    (z_max : PySem.W.nsIn K mainGlobals "max" = some none)
    (z_sorted : PySem.W.nsIn K mainGlobals "sorted" = some none)
    (z_sum : PySem.W.nsIn K mainGlobals "sum" = some none)
    : ∃ fd : FuncData, (∀ (s : Shared) (v : Value), BindsTo s fd ⟨[v], []⟩ [("script", v)]) ∧ ∀ base : Heap, K.In base → base.Ns mainGlobals mg → FnOk l.prog w K mg base CX0 9 fa fd ["script"] (spLaw K) := by
  have e := hfa.symm.trans (PySem.W.mg_of X G a_law)
  cases e
  obtain ⟨A, hA⟩ : ∃ A : Ad, A = ⟨f_own, f_check_image, f_groups, f_least_records, f_pieces, f_is_repairable, f_census, f_torn_pieces, f_piece_of, f_row_of, f_image_number, f_law_bag, f_law_take, f_law_order, f_law_words, f_law_pattern, f_law_forms, f_law_built, f_law_drawn, f_law_first_stray, f_law_joined, f_law_orders, f_law_fits_form, f_law_form_of, f_law_row_meets, f_law_groups_meet, f_law_pieces_meet, f_law_asked, f_law_refused_stray, f_law_refused_group, fa, c_WORDS, c_WHOLE, c_FORMS, c_MendError, c_InvalidImage, c_Unrepairable, i_InvalidImage, i_Unrepairable⟩ := ⟨_, rfl⟩
  have T : Txt K mg A := {
    g_own := by rw [hA]; exact PySem.W.mg_of X G a_own,
    k_own := by rw [hA]; exact k_own,
    d_own := by rw [hA]; exact ⟨_, fun_mk (st := s_own) l_own cd_is_own k_own⟩,
    g_check_image := by rw [hA]; exact PySem.W.mg_of X G a_check_image,
    k_check_image := by rw [hA]; exact k_check_image,
    d_check_image := by rw [hA]; exact ⟨_, fun_mk (st := s_check_image) l_check_image cd_is_check_image k_check_image⟩,
    g_groups := by rw [hA]; exact PySem.W.mg_of X G a_groups,
    k_groups := by rw [hA]; exact k_groups,
    d_groups := by rw [hA]; exact ⟨_, fun_mk (st := s_groups) l_groups cd_is_groups k_groups⟩,
    g_least_records := by rw [hA]; exact PySem.W.mg_of X G a_least_records,
    k_least_records := by rw [hA]; exact k_least_records,
    d_least_records := by rw [hA]; exact ⟨_, fun_mk (st := s_least_records) l_least_records cd_is_least_records k_least_records⟩,
    g_pieces := by rw [hA]; exact PySem.W.mg_of X G a_pieces,
    k_pieces := by rw [hA]; exact k_pieces,
    d_pieces := by rw [hA]; exact ⟨_, fun_mk (st := s_pieces) l_pieces cd_is_pieces k_pieces⟩,
    g_is_repairable := by rw [hA]; exact PySem.W.mg_of X G a_is_repairable,
    k_is_repairable := by rw [hA]; exact k_is_repairable,
    d_is_repairable := by rw [hA]; exact ⟨_, fun_mk (st := s_is_repairable) l_is_repairable cd_is_is_repairable k_is_repairable⟩,
    g_census := by rw [hA]; exact PySem.W.mg_of X G a_census,
    k_census := by rw [hA]; exact k_census,
    d_census := by rw [hA]; exact ⟨_, fun_mk (st := s_census) l_census cd_is_census k_census⟩,
    g_torn_pieces := by rw [hA]; exact PySem.W.mg_of X G a_torn_pieces,
    k_torn_pieces := by rw [hA]; exact k_torn_pieces,
    d_torn_pieces := by rw [hA]; exact ⟨_, fun_mk (st := s_torn_pieces) l_torn_pieces cd_is_torn_pieces k_torn_pieces⟩,
    g_piece_of := by rw [hA]; exact PySem.W.mg_of X G a_piece_of,
    k_piece_of := by rw [hA]; exact k_piece_of,
    d_piece_of := by rw [hA]; exact ⟨_, fun_mk (st := s_piece_of) l_piece_of cd_is_piece_of k_piece_of⟩,
    g_row_of := by rw [hA]; exact PySem.W.mg_of X G a_row_of,
    k_row_of := by rw [hA]; exact k_row_of,
    d_row_of := by rw [hA]; exact ⟨_, fun_mk (st := s_row_of) l_row_of cd_is_row_of k_row_of⟩,
    g_image_number := by rw [hA]; exact PySem.W.mg_of X G a_image_number,
    k_image_number := by rw [hA]; exact k_image_number,
    d_image_number := by rw [hA]; exact ⟨_, fun_mk (st := s_image_number) l_image_number cd_is_image_number k_image_number⟩,
    g_law_bag := by rw [hA]; exact PySem.W.mg_of X G a_law_bag,
    k_law_bag := by rw [hA]; exact k_law_bag,
    d_law_bag := by rw [hA]; exact ⟨_, fun_mk (st := s_law_bag) l_law_bag cd_is_law_bag k_law_bag⟩,
    g_law_take := by rw [hA]; exact PySem.W.mg_of X G a_law_take,
    k_law_take := by rw [hA]; exact k_law_take,
    d_law_take := by rw [hA]; exact ⟨_, fun_mk (st := s_law_take) l_law_take cd_is_law_take k_law_take⟩,
    g_law_order := by rw [hA]; exact PySem.W.mg_of X G a_law_order,
    k_law_order := by rw [hA]; exact k_law_order,
    d_law_order := by rw [hA]; exact ⟨_, fun_mk (st := s_law_order) l_law_order cd_is_law_order k_law_order⟩,
    g_law_words := by rw [hA]; exact PySem.W.mg_of X G a_law_words,
    k_law_words := by rw [hA]; exact k_law_words,
    d_law_words := by rw [hA]; exact ⟨_, fun_mk (st := s_law_words) l_law_words cd_is_law_words k_law_words⟩,
    g_law_pattern := by rw [hA]; exact PySem.W.mg_of X G a_law_pattern,
    k_law_pattern := by rw [hA]; exact k_law_pattern,
    d_law_pattern := by rw [hA]; exact ⟨_, fun_mk (st := s_law_pattern) l_law_pattern cd_is_law_pattern k_law_pattern⟩,
    g_law_forms := by rw [hA]; exact PySem.W.mg_of X G a_law_forms,
    k_law_forms := by rw [hA]; exact k_law_forms,
    d_law_forms := by rw [hA]; exact ⟨_, fun_mk (st := s_law_forms) l_law_forms cd_is_law_forms k_law_forms⟩,
    g_law_built := by rw [hA]; exact PySem.W.mg_of X G a_law_built,
    k_law_built := by rw [hA]; exact k_law_built,
    d_law_built := by rw [hA]; exact ⟨_, fun_mk (st := s_law_built) l_law_built cd_is_law_built k_law_built⟩,
    g_law_drawn := by rw [hA]; exact PySem.W.mg_of X G a_law_drawn,
    k_law_drawn := by rw [hA]; exact k_law_drawn,
    d_law_drawn := by rw [hA]; exact ⟨_, fun_mk (st := s_law_drawn) l_law_drawn cd_is_law_drawn k_law_drawn⟩,
    g_law_first_stray := by rw [hA]; exact PySem.W.mg_of X G a_law_first_stray,
    k_law_first_stray := by rw [hA]; exact k_law_first_stray,
    d_law_first_stray := by rw [hA]; exact ⟨_, fun_mk (st := s_law_first_stray) l_law_first_stray cd_is_law_first_stray k_law_first_stray⟩,
    g_law_joined := by rw [hA]; exact PySem.W.mg_of X G a_law_joined,
    k_law_joined := by rw [hA]; exact k_law_joined,
    d_law_joined := by rw [hA]; exact ⟨_, fun_mk (st := s_law_joined) l_law_joined cd_is_law_joined k_law_joined⟩,
    g_law_orders := by rw [hA]; exact PySem.W.mg_of X G a_law_orders,
    k_law_orders := by rw [hA]; exact k_law_orders,
    d_law_orders := by rw [hA]; exact ⟨_, fun_mk (st := s_law_orders) l_law_orders cd_is_law_orders k_law_orders⟩,
    g_law_fits_form := by rw [hA]; exact PySem.W.mg_of X G a_law_fits_form,
    k_law_fits_form := by rw [hA]; exact k_law_fits_form,
    d_law_fits_form := by rw [hA]; exact ⟨_, fun_mk (st := s_law_fits_form) l_law_fits_form cd_is_law_fits_form k_law_fits_form⟩,
    g_law_form_of := by rw [hA]; exact PySem.W.mg_of X G a_law_form_of,
    k_law_form_of := by rw [hA]; exact k_law_form_of,
    d_law_form_of := by rw [hA]; exact ⟨_, fun_mk (st := s_law_form_of) l_law_form_of cd_is_law_form_of k_law_form_of⟩,
    g_law_row_meets := by rw [hA]; exact PySem.W.mg_of X G a_law_row_meets,
    k_law_row_meets := by rw [hA]; exact k_law_row_meets,
    d_law_row_meets := by rw [hA]; exact ⟨_, fun_mk (st := s_law_row_meets) l_law_row_meets cd_is_law_row_meets k_law_row_meets⟩,
    g_law_groups_meet := by rw [hA]; exact PySem.W.mg_of X G a_law_groups_meet,
    k_law_groups_meet := by rw [hA]; exact k_law_groups_meet,
    d_law_groups_meet := by rw [hA]; exact ⟨_, fun_mk (st := s_law_groups_meet) l_law_groups_meet cd_is_law_groups_meet k_law_groups_meet⟩,
    g_law_pieces_meet := by rw [hA]; exact PySem.W.mg_of X G a_law_pieces_meet,
    k_law_pieces_meet := by rw [hA]; exact k_law_pieces_meet,
    d_law_pieces_meet := by rw [hA]; exact ⟨_, fun_mk (st := s_law_pieces_meet) l_law_pieces_meet cd_is_law_pieces_meet k_law_pieces_meet⟩,
    g_law_asked := by rw [hA]; exact PySem.W.mg_of X G a_law_asked,
    k_law_asked := by rw [hA]; exact k_law_asked,
    d_law_asked := by rw [hA]; exact ⟨_, fun_mk (st := s_law_asked) l_law_asked cd_is_law_asked k_law_asked⟩,
    g_law_refused_stray := by rw [hA]; exact PySem.W.mg_of X G a_law_refused_stray,
    k_law_refused_stray := by rw [hA]; exact k_law_refused_stray,
    d_law_refused_stray := by rw [hA]; exact ⟨_, fun_mk (st := s_law_refused_stray) l_law_refused_stray cd_is_law_refused_stray k_law_refused_stray⟩,
    g_law_refused_group := by rw [hA]; exact PySem.W.mg_of X G a_law_refused_group,
    k_law_refused_group := by rw [hA]; exact k_law_refused_group,
    d_law_refused_group := by rw [hA]; exact ⟨_, fun_mk (st := s_law_refused_group) l_law_refused_group cd_is_law_refused_group k_law_refused_group⟩,
    g_law := by rw [hA]; exact PySem.W.mg_of X G a_law,
    k_law := by rw [hA]; exact k_law,
    d_law := by rw [hA]; exact ⟨_, fun_mk (st := s_law) l_law cd_is_law k_law⟩,
    g_WORDS := by rw [hA]; exact PySem.W.mg_of X G a_WORDS,
    g_WHOLE := by rw [hA]; exact PySem.W.mg_of X G a_WHOLE,
    g_FORMS := by rw [hA]; exact PySem.W.mg_of X G a_FORMS,
    w_WORDS := by rw [hA]; exact words_mk l_WORDS,
    w_WHOLE := by rw [hA]; exact whole_mk l_WHOLE,
    e_MendError := by rw [hA]; exact ⟨PySem.W.mg_of X G a_MendError, ⟨_, _, _, _, _, _, _, _, _, _, _, _, _, _, _, x_MendError⟩⟩,
    e_InvalidImage := by rw [hA]; exact ⟨PySem.W.mg_of X G a_InvalidImage, kc_InvalidImage, ⟨_, _, _, _, _, _, _, _, _, _, _, _, _, _, x_InvalidImage⟩, sa_InvalidImage, ga_InvalidImage, gg_InvalidImage, ca_InvalidImage⟩,
    f_InvalidImage := by rw [hA]; exact ⟨i_is_InvalidImage, t_InvalidImage, nf_InvalidImage, ⟨_, fun_mk (st := s_InvalidImage) l_i_InvalidImage cd_is_i_InvalidImage k_i_InvalidImage⟩⟩,
    e_Unrepairable := by rw [hA]; exact ⟨PySem.W.mg_of X G a_Unrepairable, kc_Unrepairable, ⟨_, _, _, _, _, _, _, _, _, _, _, _, _, _, x_Unrepairable⟩, sa_Unrepairable, ga_Unrepairable, gg_Unrepairable, ca_Unrepairable⟩,
    f_Unrepairable := by rw [hA]; exact ⟨i_is_Unrepairable, t_Unrepairable, nf_Unrepairable, ⟨_, fun_mk (st := s_Unrepairable) l_i_Unrepairable cd_is_i_Unrepairable k_i_Unrepairable⟩⟩,
    cn := cn,
    ct := ct,
    nd := by rw [hA]; exact nd,
    n_int := PySem.W.mg_none_of X G z_int,
    n_bool := PySem.W.mg_none_of X G z_bool,
    n_list := PySem.W.mg_none_of X G z_list,
    n_str := PySem.W.mg_none_of X G z_str,
    n_tuple := PySem.W.mg_none_of X G z_tuple,
    n_dict := PySem.W.mg_none_of X G z_dict,
    n_len := PySem.W.mg_none_of X G z_len,
    n_range := PySem.W.mg_none_of X G z_range,
    n_enumerate := PySem.W.mg_none_of X G z_enumerate,
    n_isinstance := PySem.W.mg_none_of X G z_isinstance,
    n_all := PySem.W.mg_none_of X G z_all,
    n_min := PySem.W.mg_none_of X G z_min,
    n_max := PySem.W.mg_none_of X G z_max,
    n_sorted := PySem.W.mg_none_of X G z_sorted,
    n_sum := PySem.W.mg_none_of X G z_sum }
  have hF : TabK l.prog w K A.FORMS formsT := by rw [hA]; exact forms_mk sm_FORMS l_FORMS l_F0 l_F1 l_F2 l_F3 l_F4 l_F5 l_F6 l_F7
  have FL := fun_mk (st := s_law) l_law cd_is_law k_law
  have eL : A.law = fa := by rw [hA]
  refine ⟨PySem.W.fnOf "law" "law" (defArgs s_law) (defBody s_law) (defScope s_law) .none kV_law doc_law pm_law an_law cd_law ct_law, fun s v => .of_eq rfl, fun base _ _ => ?_⟩
  rw [← eL] at FL ⊢
  have g_own := ok_own (P := l.prog) (w := w) (base := base) T 
  have g_InvalidImage := ok_InvalidImage (P := l.prog) (w := w) (base := base) T 
  have g_Unrepairable := ok_Unrepairable (P := l.prog) (w := w) (base := base) T g_own
  have g_check_image := ok_check_image (P := l.prog) (w := w) (base := base) T g_InvalidImage
  have g_least_records := ok_least_records (P := l.prog) (w := w) (base := base) T 
  have g_groups := ok_groups (P := l.prog) (w := w) (base := base) T g_check_image g_least_records
  have g_row_of := ok_row_of (P := l.prog) (w := w) (base := base) T 
  have g_piece_of := ok_piece_of (P := l.prog) (w := w) (base := base) T hF g_row_of
  have g_pieces := ok_pieces (P := l.prog) (w := w) (base := base) T g_groups g_piece_of g_Unrepairable
  have g_is_repairable := ok_is_repairable (P := l.prog) (w := w) (base := base) T g_groups g_piece_of
  have g_census := ok_census (P := l.prog) (w := w) (base := base) T g_pieces
  have g_torn_pieces := ok_torn_pieces (P := l.prog) (w := w) (base := base) T g_pieces
  have g_image_number := ok_image_number (P := l.prog) (w := w) (base := base) T g_pieces
  have g_law_asked := ok_law_asked (P := l.prog) (w := w) (base := base) T g_pieces g_census g_torn_pieces g_image_number g_groups g_is_repairable
  have g_law_row_meets := ok_law_row_meets (P := l.prog) (w := w) (base := base) T 
  have h_law_row_meets := okh_law_row_meets (P := l.prog) (w := w) (base := base) T 
  have g_law_refused_stray := ok_law_refused_stray (P := l.prog) (w := w) (base := base) T g_law_asked h_law_row_meets
  have g_law_refused_group := ok_law_refused_group (P := l.prog) (w := w) (base := base) T g_law_asked h_law_row_meets
  have g_law_bag := ok_law_bag (P := l.prog) (w := w) (base := base) T 
  have g_law_take := ok_law_take (P := l.prog) (w := w) (base := base) T 
  have g_law_order := ok_law_order (P := l.prog) (w := w) (base := base) T g_law_take
  have g_law_words := ok_law_words (P := l.prog) (w := w) (base := base) T 
  have g_law_pattern := ok_law_pattern (P := l.prog) (w := w) (base := base) T 
  have g_law_orders := ok_law_orders (P := l.prog) (w := w) (base := base) T 
  have g_law_fits_form := ok_law_fits_form (P := l.prog) (w := w) (base := base) T g_law_pattern
  have g_law_form_of := ok_law_form_of (P := l.prog) (w := w) (base := base) T g_law_orders g_law_fits_form g_law_words
  have g_law_first_stray := ok_law_first_stray (P := l.prog) (w := w) (base := base) T 
  have g_law_joined := ok_law_joined (P := l.prog) (w := w) (base := base) T 
  have g_law_groups_meet := ok_law_groups_meet (P := l.prog) (w := w) (base := base) T g_law_row_meets
  have g_law_pieces_meet := ok_law_pieces_meet (P := l.prog) (w := w) (base := base) T g_law_row_meets
  have g_law_forms := ok_law_forms (P := l.prog) (w := w) (base := base) T g_law_take g_law_pattern
  have g_law_built := ok_law_built (P := l.prog) (w := w) (base := base) T g_law_forms g_law_order g_law_take
  have g_law_drawn := ok_law_drawn (P := l.prog) (w := w) (base := base) T g_law_built g_law_take
  exact ok_law T FL g_law_bag g_law_drawn g_law_first_stray g_law_refused_stray g_law_joined g_law_groups_meet g_groups g_is_repairable g_law_form_of g_law_pieces_meet g_pieces g_law_refused_group
theorem walk {l : PySem.W.OpenLaw} {q : Program} {loose : List Str} {XP : (Str → Option Value) → Heap → Prop} {YP : World → Heap → Prop} {d : DefRec} {K : Params → PySem.W.Frag} (hn : l.most = some 63) (hdf : d.params.defaults = [])
    (hY : ∀ (w : World) (h : Heap), YP w h → (K w.params).In h)
    (F : ∀ (w : World) (mg : Str → Option Value) (fa : Addr) (h : Heap), (K w.params).In h → h.Ns mainGlobals mg → mg d.name = some (.ref fa) →
      ∃ fd : FuncData, (∀ (s : Shared) (u : Value), BindsTo s fd ⟨[u], []⟩ [("script", u)]) ∧ ∀ base : Heap, (K w.params).In base → base.Ns mainGlobals mg → FnOk l.prog w (K w.params) mg base CX0 9 fa fd ["script"] (spLaw (K w.params))) :
    PySem.W.WalkO q loose XP YP l.row.toRowW d [] (fun f vs => PySem.call f vs) :=
  L2.walk_of (n := 63) (k := 9) (x := "script") (CX := fun _ => CX0) (sp := fun w => spLaw (K w.params)) hn (by decide) hdf ⟨rfl, by decide, by decide⟩ hY F (fun _ _ a ns hl _ hS => ⟨a, ns, rfl, hS, hl, fun _ => rfl⟩) fun _ _ _ _ _ z => z
end Pv

open PySem PySem.W PyProof.Rows
set_option maxRecDepth 100000 in
set_option maxHeartbeats 0 in
theorem PySem.Challenge.cw_peermend_k02_whole_bad_groups_holds : PySem.Challenge.rw_peermend_k02_whole_bad_groups.Holds := by
  w_on; o_law; k_head; (case hw => w_witness2)
  k_fill
  refine Pv.walk (l := PySem.Challenge.rw_peermend_k02_whole_bad_groups) rfl rfl (fun w h Y => PySem.W.kIn_of Y) ?F
  case F =>
    intro w mg fa h KX G hmg
    refine' Pv.all_mk KX G hmg ?qa_own ?ql_own ?qcd_is_own ?qk_own ?qa_check_image ?ql_check_image ?qcd_is_check_image ?qk_check_image ?qa_groups ?ql_groups ?qcd_is_groups ?qk_groups ?qa_least_records ?ql_least_records ?qcd_is_least_records ?qk_least_records ?qa_pieces ?ql_pieces ?qcd_is_pieces ?qk_pieces ?qa_is_repairable ?ql_is_repairable ?qcd_is_is_repairable ?qk_is_repairable ?qa_census ?ql_census ?qcd_is_census ?qk_census ?qa_torn_pieces ?ql_torn_pieces ?qcd_is_torn_pieces ?qk_torn_pieces ?qa_piece_of ?ql_piece_of ?qcd_is_piece_of ?qk_piece_of ?qa_row_of ?ql_row_of ?qcd_is_row_of ?qk_row_of ?qa_image_number ?ql_image_number ?qcd_is_image_number ?qk_image_number ?qa_law_bag ?ql_law_bag ?qcd_is_law_bag ?qk_law_bag ?qa_law_take ?ql_law_take ?qcd_is_law_take ?qk_law_take ?qa_law_order ?ql_law_order ?qcd_is_law_order ?qk_law_order ?qa_law_words ?ql_law_words ?qcd_is_law_words ?qk_law_words ?qa_law_pattern ?ql_law_pattern ?qcd_is_law_pattern ?qk_law_pattern ?qa_law_forms ?ql_law_forms ?qcd_is_law_forms ?qk_law_forms ?qa_law_built ?ql_law_built ?qcd_is_law_built ?qk_law_built ?qa_law_drawn ?ql_law_drawn ?qcd_is_law_drawn ?qk_law_drawn ?qa_law_first_stray ?ql_law_first_stray ?qcd_is_law_first_stray ?qk_law_first_stray ?qa_law_joined ?ql_law_joined ?qcd_is_law_joined ?qk_law_joined ?qa_law_orders ?ql_law_orders ?qcd_is_law_orders ?qk_law_orders ?qa_law_fits_form ?ql_law_fits_form ?qcd_is_law_fits_form ?qk_law_fits_form ?qa_law_form_of ?ql_law_form_of ?qcd_is_law_form_of ?qk_law_form_of ?qa_law_row_meets ?ql_law_row_meets ?qcd_is_law_row_meets ?qk_law_row_meets ?qa_law_groups_meet ?ql_law_groups_meet ?qcd_is_law_groups_meet ?qk_law_groups_meet ?qa_law_pieces_meet ?ql_law_pieces_meet ?qcd_is_law_pieces_meet ?qk_law_pieces_meet ?qa_law_asked ?ql_law_asked ?qcd_is_law_asked ?qk_law_asked ?qa_law_refused_stray ?ql_law_refused_stray ?qcd_is_law_refused_stray ?qk_law_refused_stray ?qa_law_refused_group ?ql_law_refused_group ?qcd_is_law_refused_group ?qk_law_refused_group ?qa_law ?ql_law ?qcd_is_law ?qk_law ?qa_WORDS ?qa_WHOLE ?qa_FORMS ?ql_WORDS ?ql_WHOLE ?qsm_FORMS ?ql_FORMS ?ql_F0 ?ql_F1 ?ql_F2 ?ql_F3 ?ql_F4 ?ql_F5 ?ql_F6 ?ql_F7 ?qa_MendError ?qx_MendError ?qa_InvalidImage ?qx_InvalidImage ?qkc_InvalidImage ?qsa_InvalidImage ?qga_InvalidImage ?qgg_InvalidImage ?qca_InvalidImage ?qi_is_InvalidImage ?qt_InvalidImage ?qnf_InvalidImage ?ql_i_InvalidImage ?qcd_is_i_InvalidImage ?qk_i_InvalidImage ?qa_Unrepairable ?qx_Unrepairable ?qkc_Unrepairable ?qsa_Unrepairable ?qga_Unrepairable ?qgg_Unrepairable ?qca_Unrepairable ?qi_is_Unrepairable ?qt_Unrepairable ?qnf_Unrepairable ?ql_i_Unrepairable ?qcd_is_i_Unrepairable ?qk_i_Unrepairable ?qcn ?qct ?qnd ?qz_int ?qz_bool ?qz_list ?qz_str ?qz_tuple ?qz_dict ?qz_len ?qz_range ?qz_enumerate ?qz_isinstance ?qz_all ?qz_min ?qz_max ?qz_sorted ?qz_sum
    (case qa_own => k_is)
    (case ql_own => k_is)
    (case qcd_is_own => k_is)
    (case qk_own => k_is)
    (case qa_check_image => k_is)
    (case ql_check_image => k_is)
    (case qcd_is_check_image => k_is)
    (case qk_check_image => k_is)
    (case qa_groups => k_is)
    (case ql_groups => k_is)
    (case qcd_is_groups => k_is)
    (case qk_groups => k_is)
    (case qa_least_records => k_is)
    (case ql_least_records => k_is)
    (case qcd_is_least_records => k_is)
    (case qk_least_records => k_is)
    (case qa_pieces => k_is)
    (case ql_pieces => k_is)
    (case qcd_is_pieces => k_is)
    (case qk_pieces => k_is)
    (case qa_is_repairable => k_is)
    (case ql_is_repairable => k_is)
    (case qcd_is_is_repairable => k_is)
    (case qk_is_repairable => k_is)
    (case qa_census => k_is)
    (case ql_census => k_is)
    (case qcd_is_census => k_is)
    (case qk_census => k_is)
    (case qa_torn_pieces => k_is)
    (case ql_torn_pieces => k_is)
    (case qcd_is_torn_pieces => k_is)
    (case qk_torn_pieces => k_is)
    (case qa_piece_of => k_is)
    (case ql_piece_of => k_is)
    (case qcd_is_piece_of => k_is)
    (case qk_piece_of => k_is)
    (case qa_row_of => k_is)
    (case ql_row_of => k_is)
    (case qcd_is_row_of => k_is)
    (case qk_row_of => k_is)
    (case qa_image_number => k_is)
    (case ql_image_number => k_is)
    (case qcd_is_image_number => k_is)
    (case qk_image_number => k_is)
    (case qa_law_bag => k_is)
    (case ql_law_bag => k_is)
    (case qcd_is_law_bag => k_is)
    (case qk_law_bag => k_is)
    (case qa_law_take => k_is)
    (case ql_law_take => k_is)
    (case qcd_is_law_take => k_is)
    (case qk_law_take => k_is)
    (case qa_law_order => k_is)
    (case ql_law_order => k_is)
    (case qcd_is_law_order => k_is)
    (case qk_law_order => k_is)
    (case qa_law_words => k_is)
    (case ql_law_words => k_is)
    (case qcd_is_law_words => k_is)
    (case qk_law_words => k_is)
    (case qa_law_pattern => k_is)
    (case ql_law_pattern => k_is)
    (case qcd_is_law_pattern => k_is)
    (case qk_law_pattern => k_is)
    (case qa_law_forms => k_is)
    (case ql_law_forms => k_is)
    (case qcd_is_law_forms => k_is)
    (case qk_law_forms => k_is)
    (case qa_law_built => k_is)
    (case ql_law_built => k_is)
    (case qcd_is_law_built => k_is)
    (case qk_law_built => k_is)
    (case qa_law_drawn => k_is)
    (case ql_law_drawn => k_is)
    (case qcd_is_law_drawn => k_is)
    (case qk_law_drawn => k_is)
    (case qa_law_first_stray => k_is)
    (case ql_law_first_stray => k_is)
    (case qcd_is_law_first_stray => k_is)
    (case qk_law_first_stray => k_is)
    (case qa_law_joined => k_is)
    (case ql_law_joined => k_is)
    (case qcd_is_law_joined => k_is)
    (case qk_law_joined => k_is)
    (case qa_law_orders => k_is)
    (case ql_law_orders => k_is)
    (case qcd_is_law_orders => k_is)
    (case qk_law_orders => k_is)
    (case qa_law_fits_form => k_is)
    (case ql_law_fits_form => k_is)
    (case qcd_is_law_fits_form => k_is)
    (case qk_law_fits_form => k_is)
    (case qa_law_form_of => k_is)
    (case ql_law_form_of => k_is)
    (case qcd_is_law_form_of => k_is)
    (case qk_law_form_of => k_is)
    (case qa_law_row_meets => k_is)
    (case ql_law_row_meets => k_is)
    (case qcd_is_law_row_meets => k_is)
    (case qk_law_row_meets => k_is)
    (case qa_law_groups_meet => k_is)
    (case ql_law_groups_meet => k_is)
    (case qcd_is_law_groups_meet => k_is)
    (case qk_law_groups_meet => k_is)
    (case qa_law_pieces_meet => k_is)
    (case ql_law_pieces_meet => k_is)
    (case qcd_is_law_pieces_meet => k_is)
    (case qk_law_pieces_meet => k_is)
    (case qa_law_asked => k_is)
    (case ql_law_asked => k_is)
    (case qcd_is_law_asked => k_is)
    (case qk_law_asked => k_is)
    (case qa_law_refused_stray => k_is)
    (case ql_law_refused_stray => k_is)
    (case qcd_is_law_refused_stray => k_is)
    (case qk_law_refused_stray => k_is)
    (case qa_law_refused_group => k_is)
    (case ql_law_refused_group => k_is)
    (case qcd_is_law_refused_group => k_is)
    (case qk_law_refused_group => k_is)
    (case qa_law => k_is)
    (case ql_law => k_is)
    (case qcd_is_law => k_is)
    (case qk_law => k_is)
    (case qa_WORDS => k_is)
    (case qa_WHOLE => k_is)
    (case qa_FORMS => k_is)
    (case ql_WORDS => k_is)
    (case ql_WHOLE => k_is)
    (case qsm_FORMS => first | decide | rfl | k_is)
    (case ql_FORMS => k_is)
    (case ql_F0 => k_is)
    (case ql_F1 => k_is)
    (case ql_F2 => k_is)
    (case ql_F3 => k_is)
    (case ql_F4 => k_is)
    (case ql_F5 => k_is)
    (case ql_F6 => k_is)
    (case ql_F7 => k_is)
    (case qa_MendError => k_is)
    (case qx_MendError => k_is)
    (case qa_InvalidImage => k_is)
    (case qx_InvalidImage => k_is)
    (case qkc_InvalidImage => k_is)
    (case qsa_InvalidImage => k_is)
    (case qga_InvalidImage => k_is)
    (case qgg_InvalidImage => k_is)
    (case qca_InvalidImage => k_is)
    (case qi_is_InvalidImage => k_is)
    (case qt_InvalidImage => k_is)
    (case qnf_InvalidImage => k_is)
    (case ql_i_InvalidImage => k_is)
    (case qcd_is_i_InvalidImage => k_is)
    (case qk_i_InvalidImage => k_is)
    (case qa_Unrepairable => k_is)
    (case qx_Unrepairable => k_is)
    (case qkc_Unrepairable => k_is)
    (case qsa_Unrepairable => k_is)
    (case qga_Unrepairable => k_is)
    (case qgg_Unrepairable => k_is)
    (case qca_Unrepairable => k_is)
    (case qi_is_Unrepairable => k_is)
    (case qt_Unrepairable => k_is)
    (case qnf_Unrepairable => k_is)
    (case ql_i_Unrepairable => k_is)
    (case qcd_is_i_Unrepairable => k_is)
    (case qk_i_Unrepairable => k_is)
    (case qcn => k_is)
    (case qct => k_is)
    (case qnd => decide)
    (case qz_int => k_is)
    (case qz_bool => k_is)
    (case qz_list => k_is)
    (case qz_str => k_is)
    (case qz_tuple => k_is)
    (case qz_dict => k_is)
    (case qz_len => k_is)
    (case qz_range => k_is)
    (case qz_enumerate => k_is)
    (case qz_isinstance => k_is)
    (case qz_all => k_is)
    (case qz_min => k_is)
    (case qz_max => k_is)
    (case qz_sorted => k_is)
    (case qz_sum => k_is)
