import PyProof.Rows.All
import Wide.All
import OpenK.AllK
import Wide.FinOn
import KE.KIsAll
import KE.KExcIs
import HandS.ForMost
import HandS.ForExc
import HandS.TryMany
import HandS.ExcInit
import HandS.ExcValue
import HandS.ExcField
import HandS.IsInst
import HandS.ExcIs
import HandS.Small
import HandS.Wide
import HandS.Flow
import HandS.Evl
import HandS.Conv
import HandS.Walk
import KE.KDictKeyed
import KE.KDictList
import KE.KDictDisplayH
import HandS.SetKeys
import HandS.DictComp
import HandS.NoneIn
import HandS.SortInts
import HandS.SortOrd
import HandS.TupAny
import HandS.ListItems
import HandS.SortRule
import HandS.ExcCtx
import HandS.HotCalls
import HandS.ExcInitHot
import HandS.TupSets
import HandS.SetFor
import HandS.Deep
import PyProof.WalkInts
import PyProof.WalksMore
import KE.GoesMore
import HandS.Zip
import HandS.Style
import HandS.HeadHook3
import HandS.Star
import HandS.MakeKwOnly
import HandS.CallLocal
import HandS.ClsMeth
import HandS.ExcOwn
import HandS.Property
import HandS.More
import HandS.SlotsOwn
import HandS.Defaults
import HandS.Rev
import KE.GoesEnum
import HandS.List
import KE.KRevSl
import KE.SortData
import KE.DataCmp
import PyProof.TupleOfSeq
import KE.KListMore
import HandS.Strs
import HandS.FStr
import KE.DataEq
import PySem.Challenge.RW_peermend_k29_involvement_of_records
set_option Elab.async false
set_option linter.all false
set_option maxRecDepth 100000
set_option maxHeartbeats 4000000
namespace L2
open PySem PySem.Spec PyProof.Rows

/-- an error object held as a value: without a dict, or with one that holds fields -/
def ErrT (H : Hp) (a C : Addr) : Prop := H a = some (ExO (.ref C) a) ∨ ∃ (dx : Addr) (fs : List (Str × V)), H a = some (exo a C (some dx)) ∧ H dx = some (exd dx fs)
/-- isinstance of such a value -/
def rIsX (K : PySem.W.Frag) : List V → Hp → VK → Prop := fun xs H Q => ∃ (a C : Addr) (c : V) (u : Value) (b : Bool), xs = [.ref a, c] ∧ ErrT H a C ∧ ExcC K C ∧ ClsV c u ∧ PySem.W.kitOne K (.ref C) u = some b ∧ Q (.bl b) H
theorem clsIn_some {K : PySem.W.Frag} {C : Addr} (h : PySem.W.hasDictIn K C = true) : (PySem.W.clsIn K C).isSome = true := by
  obtain ⟨cd, hc, _⟩ := PySem.W.any_some h
  rw [hc]
  rfl
theorem kitX_err {K : PySem.W.Frag} {C a : Addr} {oe : Obj} {od : Option Obj} (D : ExcC K C) : PySem.W.KitX K (.ref a) (.ref C) (fun h => PySem.W.InstAt h a oe C od) :=
  PySem.W.kitx_exc (clsIn_some D.hd) D.hg D.hk D.hs D.ha D.hn D.ht D.hm
theorem call_isX {X : Cx} : CallR X (.builtin "isinstance") (rIsX X.K) := by
  intro pins s σ H xs us Q I r h
  obtain ⟨a, C, c, u, b, rfl, T, D, k, e, q⟩ := h
  obtain ⟨u1, u2, rfl, r1, r2⟩ := vals2 r
  have e2 := k.eq r2
  subst e2
  cases (show u1 = Value.ref a from r1)
  rcases T with ea | ⟨dx, fs, ea, ed⟩
  · have x : ObjOk X.prog X.w H s.heap a (ExO (.ref C) a) := I.hok a _ ea
    obtain ⟨⟨oe, vs, ho, hz, hd, _⟩, _, _⟩ := x
    obtain ⟨oc, odi, oda, osl⟩ := oe
    obtain ⟨h1, h2⟩ := hz
    dsimp only at h1 h2 hd
    subst h1 h2 hd
    exact PySem.W.kia_one (kitX_err (od := none) D) I.kIn ⟨ho, rfl, rfl, trivial⟩ e (fun z => nomatch z) fun tk => ⟨.bl b, H, I.tok tk, rfl, q⟩
  · obtain ⟨t1, ho⟩ := exo_at I.hok ea
    obtain ⟨mA, hns, _⟩ := exd_at I.hok ed
    obtain ⟨od, ho2, _⟩ := lookIn_ns hns
    exact PySem.W.kia_one (kitX_err (od := some od) D) I.kIn ⟨ho, rfl, rfl, ho2⟩ e (fun z => nomatch z) fun tk => ⟨.bl b, H, I.tok tk, rfl, q⟩
/-- isinstance(e, c), e the exception that the suite holds, with its dict -/
def rIsS (K : PySem.W.Frag) (a : Addr) (cls : Value) (d : Option Addr) : List V → Hp → VK → Prop := fun xs H Q => ∃ (C dd : Addr) (fs : List (Str × V)) (c : V) (u : Value) (b : Bool), xs = [.ref a, c] ∧ cls = .ref C ∧ d = some dd ∧ H dd = some (.xd fs) ∧
  ExcC K C ∧ ClsV c u ∧ PySem.W.kitOne K (.ref C) u = some b ∧ Q (.bl b) H
theorem call_isS {X : Cx} {K : PySem.W.Frag} {a : Addr} {cls : Value} {d : Option Addr} {oe : Obj} {pn : List (Addr × Obj)} (hK : X.K = K) (hz : Zc cls d oe) (hf : ∃ vs, oe.data = .fields vs) : CallR (X.suite a ((a, oe) :: pn)) (.builtin "isinstance") (rIsS K a cls d) := by
  subst hK
  intro pins s σ H xs us Q I r h
  obtain ⟨C, dd, fs, c, u, b, rfl, rfl, rfl, ea, D, k, e, q⟩ := h
  obtain ⟨u1, u2, rfl, r1, r2⟩ := vals2 r
  have e2 := k.eq r2
  subst e2
  cases (show u1 = Value.ref a from r1)
  obtain ⟨hget, _⟩ := I.pin (a, oe) (List.mem_append.mpr (.inl List.mem_cons_self))
  obtain ⟨vs, hv⟩ := hf
  have hx : ObjOk X.prog X.w H s.heap dd (.xd fs) := I.hok dd _ ea
  obtain ⟨mA, hns, hr⟩ := hx
  obtain ⟨od, ho, hl⟩ := lookIn_ns hns
  have J : PySem.W.InstAt s.heap a oe C (some od) := ⟨hget, hz.1, by unfold PySem.W.notCls; rw [hv] <;> rfl, by rw [hz.2]; exact ho⟩
  exact PySem.W.kia_one (kitX_err D) I.kIn J e (fun z => nomatch z) fun tk => ⟨.bl b, H, I.kept (t' := tk) fun _ _ z => z, rfl, q⟩

section
variable {X : Cx} {C : Addr} {bmB : List Value} {B newId initId : String} {x : Str} {p pos : Pos}
/-- X(), raised: an own exception class without own __init__ -/
theorem pmk_own0 (F : ExcBaseFacts B newId initId bmB) (q : PySem.W.excIn X.K C bmB newId = true) (gC : X.mg x = some (.ref C)) (kC : PySem.W.keepIn X.K (.ref C) = true) (r : Raises X (.ref C)) (hg : Gl X x)
    (hdb : (x == ("__debug__" : Str)) = false := by decide) : PMk X (.Call (.Name x p) [] [] pos) (fun _ H Q => Q (.ref C) none H) := by
  intro pins s σ H Q I h
  refine wpAny_Call_Name_kw (ld_glob I hg gC ?_ hdb)
  refine PySem.W.callWith_K0 I.kIn kC ?_
  obtain ⟨bm, N, nm, qn, bs, hdct, sn, sub, ab, col, dd, k0, k1, k2, k3, k5, mN, hC, hN, hni, T⟩ := exc_obj I.kIn q
  refine wpAny_call_exc_subT F T hC hN hni (fun h' e hm => ?_) (Nat.zero_le _)
  exact mk_of I hm r h (I.hok.gone hm.new)
/-- X(), as a value -/
theorem pe_exc0 (F : ExcBaseFacts B newId initId bmB) (q : PySem.W.excIn X.K C bmB newId = true) (gC : X.mg x = some (.ref C)) (kC : PySem.W.keepIn X.K (.ref C) = true) (hg : Gl X x)
    (hdb : (x == ("__debug__" : Str)) = false := by decide) : PE X (.Call (.Name x p) [] [] pos) (fun _ H Q => ∀ a, H a = none → Q (.ref a) (upd H a (ExO (.ref C) a))) := by
  refine ⟨fun pins s σ H Q I h => ?_⟩
  refine wpAny_Call_Name_kw (ld_glob I hg gC ?_ hdb)
  refine PySem.W.callWith_K0 I.kIn kC ?_
  obtain ⟨bm, N, nm, qn, bs, hdct, sn, sub, ab, col, dd, k0, k1, k2, k3, k5, mN, hC, hN, hni, T⟩ := exc_obj I.kIn q
  refine wpAny_call_exc_subT F T hC hN hni (fun h' a hm => ?_) (Nat.zero_le _)
  have hn : H a = none := I.hok.gone hm.new
  obtain ⟨t, ht, _, _⟩ := hm.there
  exact ⟨.ref a, upd H a (ExO (.ref C) a), I.laidN hm.keeps hm.new hn (exO_ok ht ⟨rfl, rfl⟩ rfl rfl rfl (show 4 < 6 by decide)), rfl, h a hn⟩
end
/-- X(e, ..) as a value, its own __init__ keeping sp -/
def tMkV (C : Addr) (sp : Sp) (ta : TA) : TE := fun σ H Q => ta σ H fun vs H1 => vs.length ≤ 1000 ∧ ∀ a, H1 a = none → sp (.ref a :: vs) (upd H1 a (exo a C none)) (fun v H2 => v = .non ∧ Q (.ref a) H2) (fun _ _ _ => False)
section
variable {X : Cx} {e : Expr} {es : List Expr} {ta : TA} {p pos : Pos}
theorem pe_oexV {CX : CXT} {x : Str} {C fI : Addr} {k : Nat} {fd : FuncData} {ps : List Str} {sp : Sp} (T : OexC X.K C) (iC : PySem.W.findIn X.K (.ref C) "__init__" = some (some (.ref fI))) (tI : PySem.W.typeIn X.K (.ref fI) = some (.type "function"))
    (F1 : FnOk X.prog X.w X.K X.mg X.base CX k fI fd ps sp) (hr : Room (k + 1) X.A) (hb : Binds X.K fd ps []) (hx : Passes CX X (fun _ _ _ => False)) (hg : Gl X x) (hm : X.mg x = some (.ref C)) (ha : PA X (e :: es) ta)
    (hdb : (x == ("__debug__" : Str)) = false := by decide) (he : starEach (e :: es) X.env = (false, eval e X.env) :: starEach es X.env := by rfl) (hpl : (backTo pos (starEach es X.env)).any (·.1) = false := by rfl) :
    PE X (.Call (.Name x p) (e :: es) [] pos) (tMkV C sp ta) := by
  refine ⟨fun pins s σ H Q I h => ?_⟩
  obtain ⟨nm, q, N, bs, bm, sn, sub, ab, col, dd, k0, k1, k2, k3, k5, hC, hmro⟩ := T.cls
  refine wpAny_Call_Name_kw (ld_glob I hg hm ?_ hdb)
  refine PySem.W.callWith_K (h₀ := X.base) I.ok.mod.kin T.kC (thn (ha.run pos pins s σ H _ I h) fun us s1 ⟨vs, H1, I1, r1, hz, q1⟩ => ⟨I1.kIn, ?_⟩) he hpl
  show wpAny _ _ (call (.ref C) us) _ _ _
  obtain ⟨hh, g, dw, tc, ow⟩ := s1
  have hgt : hh.objs.size ≤ hh.objs.size + 1 := Nat.le_succ _
  have fr1 : H1 (hh.objs.size + 1) = none := I1.hok.fresh hgt
  have pr1 := q1 (hh.objs.size + 1) fr1
  have kp1 : ∀ b o, hh.get? b = some o → ((hh.push (PySem.W.kdv_tup us)).push (PySem.HandSPX.excO C hh.objs.size)).get? b = some o := fun b o e => Heap.get?_push_of_some _ (Heap.get?_push_of_some _ e)
  have ob1 : ((hh.push (PySem.W.kdv_tup us)).push (PySem.HandSPX.excO C hh.objs.size)).get? (hh.objs.size + 1) = some (PySem.HandSPX.excO C hh.objs.size) := by heap_get
  have Iv2 : Inv X pins σ (upd H1 (hh.objs.size + 1) (exo (hh.objs.size + 1) C none)) ⟨(hh.push (PySem.W.kdv_tup us)).push (PySem.HandSPX.excO C hh.objs.size), g, dw, tc, ow⟩ :=
    I1.laid (t' := tc) (a := hh.objs.size + 1) (o := exo (hh.objs.size + 1) C none) (h' := (hh.push (PySem.W.kdv_tup us)).push (PySem.HandSPX.excO C hh.objs.size)) kp1 hgt (exo_ok ob1)
  have rl2 : Vals (V.ref (hh.objs.size + 1) :: vs) (Value.ref (hh.objs.size + 1) :: us) := .cons rfl r1
  have ln1 : (Value.ref (hh.objs.size + 1) :: us).length = ps.length := by
    have e := rl2.length
    rw [F1.len _ _ _ _ pr1] at e
    exact e.symm
  have ln2 : us.length ≤ sizeLine := by
    rw [← Paired.length r1, sizeLine_eq]
    omega
  have b0 := hb ⟨(hh.push (PySem.W.kdv_tup us)).push (PySem.HandSPX.excO C hh.objs.size), g, dw, tc, ow⟩ (Value.ref (hh.objs.size + 1) :: us) Iv2.kIn (by rw [List.append_nil]; exact ln1)
  rw [List.append_nil] at b0
  refine wpAny_call (PySem.HandSPX.call_own F.excBase_ValueError (fun Y => PySem.HandSPX.refsVE_contains Y bm hmro) (I1.kIn _ _ hC) (PySem.W.looks_findIn I1.kIn iC) (fun self => PySem.W.bind_fn I1.kIn self tI) ln2
    (codeAny_mono (F1.run _ X.stack _ _ ⟨Value.ref (hh.objs.size + 1) :: us, []⟩ (Value.ref (hh.objs.size + 1) :: us) _ _ (fun _ _ _ => False) (hr.make C us []) (Iv2.env0.make C us []) b0 rl2 pr1) fun r s' hq' => ?_))
  cases r with
  | error er => exact hx pins σ _ _ er s' Iv2 hq'
  | ok fl =>
    cases fl with
    | ret u =>
      obtain ⟨v, H2, os2, bare2, un2, hok2, rv, ev, q2⟩ := hq'
      subst ev
      exact ⟨rv, .ref (hh.objs.size + 1), H2, Iv2.call' (ch := []) os2 un2 hok2 bare2 (fun b z => absurd z (by simp)), rfl, q2⟩
    | next => exact False.elim hq'
    | brk => exact False.elim hq'
    | cont => exact False.elim hq'
/-- err.f, err an error held as a value -/
def tXa (K : PySem.W.Frag) (f : Str) (te : TE) : TE := fun σ H Q => te σ H fun x H1 => ∃ (a C dx : Addr) (fs : List (Str × V)) (v : V), x = .ref a ∧ H1 a = some (exo a C (some dx)) ∧ H1 dx = some (exd dx fs) ∧ XfC K C ∧ PySem.W.findIn K (.ref C) f = some none ∧ fs.lookup f = some v ∧ Q v H1
theorem pe_xa {te : TE} {n : Str} (he : PE X e te) (hb : attributeBase e n X.env (eval e X.env) = eval e X.env := by rfl) : PE X (.Attribute e n pos) (tXa X.K n te) := by
  refine ⟨fun pins s σ H Q I h => ?_⟩
  refine attr_of hb (thn (he.run pins s σ H _ I h) fun u s1 hh => ?_)
  obtain ⟨x, H1, I1, rx, a, C, dx, fs, v, ex, ea, ed, T, hno, l, q⟩ := hh
  subst ex
  obtain rfl : u = Value.ref a := rx
  obtain ⟨t1, ho⟩ := exo_at I1.hok ea
  obtain ⟨mA, hns, hr⟩ := exd_at I1.hok ed
  obtain ⟨od, ho2, ln1⟩ := lookIn_ns hns
  obtain ⟨u, hu, ru⟩ := RelO.some_of (v := v) (o := mA n) (by rw [← l]; exact hr n)
  have J : PySem.W.InstAt s1.heap a _ C (some od) := ⟨ho, rfl, rfl, ho2⟩
  exact HandSPX.exc_get I1.kIn J T.ga T.gg T.exC (PySem.W.findObj_own T.hdC hno rfl (by rw [ln1, hu])) (handed_of ru) ⟨v, H1, I1.tok _, ru, q⟩
end
theorem ix_listK {X : Cx} {K : PySem.W.Frag} (h : X.K = K) : IxR X (rIxL K) := by
  subst h
  exact ix_list
theorem ix_tupK {X : Cx} {K : PySem.W.Frag} (h : X.K = K) : IxR X (rIxT K) := by
  subst h
  exact ix_tup
/-! several except clauses, some with names -/
/-- what is behind a suite with (slot i) or without a name -/
def goneD (oi : Option Nat) (D : Ends) : Ends := match oi with
  | none => D
  | some i => { nx := fun σ' H' => D.nx (σ'.set i none) H', rt := D.rt, bk := fun σ' H' => D.bk (σ'.set i none) H', ct := fun σ' H' => D.ct (σ'.set i none) H' }
def hadS (oi : Option Nat) (a : Addr) (σ : St) : St := match oi with
  | none => σ
  | some i => σ.set i (some (.ref a))
def wManyN (K : PySem.W.Frag) (Wout : WX) (D : Ends) : List (Value × Option Nat × (Addr → Value → Option Addr → TS)) → WX
  | [] => Wout
  | (c, oi, ts) :: r => fun cls d σ H => ∃ b, PySem.W.exmOne K cls c = some b ∧ (b = true → ∀ a, H a = none → ts a cls d (goneD oi D) (hadS oi a σ) H) ∧ (b = false → wManyN K Wout D r cls d σ H)
inductive HdsN (X : Cx) : List ExceptHandler → List (Value × Option Nat × (Addr → Value → Option Addr → TS)) → Prop
  | nil : HdsN X [] []
  | cons {x : Str} {c : Value} {ts : Addr → Value → Option Addr → TS} {b₀ : Stmt} {suite : List Stmt} {np pos' : Pos} {hds : List ExceptHandler} {l : List (Value × Option Nat × (Addr → Value → Option Addr → TS))} (hc : Names X x c)
      (hsu : ∀ (a : Addr) (oe : Obj) (cls : Value) (d : Option Addr) (pn : List (Addr × Obj)), Zc cls d oe → (∃ vs, oe.data = .fields vs) → PSs (X.suite a ((a, oe) :: pn)) (b₀ :: suite) (ts a cls d)) (r : HdsN X hds l) :
      HdsN X (.ExceptHandler (some (.Name x np)) none (b₀ :: suite) pos' :: hds) ((c, none, ts) :: l)
  | consN {x n : Str} {i : Nat} {c : Value} {ts : Addr → Value → Option Addr → TS} {b₀ : Stmt} {suite : List Stmt} {np pos' : Pos} {hds : List ExceptHandler} {l : List (Value × Option Nat × (Addr → Value → Option Addr → TS))} (hN : X.N.Nodup) (hi : X.N[i]? = some n) (hln : X.env.kindOf n = some .local) (hc : Names X x c)
      (hsu : ∀ (a : Addr) (oe : Obj) (cls : Value) (d : Option Addr) (pn : List (Addr × Obj)), Zc cls d oe → (∃ vs, oe.data = .fields vs) → PSs (X.suite a ((a, oe) :: pn)) (b₀ :: suite) (ts a cls d)) (r : HdsN X hds l) :
      HdsN X (.ExceptHandler (some (.Name x np)) (some n) (b₀ :: suite) pos' :: hds) ((c, some i, ts) :: l)
section
variable {X : Cx} {body : List Stmt} {h₀ : ExceptHandler} {hds : List ExceptHandler} {l : List (Value × Option Nat × (Addr → Value → Option Addr → TS))} {pos : Pos} {tb : WX → TS} {Wout : WX}
theorem ps_try_manyN (hs : X.stack = X.env :: X.outer) (hf : X.env.frame = some X.env.locals) (tk : Takes X Wout)
    (hb : ∀ (W : WX) (pn : List (Addr × Obj)) (xe : Value → Shared → Prop), Takes (X.tr pn xe) W → PassesOwn (model X.prog X.w) X.A X.env xe → PSs (X.tr pn xe) body (tb W))
    (hh : HdsN X (h₀ :: hds) l) : PS X (.Try body (h₀ :: hds) [] [] pos) (fun D σ H => tb (wManyN X.K Wout D l) D σ H) := by
  refine ⟨fun pins s σ H D I h => ?_⟩
  have ok := I.ok
  have frA : X.A.frames = some (X.env :: X.outer) := by rw [ok.frames, hs]
  refine wpAny_Try_except ?_
  refine wpAny_mono ((hb (wManyN X.K Wout D l) (X.pn ++ pins) (fun e s₁ => wpAny (model X.prog X.w) X.A (noteFrame e X.env) (fun _ s₂ => wpAny (model X.prog X.w) X.A (setFlight e none) (fun _ s₃ =>
    wpAny (model X.prog X.w) X.A (handleBy e X.env (h₀ :: hds)) (SP X pins D) X.xe s₃) X.xe s₂) X.xe s₁) (fun u s' xx => ?_) PassesOwn.looking).run [] s σ H D (I.toTry _) h) (fun f s1 back => ?_) (fun e s1 he => he)
  · -- the catch
    obtain ⟨a, B, sI, pins', σ', H', cls, d, rfl, J', nb, up, sky, na, os, ag, w⟩ := xx
    have J : Inv X pins σ' H' sI := J'.ofTry ok
    have skyE : Sky B (X.env :: X.outer) a (Zc cls d) X.env.locals s'.heap := by rw [← hs]; exact sky
    show wpAny (model X.prog X.w) X.A (noteFrame (.ref a) X.env) _ _ _
    refine Sky.land Zc.steady frA hf skyE fun h3 fz3 ut3 => ?_
    have Jn3 : Inv X pins σ' H' { s' with heap := h3 } := J.landed nb fz3.1 (up.trans ut3) os ag
    obtain ⟨ox3, xs3, ob3, zc3, dt3⟩ := fz3.there
    have aside : ∀ {h : Heap} {o : Obj} {vs : Array Value}, h.FunFrames B (X.env :: X.outer) → h.get? a = some o → o.data = .fields vs → a ∉ frs (X.env :: X.outer) := fun {h o vs} ff e dd hm => by
      obtain ⟨_, o', e', hnf⟩ := ff.mem hm
      rw [e] at e'; cases e'
      exact hnf _ dd
    have offF := aside fz3.2.2.1 ob3 dt3
    have offL : a ≠ X.env.locals := fun z => offF (List.mem_filterMap.mpr ⟨X.env, List.mem_cons_self, by rw [hf, z]⟩)
    have offS : a ∉ X.fs := fun hm => by
      obtain ⟨e, he, q⟩ := List.mem_filterMap.mp hm
      exact offF (List.mem_filterMap.mpr ⟨e, List.mem_cons_of_mem _ he, q⟩)
    have In3 := Jn3.suite ob3 dt3 na offL offS
    have go : ∀ {hds' : List ExceptHandler} {l' : List (Value × Option Nat × (Addr → Value → Option Addr → TS))}, HdsN X hds' l' → wManyN X.K Wout D l' cls d σ' H' →
        wpAny (model X.prog X.w) X.A (handleBy (.ref a) X.env hds') (SP X pins D) X.xe { s' with heap := h3 } := by
      intro hds' l' hk
      induction hk with
      | nil =>
        intro w
        refine wpAny_handleBy_nil ?_
        obtain ⟨k1, k2, k3, oe, vs, T, oT, ts', he, hz, hd, h1, hr⟩ := id fz3
        unfold PySem.passOn
        refine wpAny_bind (wpAny_field he hd h1 ?_)
        rw [if_neg (show ¬ ((Value.ref T == Value.none) = true) from by simp)]
        have fin : wpAny (model X.prog X.w) X.A (setFlight (.ref a) X.env.frame) (fun _ s4 => wpAny (model X.prog X.w) X.A (throw (.ref a) : Sem Flow) (SP X pins D) X.xe s4) X.xe { s' with heap := h3 } := by
          rw [hf]
          refine HandSPX.setFlight_upZ fz3 fun h4 hh4 ut4 => wpAny_throw (tk _ _ ?_)
          exact ⟨a, B, sI, pins, σ', H', cls, d, rfl, J, nb, (up.trans ut3).trans ut4, .inr (.inr (by rw [hs]; exact hh4)), na, os, ag, w⟩
        first
          | exact wpAny_bind (wpAny_pure (wpAny_bind fin))
          | exact wpAny_bind fin
      | @cons x c ts b₀ suite np pos' hds2 l2 hc hsu r ih =>
        intro w
        obtain ⟨b, hx1, yes, nay⟩ := w
        refine wpAny_handleBy_cons (codeAny_handlers_test ?_) (by intro q; cases q)
        have lkT : PySem.W.Looks (model X.prog X.w) h3 (typeOf (.ref a)) cls := fun A Q E s k q => wpAny_typeOf_ref (k _ _ ob3) (by rw [zc3.1]; exact q)
        have lkM := PySem.W.exm_one (M := model X.prog X.w) (Jn3.kIn) lkT hx1
        have test : ∀ {Q : Value → Shared → Prop} {E : Value → Shared → Prop}, Q c { s' with heap := h3 } → wpAny (model X.prog X.w) (X.A.mark (some (.ref a))) (eval (.Name x np) X.env) Q E { s' with heap := h3 } := fun {Q E} q => by
          obtain ⟨hg, hdbg, hm | ⟨hm, hv, hnn⟩⟩ := hc
          · exact ld_glob (X := X.suite a ((a, ox3) :: (X.pn ++ pins))) In3 hg hm q hdbg
          · exact ld_blt (X := X.suite a ((a, ox3) :: (X.pn ++ pins))) In3 hg hm hv q hnn hdbg
        refine test (lkM.here ?_)
        cases b with
        | true =>
          refine codeAny_handlers_suite ?_
          refine HandSPX.lands_againZ fz3 fun h4 fz4 ut4 => ?_
          have Jn4 : Inv X pins σ' H' { s' with heap := h4 } := J.landed nb fz4.1 ((up.trans ut3).trans ut4) os ag
          obtain ⟨ox4, xs4, ob4, zc4, dt4⟩ := fz4.there
          have In4 := Jn4.suite ob4 dt4 na offL offS
          refine wpAny_mono ((hsu a ox4 cls d (X.pn ++ pins) zc4 ⟨_, dt4⟩).run [] _ _ H' _ In4 (yes rfl a na)) (fun f t6 back => ?_) (fun _ _ z => False.elim z)
          cases f with
          | next =>
            obtain ⟨σb, Hb, Inb, qb⟩ := back
            exact ⟨_, _, Inb.unsuite ok, qb⟩
          | brk =>
            obtain ⟨σb, Hb, Inb, qb⟩ := back
            exact ⟨_, _, Inb.unsuite ok, qb⟩
          | cont =>
            obtain ⟨σb, Hb, Inb, qb⟩ := back
            exact ⟨_, _, Inb.unsuite ok, qb⟩
          | ret u =>
            obtain ⟨vb, σb, Hb, Inb, rb, qb⟩ := back
            exact ⟨_, _, _, Inb.unsuite ok, rb, qb⟩
        | false =>
          show wpAny _ X.A (handleBy (.ref a) X.env hds2) _ _ _
          exact ih (nay rfl)
      | @consN x n i c ts b₀ suite np pos' hds2 l2 hN hi hln hc hsu r ih =>
        intro w
        obtain ⟨b, hx1, yes, nay⟩ := w
        have hloc : Loc X.env.scope n := .inl hln
        refine wpAny_handleBy_cons (codeAny_handlers_test ?_) (by intro q; cases q)
        have lkT : PySem.W.Looks (model X.prog X.w) h3 (typeOf (.ref a)) cls := fun A Q E s k q => wpAny_typeOf_ref (k _ _ ob3) (by rw [zc3.1]; exact q)
        have lkM := PySem.W.exm_one (M := model X.prog X.w) (Jn3.kIn) lkT hx1
        have test : ∀ {Q : Value → Shared → Prop} {E : Value → Shared → Prop}, Q c { s' with heap := h3 } → wpAny (model X.prog X.w) (X.A.mark (some (.ref a))) (eval (.Name x np) X.env) Q E { s' with heap := h3 } := fun {Q E} q => by
          obtain ⟨hg, hdbg, hm | ⟨hm, hv, hnn⟩⟩ := hc
          · exact ld_glob (X := X.suite a ((a, ox3) :: (X.pn ++ pins))) In3 hg hm q hdbg
          · exact ld_blt (X := X.suite a ((a, ox3) :: (X.pn ++ pins))) In3 hg hm hv q hnn hdbg
        refine test (lkM.here ?_)
        cases b with
        | true =>
          refine codeAny_handlers_suite_as ?_
          refine HandSPX.lands_againZ fz3 fun h4 fz4 ut4 => ?_
          have Jn4 : Inv X pins σ' H' { s' with heap := h4 } := J.landed nb fz4.1 ((up.trans ut3).trans ut4) os ag
          obtain ⟨ox4, xs4, ob4, zc4, dt4⟩ := fz4.there
          have In4 := Jn4.suite ob4 dt4 na offL offS
          refine store_ok (X := X.suite a ((a, ox4) :: (X.pn ++ pins))) (v := .ref a) In4 hN hi hloc rfl (fun t5 In5 => ?_) (.inr hln)
          refine wpAny_mono ((hsu a ox4 cls d (X.pn ++ pins) zc4 ⟨_, dt4⟩).run [] t5 _ H' _ In5 (yes rfl a na)) (fun f t6 back => ?_) (fun _ _ z => False.elim z)
          have gone : ∀ {σb : St} {Hb : Hp} {Q : Shared → Prop}, Inv (X.suite a ((a, ox4) :: (X.pn ++ pins))) [] σb Hb t6 → (∀ s7, Inv X pins (σb.set i none) Hb s7 → Q s7) →
              wpAny (model X.prog X.w) X.A (do bindName X.env n .none; unbindBehindTheSuite X.env n pos') (fun _ s7 => Q s7) X.xe t6 := fun {σb Hb Q} Inb hq => gone_ok (Inb.unsuite ok) hN hi hln hq
          cases f with
          | next =>
            obtain ⟨σb, Hb, Inb, qb⟩ := back
            exact gone Inb fun s7 J7 => ⟨_, _, J7, qb⟩
          | brk =>
            obtain ⟨σb, Hb, Inb, qb⟩ := back
            exact gone Inb fun s7 J7 => ⟨_, _, J7, qb⟩
          | cont =>
            obtain ⟨σb, Hb, Inb, qb⟩ := back
            exact gone Inb fun s7 J7 => ⟨_, _, J7, qb⟩
          | ret u =>
            obtain ⟨vb, σb, Hb, Inb, rb, qb⟩ := back
            exact gone Inb fun s7 J7 => ⟨_, _, _, J7, rb, qb⟩
        | false =>
          show wpAny _ X.A (handleBy (.ref a) X.env hds2) _ _ _
          exact ih (nay rfl)
    exact go hh w
  · cases f with
    | next =>
      obtain ⟨σ', H', J', q⟩ := back
      exact wpAny_execs_nil ⟨σ', H', J'.ofTry ok, q⟩
    | brk =>
      obtain ⟨σ', H', J', q⟩ := back
      exact ⟨σ', H', J'.ofTry ok, q⟩
    | cont =>
      obtain ⟨σ', H', J', q⟩ := back
      exact ⟨σ', H', J'.ofTry ok, q⟩
    | ret u =>
      obtain ⟨v, σ', H', J', r, q⟩ := back
      exact ⟨v, σ', H', J'.ofTry ok, r, q⟩
end
end L2

namespace Pm
/-! ### forms and blocks -/
def form : Nat → List Nat
  | 0 => [0] | 1 => [1, 0] | 2 => [1, 1] | 3 => [1, 2, 1] | 4 => [1, 2, 2] | 5 => [1, 2, 1, 2] | 6 => [1, 2, 3, 2] | _ => [1, 2, 3, 0]
abbrev Bk := Nat × List Nat
structure Blk (ys : List Nat) (b : Bk) : Prop where
  w : b.1 < 8
  len : b.2.length = (form b.1).length
  sh : ∀ k, k < b.2.length → ys.getD (b.2.getD k 0) 0 = b.2.getD ((form b.1).getD k 0) 0
structure Built (ys : List Nat) (bs : List Bk) : Prop where
  blk : ∀ b ∈ bs, Blk ys b
  perm : (bs.flatMap (·.2)).Perm (List.range ys.length)
theorem form_len (w : Nat) : 0 < (form w).length := by
  unfold form
  split <;> decide
theorem form_lt (w k : Nat) (h : k < (form w).length) : (form w).getD k 0 < (form w).length := by
  unfold form at h ⊢
  split at h <;> (simp at h ⊢; rcases k with _ | _ | _ | _ | k <;> simp at h ⊢ <;> omega)
/-- the least of a list -/
def mn : List Nat → Nat
  | [] => 0
  | [a] => a
  | a :: b :: l => min a (mn (b :: l))
theorem mn_mem : ∀ {l : List Nat}, l ≠ [] → mn l ∈ l
  | [], h => absurd rfl h
  | [a], _ => by simp [mn]
  | a :: b :: l, _ => by
    have ih := mn_mem (l := b :: l) (by simp)
    unfold mn
    by_cases h : a ≤ mn (b :: l)
    · rw [Nat.min_eq_left h]; exact List.mem_cons_self ..
    · rw [Nat.min_eq_right (by omega)]; exact List.mem_cons_of_mem _ ih
theorem mn_le : ∀ {l : List Nat} {x : Nat}, x ∈ l → mn l ≤ x
  | [a], x, h => by
    rw [List.mem_singleton.mp h]
    exact Nat.le_refl _
  | a :: b :: l, x, h => by
    unfold mn
    rcases List.mem_cons.mp h with e | h
    · rw [e]; exact Nat.min_le_left _ _
    · exact Nat.le_trans (Nat.min_le_right _ _) (mn_le h)
theorem uniq : ∀ {bs : List Bk} {b c : Bk} {x : Nat}, (bs.flatMap (·.2)).Nodup → b ∈ bs → c ∈ bs → x ∈ b.2 → x ∈ c.2 → b = c
  | a :: bs, b, c, x, nd, hb, hc, xb, xc => by
    rw [List.flatMap_cons, List.nodup_append] at nd
    rcases List.mem_cons.mp hb with e1 | hb
    · rcases List.mem_cons.mp hc with e2 | hc
      · rw [e1, e2]
      · exact absurd rfl (nd.2.2 x (e1 ▸ xb) x (List.mem_flatMap.mpr ⟨c, hc, xc⟩))
    · rcases List.mem_cons.mp hc with e2 | hc
      · exact absurd rfl (nd.2.2 x (e2 ▸ xc) x (List.mem_flatMap.mpr ⟨b, hb, xb⟩))
      · exact uniq nd.2.1 hb hc xb xc
theorem nd_of : ∀ {bs : List Bk} {b : Bk}, (bs.flatMap (·.2)).Nodup → b ∈ bs → b.2.Nodup
  | a :: bs, b, nd, hb => by
    rw [List.flatMap_cons, List.nodup_append] at nd
    rcases List.mem_cons.mp hb with e1 | hb
    · rw [e1]; exact nd.1
    · exact nd_of nd.2.1 hb
def beta (bs : List Bk) (x : Nat) : Nat := match bs.find? (fun b => b.2.contains x) with
  | some b => mn b.2
  | none => x
section
variable {ys : List Nat} {bs : List Bk}
theorem Built.nd (B : Built ys bs) : (bs.flatMap (·.2)).Nodup := B.perm.nodup_iff.mpr List.nodup_range
theorem Built.lt (B : Built ys bs) {b : Bk} (hb : b ∈ bs) {x : Nat} (hx : x ∈ b.2) : x < ys.length :=
  List.mem_range.mp (B.perm.mem_iff.mp (List.mem_flatMap.mpr ⟨b, hb, hx⟩))
theorem Built.of (B : Built ys bs) {x : Nat} (hx : x < ys.length) : ∃ b ∈ bs, x ∈ b.2 := by
  obtain ⟨b, hb, h⟩ := List.mem_flatMap.mp (B.perm.mem_iff.mpr (List.mem_range.mpr hx))
  exact ⟨b, hb, h⟩
theorem Built.beta_of (B : Built ys bs) {b : Bk} (hb : b ∈ bs) {x : Nat} (hx : x ∈ b.2) : beta bs x = mn b.2 := by
  unfold beta
  cases h : bs.find? (fun b => b.2.contains x) with
  | none =>
    have := List.find?_eq_none.mp h b hb
    simp [hx] at this
  | some c =>
    have h1 := List.mem_of_find?_eq_some h
    have h2 := List.find?_some h
    have h3 : x ∈ c.2 := by simpa using h2
    rw [uniq B.nd hb h1 hx h3]
theorem Built.ne (B : Built ys bs) {b : Bk} (hb : b ∈ bs) : b.2 ≠ [] := fun z => by
  have h := (B.blk b hb).len
  have := form_len b.1
  rw [z] at h
  simp at h
  omega
theorem Built.mn_beta (B : Built ys bs) {b : Bk} (hb : b ∈ bs) : beta bs (mn b.2) = mn b.2 := B.beta_of hb (mn_mem (B.ne hb))
theorem Built.beta_le (B : Built ys bs) {x : Nat} (hx : x < ys.length) : beta bs x ≤ x := by
  obtain ⟨b, hb, h⟩ := B.of hx
  rw [B.beta_of hb h]
  exact mn_le h
theorem getD_mem {l : List Nat} {k : Nat} (h : k < l.length) : l.getD k 0 ∈ l := by
  rw [List.getD_eq_getElem?_getD, List.getElem?_eq_getElem h]
  exact List.getElem_mem h
theorem mem_getD {l : List Nat} {x : Nat} (h : x ∈ l) : ∃ k, k < l.length ∧ l.getD k 0 = x := by
  obtain ⟨k, hk, e⟩ := List.getElem_of_mem h
  exact ⟨k, hk, by rw [List.getD_eq_getElem?_getD, List.getElem?_eq_getElem hk]; exact e⟩
/-- what a record shows is of its block -/
theorem Built.shown (B : Built ys bs) {b : Bk} (hb : b ∈ bs) {x : Nat} (hx : x ∈ b.2) : ys.getD x 0 ∈ b.2 := by
  obtain ⟨k, hk, rfl⟩ := mem_getD hx
  have Q := B.blk b hb
  rw [Q.sh k hk]
  exact getD_mem (by rw [Q.len]; exact form_lt _ _ (by rw [← Q.len]; exact hk))
theorem Built.edge (B : Built ys bs) {x : Nat} (hx : x < ys.length) : ys.getD x 0 < ys.length ∧ beta bs (ys.getD x 0) = beta bs x := by
  obtain ⟨b, hb, h⟩ := B.of hx
  have h2 := B.shown hb h
  exact ⟨B.lt hb h2, by rw [B.beta_of hb h, B.beta_of hb h2]⟩
end
/-! ### the labels -/
def stepL (L : List Nat) (r nm : Nat) : List Nat := if min (L.getD r 0) (L.getD nm 0) = max (L.getD r 0) (L.getD nm 0) then L else L.map fun o => if o = max (L.getD r 0) (L.getD nm 0) then min (L.getD r 0) (L.getD nm 0) else o
def lab (ys : List Nat) : Nat → List Nat
  | 0 => List.range ys.length
  | i + 1 => stepL (lab ys i) i (ys.getD i 0)
structure Lab (ys : List Nat) (bs : List Bk) (i : Nat) (L : List Nat) : Prop where
  len : L.length = ys.length
  le : ∀ x, x < ys.length → L.getD x 0 ≤ x
  fx : ∀ x, x < ys.length → L.getD (L.getD x 0) 0 = L.getD x 0
  bl : ∀ x, x < ys.length → beta bs (L.getD x 0) = beta bs x
  ed : ∀ r, r < i → r < ys.length → L.getD r 0 = L.getD (ys.getD r 0) 0
theorem getD_map {L : List Nat} {f : Nat → Nat} {x : Nat} (h : x < L.length) : (L.map f).getD x 0 = f (L.getD x 0) := by
  rw [List.getD_eq_getElem?_getD, List.getElem?_map, List.getD_eq_getElem?_getD, List.getElem?_eq_getElem h]
  rfl
theorem getD_range {n x : Nat} (h : x < n) : (List.range n).getD x 0 = x := by
  rw [List.getD_eq_getElem?_getD, List.getElem?_range h]
  rfl
theorem lab_ok {ys : List Nat} {bs : List Bk} (B : Built ys bs) : ∀ i, i ≤ ys.length → Lab ys bs i (lab ys i)
  | 0, _ => ⟨List.length_range, fun x hx => by show (List.range _).getD x 0 ≤ x; rw [getD_range hx]; exact Nat.le_refl _,
      fun x hx => by show (List.range _).getD ((List.range _).getD x 0) 0 = (List.range _).getD x 0; rw [getD_range hx, getD_range hx],
      fun x hx => by show beta bs ((List.range _).getD x 0) = _; rw [getD_range hx], fun r h => absurd h (Nat.not_lt_zero _)⟩
  | i + 1, hi => by
    have ih := lab_ok B i (by omega)
    have hin : i < ys.length := by omega
    obtain ⟨hnm, hbe⟩ := B.edge hin
    show Lab ys bs (i + 1) (stepL (lab ys i) i (ys.getD i 0))
    generalize lab ys i = L at ih
    generalize hnmE : ys.getD i 0 = nm at hnm hbe
    unfold stepL
    have a1 := ih.fx i hin
    have b1 := ih.fx nm hnm
    have a2 := ih.le i hin
    have b2 := ih.le nm hnm
    have a3 := ih.bl i hin
    have b3 := ih.bl nm hnm
    generalize ha : L.getD i 0 = a at *
    generalize hb : L.getD nm 0 = b at *
    by_cases heq : min a b = max a b
    · rw [if_pos heq]
      refine ⟨ih.len, ih.le, ih.fx, ih.bl, fun r hr hrn => ?_⟩
      by_cases h : r = i
      · rw [h, ha, hnmE, hb]
        omega
      · exact ih.ed r (by omega) hrn
    · rw [if_neg heq]
      have hlow : L.getD (min a b) 0 = min a b := by
        by_cases h : a ≤ b
        · rw [Nat.min_eq_left h]; exact a1
        · rw [Nat.min_eq_right (by omega)]; exact b1
      have hbl : beta bs (min a b) = beta bs (max a b) := by
        by_cases h : a ≤ b
        · rw [Nat.min_eq_left h, Nat.max_eq_right h, a3, b3, hbe]
        · rw [Nat.min_eq_right (by omega), Nat.max_eq_left (by omega), a3, b3, hbe]
      have at_ : ∀ x, x < ys.length → (L.map fun o => if o = max a b then min a b else o).getD x 0 = if L.getD x 0 = max a b then min a b else L.getD x 0 := fun x hx => getD_map (by rw [ih.len]; exact hx)
      have hminlt : min a b < ys.length := by omega
      refine ⟨by rw [List.length_map]; exact ih.len, fun x hx => ?_, fun x hx => ?_, fun x hx => ?_, fun r hr hrn => ?_⟩
      · rw [at_ x hx]
        have := ih.le x hx
        split <;> omega
      · rw [at_ x hx]
        by_cases h : L.getD x 0 = max a b
        · rw [if_pos h, at_ _ hminlt, hlow, if_neg heq]
        · rw [if_neg h]
          have hl := ih.le x hx
          rw [at_ _ (by omega), ih.fx x hx, if_neg h]
      · rw [at_ x hx]
        by_cases h : L.getD x 0 = max a b
        · rw [if_pos h, hbl, ← h]; exact ih.bl x hx
        · rw [if_neg h]; exact ih.bl x hx
      · rw [at_ r hrn, at_ _ (B.edge hrn).1]
        by_cases h : r = i
        · rw [h, ha, hnmE, hb]
          by_cases hab : a ≤ b
          · rw [Nat.min_eq_left hab, Nat.max_eq_right hab]
            by_cases hq : a = b <;> simp [hq]
          · rw [Nat.min_eq_right (by omega), Nat.max_eq_left (by omega)]
            by_cases hq : b = a <;> simp [hq]
        · rw [ih.ed r (by omega) hrn]
theorem conn {w : Nat} {ms : List Nat} {f : Nat → Nat} (hl : ms.length = (form w).length) (h : ∀ k, k < ms.length → f (ms.getD k 0) = f (ms.getD ((form w).getD k 0) 0)) : ∀ k, k < ms.length → f (ms.getD k 0) = f (ms.getD 0 0) := by
  unfold form at hl h
  split at hl
  all_goals (simp only [List.length_cons, List.length_nil] at hl; intro k hk)
  all_goals (have h0 := h 0 (by omega); try have h1 := h 1 (by omega))
  all_goals (try have h2 := h 2 (by omega))
  all_goals (try have h3 := h 3 (by omega))
  all_goals (rcases k with _ | _ | _ | _ | k)
  all_goals first | omega | rfl | (simp at h0 h1 h2 h3 ⊢; omega) | (simp at h0 h1 h2 ⊢; omega) | (simp at h0 h1 ⊢; omega) | (simp at h0 ⊢; omega)
end Pm

namespace Pm
inductive Cs (g : Nat → Nat) : Nat → List Nat → Prop
  | free (a) : g a = a → Cs g 0 [a]
  | pair (a b) : g a = b → g b = a → Cs g 1 [a, b]
  | claim (a b) : g a = b → g b = b → Cs g 2 [a, b]
  | hook (c a b) : g c = a → g a = b → g b = a → Cs g 3 [c, a, b]
  | relay (c a b) : g c = a → g a = b → g b = b → Cs g 4 [c, a, b]
  | clamp (d a b c) : g d = a → g a = b → g b = a → g c = b → Cs g 5 [d, a, b, c]
  | trail (d c a b) : g d = c → g c = a → g a = b → g b = a → Cs g 6 [d, c, a, b]
  | wheel (a b c d) : g a = b → g b = c → g c = d → g d = a → Cs g 7 [a, b, c, d]
theorem Blk.cs {ys : List Nat} {b : Bk} (Q : Blk ys b) : Cs (fun x => ys.getD x 0) b.1 b.2 := by
  obtain ⟨w, ms⟩ := b
  obtain ⟨hw, hl, h⟩ := Q
  dsimp only at hw hl h
  match w, hw with
  | 0, _ => match ms, hl with | [a], _ => exact .free a (by simpa [form] using h 0 (by simp))
  | 1, _ => match ms, hl with | [a, b], _ => exact .pair a b (by simpa [form] using h 0 (by simp)) (by simpa [form] using h 1 (by simp))
  | 2, _ => match ms, hl with | [a, b], _ => exact .claim a b (by simpa [form] using h 0 (by simp)) (by simpa [form] using h 1 (by simp))
  | 3, _ => match ms, hl with | [a, b, c], _ => exact .hook a b c (by simpa [form] using h 0 (by simp)) (by simpa [form] using h 1 (by simp)) (by simpa [form] using h 2 (by simp))
  | 4, _ => match ms, hl with | [a, b, c], _ => exact .relay a b c (by simpa [form] using h 0 (by simp)) (by simpa [form] using h 1 (by simp)) (by simpa [form] using h 2 (by simp))
  | 5, _ => match ms, hl with | [a, b, c, d], _ => exact .clamp a b c d (by simpa [form] using h 0 (by simp)) (by simpa [form] using h 1 (by simp)) (by simpa [form] using h 2 (by simp)) (by simpa [form] using h 3 (by simp))
  | 6, _ => match ms, hl with | [a, b, c, d], _ => exact .trail a b c d (by simpa [form] using h 0 (by simp)) (by simpa [form] using h 1 (by simp)) (by simpa [form] using h 2 (by simp)) (by simpa [form] using h 3 (by simp))
  | 7, _ => match ms, hl with | [a, b, c, d], _ => exact .wheel a b c d (by simpa [form] using h 0 (by simp)) (by simpa [form] using h 1 (by simp)) (by simpa [form] using h 2 (by simp)) (by simpa [form] using h 3 (by simp))
structure Canon (b : Bk) : Prop where
  pair : b.1 = 1 → b.2.getD 0 0 < b.2.getD 1 0
  clamp : b.1 = 5 → b.2.getD 0 0 < b.2.getD 3 0
  wheel : b.1 = 7 → b.2.getD 0 0 = mn b.2
section
variable {ys : List Nat} {bs : List Bk}
theorem lab_end (B : Built ys bs) {x : Nat} (hx : x < ys.length) : (lab ys ys.length).getD x 0 = beta bs x := by
  have Q := lab_ok B ys.length (Nat.le_refl _)
  generalize lab ys ys.length = L at Q ⊢
  obtain ⟨b, hb, hxb⟩ := B.of hx
  have P := B.blk b hb
  have cn := conn (f := fun x => L.getD x 0) P.len fun k hk => by
    show L.getD (b.2.getD k 0) 0 = _
    have hm := B.lt hb (getD_mem hk)
    rw [Q.ed _ hm hm, P.sh k hk]
  have h0 : 0 < b.2.length := List.length_pos_iff.mpr (B.ne hb)
  have same : ∀ y, y ∈ b.2 → L.getD y 0 = L.getD (b.2.getD 0 0) 0 := fun y hy => by
    obtain ⟨k, hk, rfl⟩ := mem_getD hy
    exact cn k hk
  have hmn := mn_mem (B.ne hb)
  have e1 : L.getD x 0 = L.getD (mn b.2) 0 := by rw [same x hxb, same _ hmn]
  have h1 := Q.le (mn b.2) (B.lt hb hmn)
  have h2 := Q.bl x hx
  have h3 := Q.le x hx
  have h4 := B.beta_le (x := L.getD x 0) (by omega)
  have h5 := B.beta_of hb hxb
  omega
def grp (bs : List Bk) (n m : Nat) : List Nat := (List.range n).filter fun x => decide (beta bs x = m)
def roots (bs : List Bk) (n : Nat) : List Nat := (List.range n).filter fun x => decide (beta bs x = x)
theorem nodup_filter {l : List Nat} (p : Nat → Bool) (h : l.Nodup) : (l.filter p).Nodup := h.sublist List.filter_sublist
theorem grp_nd {n m : Nat} : (grp bs n m).Nodup := nodup_filter _ List.nodup_range
theorem grp_lt {n m : Nat} : (grp bs n m).Pairwise (· < ·) := List.Pairwise.filter _ List.pairwise_lt_range
theorem Built.mem_grp (B : Built ys bs) {b : Bk} (hb : b ∈ bs) {x : Nat} : x ∈ grp bs ys.length (mn b.2) ↔ x ∈ b.2 := by
  unfold grp
  rw [List.mem_filter, List.mem_range, decide_eq_true_eq]
  constructor
  · rintro ⟨h1, h2⟩
    obtain ⟨c, hc, hx⟩ := B.of h1
    rw [B.beta_of hc hx] at h2
    have e := uniq B.nd hc hb (x := mn b.2) (by rw [← h2]; exact mn_mem (B.ne hc)) (mn_mem (B.ne hb))
    exact e ▸ hx
  · exact fun h => ⟨B.lt hb h, B.beta_of hb h⟩
theorem Built.grp_perm (B : Built ys bs) {b : Bk} (hb : b ∈ bs) : (grp bs ys.length (mn b.2)).Perm b.2 :=
  (List.perm_ext_iff_of_nodup grp_nd (nd_of B.nd hb)).mpr fun x => B.mem_grp hb
theorem Built.roots_eq (B : Built ys bs) (hs : bs.Pairwise fun a b => mn a.2 < mn b.2) : roots bs ys.length = bs.map fun b => mn b.2 := by
  have s1 : (roots bs ys.length).Pairwise (· < ·) := List.Pairwise.filter _ List.pairwise_lt_range
  have s2 : (bs.map fun b => mn b.2).Pairwise (· < ·) := List.pairwise_map.mpr hs
  refine List.Perm.eq_of_pairwise (le := (· < ·)) (fun a b _ _ h1 h2 => by omega) s1 s2 ?_
  refine (List.perm_ext_iff_of_nodup (s1.imp fun h => by omega) (s2.imp fun h => by omega)).mpr fun x => ?_
  unfold roots
  rw [List.mem_filter, List.mem_range, decide_eq_true_eq, List.mem_map]
  constructor
  · rintro ⟨h1, h2⟩
    obtain ⟨b, hb, hx⟩ := B.of h1
    exact ⟨b, hb, by rw [← h2, B.beta_of hb hx]⟩
  · rintro ⟨b, hb, rfl⟩
    exact ⟨B.lt hb (mn_mem (B.ne hb)), B.mn_beta hb⟩
/-! ### one group's row -/
def path (b : Bk) : List Nat := if b.1 = 5 then b.2.take 3 else b.2
theorem filter_one {l : List Nat} {q : Nat → Bool} {x : Nat} (nd : l.Nodup) (hx : x ∈ l) (h1 : q x = true) (h2 : ∀ y ∈ l, q y = true → y = x) : l.filter q = [x] := by
  have nd2 := nodup_filter q nd
  have m : ∀ y, y ∈ l.filter q ↔ y = x := fun y => by
    rw [List.mem_filter]
    exact ⟨fun h => h2 y h.1 h.2, fun h => by rw [h]; exact ⟨hx, h1⟩⟩
  match hl : l.filter q with
  | [] => exact absurd ((m x).mpr rfl) (by rw [hl]; simp)
  | [a] => rw [(m a).mp (by rw [hl]; simp)]
  | a :: b :: r =>
    rw [hl] at nd2 m
    have ea := (m a).mp (by simp)
    have eb := (m b).mp (by simp)
    simp [ea, eb] at nd2
theorem mn_sing {a : Nat} : mn [a] = a := rfl
/-- the walk of a form -/
structure Walks (g : Nat → Nat) (p : List Nat) : Prop where
  pos : 0 < p.length
  nd : p.Nodup
  next : ∀ j, j + 1 < p.length → g (p.getD j 0) = p.getD (j + 1) 0
  back : g (p.getD (p.length - 1) 0) ∈ p
theorem Built.walks (B : Built ys bs) {b : Bk} (hb : b ∈ bs) : Walks (fun x => ys.getD x 0) (path b) := by
  have nd := nd_of B.nd hb
  have C := (B.blk b hb).cs
  obtain ⟨w, ms⟩ := b
  dsimp only at C nd
  unfold path
  dsimp only
  generalize (fun x => ys.getD x 0) = g at C
  cases C
  all_goals (simp at nd ⊢)
  all_goals (refine ⟨by simp, by simp; try simp [nd], fun j hj => ?_, by simp [*]⟩)
  all_goals (rcases j with _ | _ | _ | _ | j)
  all_goals first | (simp at hj; done) | (simp [*]; done) | (simp at hj ⊢; omega) | skip
theorem Built.left (B : Built ys bs) {b : Bk} (hb : b ∈ bs) : path b ++ (grp bs ys.length (mn b.2)).filter (fun x => !(path b).contains x) = b.2 := by
  have nd := nd_of B.nd hb
  have C := (B.blk b hb).cs
  have M : ∀ x, x ∈ grp bs ys.length (mn b.2) ↔ x ∈ b.2 := fun x => B.mem_grp hb
  have N : (grp bs ys.length (mn b.2)).Nodup := grp_nd
  generalize grp bs ys.length (mn b.2) = l at M N
  by_cases h5 : b.1 = 5
  · obtain ⟨w, ms⟩ := b
    dsimp only at h5 C nd M ⊢
    subst h5
    cases C
    rename_i d a b c h1 h2 h3 h4
    unfold path
    simp at nd ⊢
    rw [filter_one (x := c) N (by rw [M]; simp) (by simp; omega) fun y hy hq => ?_]
    rw [M] at hy
    simp at hy hq
    omega
  · unfold path
    rw [if_neg h5]
    have e : l.filter (fun x => !b.2.contains x) = [] := by
      rw [List.filter_eq_nil_iff]
      intro x hx
      have := (M x).mp hx
      simp [this]
    rw [e, List.append_nil]
/-- where the walk starts: at the first record that no other of the group shows, or at the first one -/
theorem Built.start (B : Built ys bs) {b : Bk} (hb : b ∈ bs) (K : Canon b) (T : List Nat)
    (hT : T = (grp bs ys.length (mn b.2)).filter (fun x => !((grp bs ys.length (mn b.2)).map fun y => ys.getD y 0).contains x)) :
    (T = [] → (grp bs ys.length (mn b.2)).head? = some (b.2.getD 0 0)) ∧ (T ≠ [] → T.head? = some (b.2.getD 0 0)) := by
  have nd := nd_of B.nd hb
  have C := (B.blk b hb).cs
  have M : ∀ x, x ∈ grp bs ys.length (mn b.2) ↔ x ∈ b.2 := fun x => B.mem_grp hb
  have sh : ∀ x, ((grp bs ys.length (mn b.2)).map fun y => ys.getD y 0).contains x = (b.2.map fun y => ys.getD y 0).contains x := fun x => by
    rw [Bool.eq_iff_iff, List.contains_iff_mem, List.contains_iff_mem, List.mem_map, List.mem_map]
    exact ⟨fun ⟨y, hy, e⟩ => ⟨y, (M y).mp hy, e⟩, fun ⟨y, hy, e⟩ => ⟨y, (M y).mpr hy, e⟩⟩
  have hT2 : T = (List.range ys.length).filter fun x => decide (beta bs x = mn b.2) && !(b.2.map fun y => ys.getD y 0).contains x := by
    rw [hT]
    unfold grp
    rw [List.filter_filter]
    refine List.filter_congr fun x hx => ?_
    have := sh x
    unfold grp at this
    rw [this, Bool.and_comm]
  have inB : ∀ x, x < ys.length → (decide (beta bs x = mn b.2) = true ↔ x ∈ b.2) := fun x hx => by
    rw [← M x]
    unfold grp
    rw [List.mem_filter, List.mem_range]
    exact ⟨fun h => ⟨hx, h⟩, fun h => h.2⟩
  have root : b.2.getD 0 0 = mn b.2 → (grp bs ys.length (mn b.2)).head? = some (b.2.getD 0 0) := fun e => by
    unfold grp
    rw [List.head?_filter, List.find?_range_eq_some, e]
    refine ⟨by rw [decide_eq_true_eq]; exact B.mn_beta hb, List.mem_range.mpr (B.lt hb (mn_mem (B.ne hb))), fun j hj => ?_⟩
    have hjn : j < ys.length := Nat.lt_trans hj (B.lt hb (mn_mem (B.ne hb)))
    have := B.beta_le hjn
    simp
    omega
  have tail : ∀ m0 : Nat, m0 ∈ b.2 → (b.2.map fun y => ys.getD y 0).contains m0 = false → (∀ j, j < m0 → j ∈ b.2 → (b.2.map fun y => ys.getD y 0).contains j = true) → T.head? = some m0 := fun m0 h1 h2 h3 => by
    rw [hT2, List.head?_filter, List.find?_range_eq_some]
    refine ⟨by rw [h2, (inB m0 (B.lt hb h1)).mpr h1]; rfl, List.mem_range.mpr (B.lt hb h1), fun j hj => ?_⟩
    have hjn : j < ys.length := Nat.lt_trans hj (B.lt hb h1)
    by_cases hjb : j ∈ b.2
    · rw [h3 j hj hjb]
      simp
    · have : decide (beta bs j = mn b.2) = false := by
        cases h : decide (beta bs j = mn b.2) with
        | false => rfl
        | true => exact absurd ((inB j hjn).mp h) hjb
      rw [this]
      rfl
  have none : (∀ x ∈ b.2, (b.2.map fun y => ys.getD y 0).contains x = true) → T = [] := fun h => by
    rw [hT2, List.filter_eq_nil_iff]
    intro x hx
    have hxn := List.mem_range.mp hx
    by_cases hxb : x ∈ b.2
    · rw [h x hxb]
      simp
    · intro z
      rw [Bool.and_eq_true] at z
      exact hxb ((inB x hxn).mp z.1)
  obtain ⟨w, ms⟩ := b
  dsimp only at *
  generalize hg : (fun y => ys.getD y 0) = g at C tail none
  clear hT hT2 sh
  cases C with
  | free a h1 =>
    have t := none (by simp [h1])
    exact ⟨fun _ => root rfl, fun h => absurd t h⟩
  | pair a b h1 h2 =>
    have t := none (by simp [h1, h2])
    have := K.pair rfl
    simp at this
    exact ⟨fun _ => root (by simp [mn]; omega), fun h => absurd t h⟩
  | wheel a b c d h1 h2 h3 h4 =>
    have t := none (by simp [h1, h2, h3, h4])
    exact ⟨fun _ => root (K.wheel rfl), fun h => absurd t h⟩
  | claim a b h1 h2 =>
    simp at nd
    have t := tail a (by simp) (by simp [h1, h2]; omega) (fun j hj hm => by simp at hm; simp [h1, h2]; omega)
    exact ⟨fun h => (by rw [h] at t; simp at t), fun _ => t⟩
  | hook c a b h1 h2 h3 =>
    simp at nd
    have t := tail c (by simp) (by simp [h1, h2, h3]; omega) (fun j hj hm => by simp at hm; simp [h1, h2, h3]; omega)
    exact ⟨fun h => (by rw [h] at t; simp at t), fun _ => t⟩
  | relay c a b h1 h2 h3 =>
    simp at nd
    have t := tail c (by simp) (by simp [h1, h2, h3]; omega) (fun j hj hm => by simp at hm; simp [h1, h2, h3]; omega)
    exact ⟨fun h => (by rw [h] at t; simp at t), fun _ => t⟩
  | clamp d a b c h1 h2 h3 h4 =>
    simp at nd
    have kk := K.clamp rfl
    simp at kk
    have t := tail d (by simp) (by simp [h1, h2, h3, h4]; omega) (fun j hj hm => by simp at hm; simp [h1, h2, h3, h4]; omega)
    exact ⟨fun h => (by rw [h] at t; simp at t), fun _ => t⟩
  | trail d c a b h1 h2 h3 h4 =>
    simp at nd
    have t := tail d (by simp) (by simp [h1, h2, h3, h4]; omega) (fun j hj hm => by simp at hm; simp [h1, h2, h3, h4]; omega)
    exact ⟨fun h => (by rw [h] at t; simp at t), fun _ => t⟩
end
end Pm

namespace L2
open PySem PySem.Spec PyProof.Rows
/-! ### a table of the text keyed by tuples of ints -/
def numK (ks : List Nat) : NestedKey := .tup (ks.map fun k : Nat => NestedKey.num (k : Int))
/-- at a, in the written part: a table of the given keys and texts -/
def TabK (P : Program) (w : World) (K : PySem.W.Frag) (a : Addr) (kvs : List (List Nat × Str)) : Prop := (a == sysModules) = false ∧
  ∃ ts : List Tok, ∀ h : Heap, K.In h → h.DictKeyed (nestedKind P w) a ((kvs.zip ts).map fun x => (numK x.1.1, Value.str x.1.2 x.2)) ∧ ts.length = kvs.length
theorem numK_depth : ∀ ks : List Nat, (numK ks).depth ≤ 8 := fun ks => by
  have h : ∀ l : List Nat, NestedKey.depthAll (l.map fun k : Nat => NestedKey.num (k : Int)) ≤ 1 := fun l => by
    induction l with
    | nil => simp [NestedKey.depthAll]
    | cons a l ih =>
      simp only [List.map_cons, NestedKey.depthAll, NestedKey.depth]
      omega
  have := h ks
  unfold numK
  simp only [NestedKey.depth]
  omega
theorem numAll_of {h : Heap} : ∀ {ks : List Nat} {us : List Value}, Vals (ks.map fun k : Nat => V.int (k : Int)) us → NestedAll h (ks.map fun k : Nat => NestedKey.num (k : Int)) us
  | [], _, r => by cases r; exact .nil
  | k :: ks, _, r => by
    cases r with
    | cons r1 r2 =>
      obtain ⟨t, e⟩ := r1
      rw [e]
      exact .cons (.int _ t) (numAll_of r2)
/-- d.get(t) of such a table, the key there -/
def tTabGet (P : Program) (w : World) (K : PySem.W.Frag) (td te : TE) : TE := fun σ H Q => td σ H fun x H1 => ∃ (a : Addr) (kvs : List (List Nat × Str)), x = .ref a ∧ TabK P w K a kvs ∧ te σ H1 fun y H2 => ∃ (p : Addr) (ks : List Nat) (z : Str), y = .ref p ∧ H2 p = some (.tup (ks.map fun k : Nat => V.int (k : Int))) ∧
  (∃ i, kvs[i]? = some (ks, z) ∧ ∀ (j : Nat) (q : List Nat × Str), j < i → kvs[j]? = some q → q.1 ≠ ks) ∧ Q (.str z) H2
theorem numK_inj {a b : List Nat} (h : numK a = numK b) : a = b := by
  unfold numK at h
  injection h with h
  have g : ∀ {l m : List Nat}, (l.map fun k : Nat => NestedKey.num (k : Int)) = (m.map fun k : Nat => NestedKey.num (k : Int)) → l = m := by
    intro l
    induction l with
    | nil =>
      intro m e
      cases m with
      | nil => rfl
      | cons _ _ => cases e
    | cons a l ih =>
      intro m e
      cases m with
      | nil => cases e
      | cons b m =>
        rw [List.map_cons, List.map_cons] at e
        injection e with e1 e2
        injection e1 with e1
        have : a = b := by omega
        rw [this, ih e2]
  exact g h
theorem tab_find {ks : List Nat} {z : Str} : ∀ {kvs : List (List Nat × Str)} {ts : List Tok} {i : Nat}, ts.length = kvs.length → kvs[i]? = some (ks, z) → (∀ (j : Nat) (q : List Nat × Str), j < i → kvs[j]? = some q → q.1 ≠ ks) →
    ∃ t : Tok, valueAt ((kvs.zip ts).map fun x => (numK x.1.1, Value.str x.1.2 x.2)) (numK ks) = some (Value.str z t)
  | [], _, i, _, h, _ => by simp at h
  | _ :: _, [], _, hl, _, _ => by simp at hl
  | (k0, z0) :: kvs, t0 :: ts, 0, _, h, _ => by
    have e := Option.some.inj h
    cases e
    exact ⟨t0, by simp [valueAt]⟩
  | (k0, z0) :: kvs, t0 :: ts, i + 1, hl, h, hn => by
    have ne : k0 ≠ ks := hn 0 (k0, z0) (Nat.succ_pos _) rfl
    have ne2 : ¬ numK k0 = numK ks := fun e => ne (numK_inj e)
    obtain ⟨t, e⟩ := tab_find (ks := ks) (z := z) (kvs := kvs) (ts := ts) (i := i) (by simpa using hl) (by simpa using h) fun j q hj hq => hn (j + 1) q (by omega) (by simpa using hq)
    refine ⟨t, ?_⟩
    unfold valueAt at e ⊢
    rw [List.zip_cons_cons, List.map_cons, List.find?_cons_of_neg (by simpa using ne2)]
    exact e
theorem pe_tabGet {X : Cx} {o e : Expr} {td te : TE} {apos cpos : Pos} (hu : X.A.units + 64 < cLine) (ho : PE X o td) (he : PE X e te) (m : M1 X o "get" apos e cpos) : PE X (.Call (.Attribute o "get" apos) [e] [] cpos) (tTabGet X.prog X.w X.K td te) := by
  refine ⟨fun pins s σ H Q I h => ?_⟩
  refine wpAny_Call_method m.base m.few m.line PySem.F.plainAttrs_dict PySem.F.slot_dict_get PySem.F.type_dict_get (thn (ho.run pins s σ H _ I h) fun u s1 ⟨x, H1, I1, rx, a, kvs, ex, ⟨hsm, ts, hT⟩, q1⟩ => ?_)
  subst ex
  obtain rfl : u = Value.ref a := rx
  obtain ⟨hD, _⟩ := hT _ I1.kIn
  have hD' := hD
  obtain ⟨xs, ⟨ob, es, ep, hob, hcl, hdat, _⟩, _⟩ := hD'
  refine ⟨hD.typeIs, fun b q => by cases q; exact ⟨ob, hob, hcl.2.1⟩, ?_⟩
  rw [m.trees]
  refine Calls.callWith_builtin rfl (Calls.evalArgs_plain (Calls.spliced_cons (thn (he.run pins s1 σ H1 _ I1 q1) fun iv s2 ⟨y, H2, I2, ry, p, ks, z, ey, hp, ⟨i, hi, hlt⟩, q2⟩ => Calls.spliced_nil ?_)))
  subst ey
  obtain rfl : iv = Value.ref p := ry
  obtain ⟨_, its, rv, ot, h1, h2, n, h3⟩ := (show ObjOk X.prog X.w H2 s2.heap p (.tup (ks.map fun k : Nat => V.int (k : Int))) from I2.hok p _ hp)
  obtain ⟨hD2, hlen⟩ := hT _ I2.kIn
  obtain ⟨t, ht⟩ := tab_find hlen hi hlt
  have hk : (nestedKind X.prog X.w).is s2.heap (numK ks) p := ⟨.tup h1 h2 h3 (by simpa using numAll_of (h := s2.heap) rv), numK_depth ks⟩
  refine get_keyed (knd := nestedKind X.prog X.w) (show X.A.in1.units + 8 < cLine by show X.A.units + 1 + 8 < cLine; omega) hk hsm hD2 ?_
  rw [ht]
  exact ⟨.str z, H2, I2.tok _, ⟨t, rfl⟩, q2⟩
/-! ### list(d.values()), list(d.keys()) -/
def tListVals (te : TE) : TE := fun σ H Q => te σ H fun x H1 => ∃ (d : Addr) (kvs : List (Key × V)), x = .ref d ∧ H1 d = some (.dK kvs) ∧ ∀ p, H1 p = none → Q (.ref p) (upd H1 p (.lst (kvs.map (·.2))))
def tListKeys (te : TE) : TE := fun σ H Q => te σ H fun x H1 => ∃ (d : Addr) (kvs : List (Key × V)), x = .ref d ∧ H1 d = some (.dK kvs) ∧ ∀ p, H1 p = none → Q (.ref p) (upd H1 p (.lst (kvs.map fun kv => kV kv.1)))
theorem vals_items {P : Nat → Value → Prop} : ∀ {xs : List V} {us : List Value} (k : Nat), us.length = xs.length → (∀ j v, us[j]? = some v → P (k + j) v) → (∀ j x v, xs[j]? = some x → P (k + j) v → RelV x v) → Vals xs us
  | [], [], _, _, _, _ => .nil
  | [], _ :: _, _, h, _, _ => by simp at h
  | _ :: _, [], _, h, _, _ => by simp at h
  | x :: xs, u :: us, k, h, h1, h2 => .cons (h2 0 x u rfl (h1 0 u rfl)) (vals_items (P := P) (k + 1) (by simpa using h) (fun j v e => by
      have := h1 (j + 1) v (by simpa using e)
      rw [show k + (j + 1) = k + 1 + j by omega] at this
      exact this) fun j y v e p => h2 (j + 1) y v (by simpa using e) (by rw [show k + (j + 1) = k + 1 + j by omega]; exact p))
section
variable {X : Cx} {e : Expr} {te : TE} {p apos cpos pos : Pos}
theorem pe_listVals (hc : X.calm = true) (he : PE X e te) (hg : Gl X "list") (hm : X.mg "list" = none) (hbase : attributeBase e "values" X.env (eval e X.env) = eval e X.env := by rfl) (hline : (apos.endLine == cpos.line) = true := by rfl)
    (hs : starEach [.Call (.Attribute e "values" apos) [] [] cpos] X.env = (false, eval (.Call (.Attribute e "values" apos) [] [] cpos) X.env) :: starEach [] X.env := by rfl) :
    PE X (.Call (.Name "list" p) [.Call (.Attribute e "values" apos) [] [] cpos] [] pos) (tListVals te) := by
  refine ⟨fun pins s σ H Q I hq => ?_⟩
  refine wpAny_Call_Name_kw (ld_blt I hg hm (by decide +kernel : bootBuiltins "list" = some (.type "list")) ?_)
  refine PyProof.Rows.callWith_type1 ?_ hs rfl
  rw [hs]
  show wpAny _ _ (spliced ((false, eval (.Call (.Attribute e "values" apos) [] [] cpos) X.env) :: backTo pos (starEach [] X.env))) _ _ s
  refine Calls.spliced_cons ?_
  refine wpAny_Call_method (T := "dict") (id := "dict.values") hbase rfl hline F.plainAttrs_dict F.slot_dict_values F.type_dict_values (thn (he.run pins s σ H _ I hq) fun u s1 ⟨x, H1, I1, rx, d, kvs, ex, hd, q⟩ => ?_)
  subst ex
  obtain rfl : u = Value.ref d := rx
  obtain ⟨hz, hs0, vs, kv, hdo⟩ := I1.hok d _ hd
  obtain ⟨ep, hat⟩ := hdo.dictAt
  have lk : kvs.length = vs.length := Paired.length kv
  refine ⟨hdo.typeIs, hdo.mapOf.noDict, ?_⟩
  show wpAny _ _ (callWith cpos (.builtin "dict.values") [.ref d] [] []) _ X.xe s1
  refine method_meetsIn F.slot_dict_values F.entry_dict_values rfl (PySem.evalArgs_none ⟨rfl, hdo.typeIs, F.args_dict_values_1 _, _, meets_dict_values (mixKind X.prog X.w) d hs0, ⟨vs, hdo⟩, ?_⟩)
  refine Calls.spliced_nil ?_
  refine PySem.W.kdl_call (PySem.W.kdl_values (knd := mixKind X.prog X.w) (kvs := vs) (ep := ep) (r := s1.heap.objs.size)) (I1.ok.hd hc) ⟨⟨_, Heap.get?_push_size _ rfl, rfl, rfl⟩, hat.push _⟩ (by omega) fun h' tk acc c hk hS hI => ?_
  have keep : ∀ b o, s1.heap.get? b = some o → h'.get? b = some o := fun b o z => hk b o (Heap.get?_push_of_some _ z)
  have hl : acc.toList.length = (kvs.map (·.2)).length := by rw [Array.length_toList, List.length_map, hI.1]; omega
  have rv : Vals (kvs.map (·.2)) acc.toList := vals_items (P := fun i v => ∃ k, vs[i]? = some (k, v)) 0 hl (fun j v z => by rw [Nat.zero_add]; exact hI.2 j v (by rw [← Array.getElem?_toList]; exact z)) fun j y v z ⟨k, w'⟩ => by
    rw [Nat.zero_add] at w'
    obtain ⟨q0, g1, g2⟩ : ∃ q0, kvs[j]? = some q0 ∧ y = q0.2 := by
      rw [List.getElem?_map] at z
      cases h : kvs[j]? with
      | none => rw [h] at z; cases z
      | some q0 => rw [h] at z; exact ⟨q0, rfl, (Option.some.inj z).symm⟩
    obtain ⟨pk, e2, e3⟩ := LiI.paired_get kv g1
    rw [w'] at e2
    cases e2
    rw [g2]
    exact e3.2
  refine ⟨.ref _, upd H1 _ (.lst (kvs.map (·.2))), I1.laid (t' := tk) keep (Nat.le_succ _ |> fun z => by rw [Heap.size_push]; exact z) ⟨by rw [List.length_map]; omega, acc.toList, c, rv, by simpa using hS⟩, rfl, q _ (I1.hok.fresh (by rw [Heap.size_push]; exact Nat.le_succ _))⟩
theorem pe_listKeys (hc : X.calm = true) (he : PE X e te) (hg : Gl X "list") (hm : X.mg "list" = none) (hbase : attributeBase e "keys" X.env (eval e X.env) = eval e X.env := by rfl) (hline : (apos.endLine == cpos.line) = true := by rfl)
    (hs : starEach [.Call (.Attribute e "keys" apos) [] [] cpos] X.env = (false, eval (.Call (.Attribute e "keys" apos) [] [] cpos) X.env) :: starEach [] X.env := by rfl) :
    PE X (.Call (.Name "list" p) [.Call (.Attribute e "keys" apos) [] [] cpos] [] pos) (tListKeys te) := by
  refine ⟨fun pins s σ H Q I hq => ?_⟩
  refine wpAny_Call_Name_kw (ld_blt I hg hm (by decide +kernel : bootBuiltins "list" = some (.type "list")) ?_)
  refine PyProof.Rows.callWith_type1 ?_ hs rfl
  rw [hs]
  show wpAny _ _ (spliced ((false, eval (.Call (.Attribute e "keys" apos) [] [] cpos) X.env) :: backTo pos (starEach [] X.env))) _ _ s
  refine Calls.spliced_cons ?_
  refine wpAny_Call_method (T := "dict") (id := "dict.keys") hbase rfl hline F.plainAttrs_dict F.slot_dict_keys F.type_dict_keys (thn (he.run pins s σ H _ I hq) fun u s1 ⟨x, H1, I1, rx, d, kvs, ex, hd, q⟩ => ?_)
  subst ex
  obtain rfl : u = Value.ref d := rx
  obtain ⟨hz, hs0, vs, kv, hdo⟩ := I1.hok d _ hd
  obtain ⟨ep, hat⟩ := hdo.dictAt
  have lk : kvs.length = vs.length := Paired.length kv
  refine ⟨hdo.typeIs, hdo.mapOf.noDict, ?_⟩
  show wpAny _ _ (callWith cpos (.builtin "dict.keys") [.ref d] [] []) _ X.xe s1
  refine method_meetsIn F.slot_dict_keys F.entry_dict_keys rfl (PySem.evalArgs_none ⟨rfl, hdo.typeIs, F.args_dict_keys_1 _, _, PySem.W.kdl_meets_keys (mixKind X.prog X.w) d hs0, ⟨vs, hdo⟩, ?_⟩)
  refine Calls.spliced_nil ?_
  refine PySem.W.kdl_call (PySem.W.kdl_keys (knd := mixKind X.prog X.w) (kvs := vs) (ep := ep) (r := s1.heap.objs.size)) (I1.ok.hd hc) ⟨⟨_, Heap.get?_push_size _ rfl, rfl, rfl⟩, hat.push _⟩ (by omega) fun h' tk acc c hk hS hI => ?_
  have keep : ∀ b o, s1.heap.get? b = some o → h'.get? b = some o := fun b o z => hk b o (Heap.get?_push_of_some _ z)
  have hl : acc.toList.length = (kvs.map fun kv => kV kv.1).length := by rw [Array.length_toList, List.length_map, hI.1]; omega
  have rv : Vals (kvs.map fun kv => kV kv.1) acc.toList := vals_items (P := fun i v => ∃ k x, vs[i]? = some (k, x) ∧ (mixKind X.prog X.w).is k v = true) 0 hl (fun j v z => by rw [Nat.zero_add]; exact hI.2 j v (by rw [← Array.getElem?_toList]; exact z)) fun j y v z ⟨k, x, w', w2⟩ => by
    rw [Nat.zero_add] at w'
    obtain ⟨q0, g1, g2⟩ : ∃ q0, kvs[j]? = some q0 ∧ y = kV q0.1 := by
      rw [List.getElem?_map] at z
      cases h : kvs[j]? with
      | none => rw [h] at z; cases z
      | some q0 => rw [h] at z; exact ⟨q0, rfl, (Option.some.inj z).symm⟩
    obtain ⟨pk, e2, e3⟩ := LiI.paired_get kv g1
    rw [w'] at e2
    cases e2
    rw [g2]
    rw [e3.1]
    exact relV_key (show keyIs k v = true from w2)
  refine ⟨.ref _, upd H1 _ (.lst (kvs.map fun kv => kV kv.1)), I1.laid (t' := tk) keep (Nat.le_succ _ |> fun z => by rw [Heap.size_push]; exact z) ⟨by rw [List.length_map]; omega, acc.toList, c, rv, by simpa using hS⟩, rfl, q _ (I1.hok.fresh (by rw [Heap.size_push]; exact Nat.le_succ _))⟩
end
end L2

namespace SrtO
open PySem PyProof.Rows PySem.W
/-- a tuple of two ints and an object -/
def IsRow (h : Heap) (v : Value) (x : Int) : Prop := ∃ a o t y u c n, v = .ref a ∧ h.get? a = some o ∧ o.cls = .type "tuple" ∧ o.data = .seq #[.int x t, .int y u, .ref c] n
theorem IsRow.keeps {h h' : Heap} {v : Value} {x : Int} (p : IsRow h v x) (k : ∀ b o, h.get? b = some o → o.cls = .type "tuple" → h'.get? b = some o) : IsRow h' v x := by
  obtain ⟨a, o, t, y, u, c, n, e, ho, hc, hd⟩ := p
  exact ⟨a, o, t, y, u, c, n, e, k _ _ ho hc, hc, hd⟩
theorem row_firsts {h : Heap} : ∀ {vs : List Value}, (∀ v ∈ vs, ∃ x, IsRow h v x) → ∃ fs : List Value, PySem.W.KatTups h vs fs ∧ fs.length = vs.length ∧ ∀ f ∈ fs, ∃ x t, f = Value.int x t
  | [], _ => ⟨[], PySem.W.KatTups.nil, rfl, fun _ hm => by simp at hm⟩
  | v :: vs, hv => by
    obtain ⟨fs, h1, h2, h3⟩ := row_firsts (h := h) (vs := vs) fun w hw => hv w (List.mem_cons_of_mem _ hw)
    obtain ⟨x, a, o, t, y, u, c, n, e, ho, hc, hd⟩ := hv v List.mem_cons_self
    subst e
    refine ⟨.int x t :: fs, .cons ho hc hd rfl h1, by simp [h2], fun f hf => ?_⟩
    rcases List.mem_cons.mp hf with e | hf
    · exact ⟨x, t, e⟩
    · exact h3 f hf
theorem swo_key (k : Value → Int) : Swo fun v u => decide (k v < k u) := by
  refine ⟨fun x y h => ?_, fun x y z h1 h2 => ?_⟩
  · have a := of_decide_eq_true h
    exact decide_eq_false (by omega)
  · have a := of_decide_eq_false h1
    have b := of_decide_eq_false h2
    exact decide_eq_false (by omega)
section
variable {prog : Program} {w : World} {A : Around} {E : Value → Shared → Prop} {s : Shared}
theorem row_cmp {vs : List Value} {k : Value → Int} (hp : ∀ v ∈ vs, IsRow s.heap v (k v)) (hi : ∀ v ∈ vs, ∀ u ∈ vs, k v = k u → v = u) : Cmp prog w A s (tuples' true) (fun p => p.1 ∈ vs) (lt2 fun v u => decide (k v < k u)) := by
  intro p q hm hm'
  have h1 := hp _ hm
  have h2 := hp _ hm'
  have h3 := hi _ hm _ hm'
  show wpAny (model prog w) A (keyLt' (tuples' true) p.1 q.1) (fun r s' => s' = s ∧ r = decide (k p.1 < k q.1)) (fun _ _ => False) s
  generalize k p.1 = x at h1 h3 ⊢
  generalize k q.1 = x' at h2 h3 ⊢
  obtain ⟨a, o, t, y, u, c, n, e, ho, hc, hd⟩ := h1
  obtain ⟨a', o', t', y', u', c', n', e', ho', hc', hd'⟩ := h2
  rw [e, e'] at h3 ⊢
  refine PySem.W.kat_lt ho hd ho' hd' ?_
  show PySem.W.KatLex prog w A true (decide (3 < 3)) _ [(.int x t, .int x' t'), (.int y u, .int y' u'), (.ref c, .ref c')] 0 s
  refine PySem.W.kat_cons (SeqAt.EqAt.int_int x t x' t' prog w _ _ ?_)
  refine PySem.W.kat_go (fun e1 => ?_) (fun e1 => ?_)
  · have ex : x = x' := by simpa using e1
    have ea : a = a' := Value.ref.inj (h3 ex)
    subst ea
    rw [ho] at ho'
    have eo := Option.some.inj ho'
    subst eo
    rw [hd] at hd'
    injection hd' with ed _
    have ey : y = y' := by
      have z := congrArg (fun a : Array Value => a[1]?) ed
      simp at z
      exact z.1
    have ec : c = c' := by
      have z := congrArg (fun a : Array Value => a[2]?) ed
      simpa using z
    subst ec
    refine PySem.W.kat_yes (PySem.W.kat_cons (SeqAt.EqAt.int_int y u y' u' prog w _ _ ?_))
    refine PySem.W.kat_go (fun e2 => ?_) (fun e2 => ?_)
    · refine PySem.W.kat_yes (PySem.W.kat_cons (SeqAt.EqAt.same (.ref c) prog w _ _ ?_))
      refine PySem.W.kat_go (fun _ => ?_) (fun z => nomatch z)
      refine PySem.W.kat_yes (PySem.W.kat_nil ⟨rfl, ?_⟩)
      rw [ex]
      exact (decide_eq_false (by omega)).symm
    · exact absurd ey (by simpa using e2)
  · have ex : ¬ x = x' := by simpa using e1
    exact PySem.W.kat_no (oneLt_int ⟨rfl, rfl⟩)
theorem rows_sortableO {a : Addr} {vs : List Value} {k : Value → Int} (h0 : 0 < vs.length) (hp : ∀ v ∈ vs, IsRow s.heap v (k v)) (hi : ∀ v ∈ vs, ∀ u ∈ vs, k v = k u → v = u) (ha : ∀ o, s.heap.get? a = some o → o.cls ≠ .type "tuple") : SortableO prog w A s a vs fun v u => decide (k v < k u) := by
  intro h' keep
  have hp' : ∀ v ∈ vs, IsRow h' v (k v) := fun v hm => (hp v hm).keeps fun b o e c => keep b o (fun z => by subst z; exact ha o e c) e
  obtain ⟨fs, h1, h2, h3⟩ := row_firsts fun v hm => ⟨_, hp' v hm⟩
  refine ⟨tuples' true, fun Q E hq => ?_, row_cmp hp' hi⟩
  refine PySem.W.kat_kind (T := .type "int") h1 (by omega) (fun f hm => ?_) (by rfl) ?_
  · obtain ⟨x, t, rfl⟩ := h3 f hm
    exact PySem.W.Looks.now
  · have e : (Value.type "int" != Value.type "tuple") = true := by first | decide +kernel | rfl | decide
    rw [e]
    exact hq
theorem sorted_rowsO {l : Addr} {vs : List Value} {k : Value → Int} {Q : Value → Shared → Prop} (hl : s.heap.IsList l vs.toArray) (hz : vs.length ≤ sizeLine) (hp : ∀ v ∈ vs, IsRow s.heap v (k v)) (hi : ∀ v ∈ vs, ∀ u ∈ vs, k v = k u → v = u)
    (h : ∀ (h' : Heap) (d : Addr) (out : List Value), Srtd (fun v u => decide (k v < k u)) out → Stb (fun v u => decide (k v < k u)) out vs → (∀ b o, s.heap.get? b = some o → h'.get? b = some o) → s.heap.objs.size ≤ d → (∃ n, h'.get? d = some (seqObj "list" out.toArray n)) → Q (.ref d) { s with heap := h' }) :
    wpAny (model prog w) A (call (.builtin "sorted") [.ref l]) Q E s := by
  refine sorted_ord (swo_key k) hl hz (fun h2 h₁ a ha kk => ?_) fun out hs hb => ?_
  · refine rows_sortableO (s := { s with heap := h₁ }) (by omega) (fun v hm => (hp v hm).keeps fun b o e _ => (kk b o e).2) hi fun o e => ?_
    have e' : some o = some (seqObj "list" vs.toArray 0) := e.symm.trans ha
    cases e'
    intro c
    exact absurd (Value.type.inj c) (by decide)
  · exact h _ _ out hs hb (fun b o e => sortedAll_old e) (Nat.le_succ _) (sortedAll_at s.heap vs out.toArray)
end
end SrtO
namespace L2
open PySem PySem.Spec PyProof.Rows
def rSortedR (K : PySem.W.Frag) : List V → Hp → VK → Prop := fun vs H Q => ∃ (a : Addr) (rs : List Addr) (k : Addr → Int), vs = [V.ref a] ∧ SqL K H a (rs.map V.ref) ∧ (∀ r ∈ rs, ∃ (y : Int) (c : Addr), H r = some (.tup [.int (k r), .int y, .ref c])) ∧
  (∀ r ∈ rs, ∀ r' ∈ rs, k r = k r' → r = r') ∧ ∀ (rs' : List Addr) (p : Addr), rs'.Perm rs → rs'.Pairwise (fun a b => k a ≤ k b) → H p = none → Q (.ref p) (upd H p (.lst (rs'.map V.ref)))
theorem vals_refs_eq : ∀ {rs : List Addr} {us : List Value}, Vals (rs.map V.ref) us → us = rs.map Value.ref
  | [], _, r => by cases r; rfl
  | a :: rs, _, r => by
    cases r with
    | cons r1 r2 =>
      rw [vals_refs_eq r2]
      cases r1
      rfl
def addrV : Value → Addr
  | .ref a => a
  | _ => 0
theorem cr_sortedR {X : Cx} : CallR X (.builtin "sorted") (rSortedR X.K) := by
  intro pins s σ H vs us Q I r h
  obtain ⟨a, rs, k, rfl, hs, hx, hi, q⟩ := h
  obtain ⟨its, rv, hl, hz⟩ := I.list hs
  obtain ⟨u, rfl, ru⟩ := vals1 r
  obtain rfl : u = Value.ref a := ru
  have ei := vals_refs_eq rv
  subst ei
  refine SrtO.sorted_rowsO (k := fun u => k (addrV u)) hl.isList (by rw [List.length_map] at *; exact hz) (fun v hv => ?_) (fun v hv u hu e => ?_) fun h' d out h1 h2 kp hd hn => ?_
  · obtain ⟨t, ht, rfl⟩ := List.mem_map.mp hv
    obtain ⟨y, c, e⟩ := hx t ht
    obtain ⟨_, its2, r2, o, ho, hc, n, hdt⟩ := (show ObjOk X.prog X.w H s.heap t (.tup [.int (k t), .int y, .ref c]) from I.hok _ _ e)
    cases r2 with
    | cons a1 r2 =>
      cases r2 with
      | cons a2 r2 =>
        cases r2 with
        | cons a3 r2 =>
          cases r2
          obtain ⟨t1, rfl⟩ := a1
          obtain ⟨t2, rfl⟩ := a2
          cases a3
          exact ⟨t, o, t1, y, t2, c, n, rfl, ho, hc, hdt⟩
  · obtain ⟨t, ht, rfl⟩ := List.mem_map.mp hv
    obtain ⟨t', ht', rfl⟩ := List.mem_map.mp hu
    rw [hi t ht t' ht' e]
  · obtain ⟨n, hn⟩ := hn
    have hp := h2.perm
    have eo : out = (out.map addrV).map Value.ref := by
      rw [List.map_map]
      have : ∀ u ∈ out, Value.ref (addrV u) = u := fun u hu => by
        obtain ⟨t, _, rfl⟩ := List.mem_map.mp (hp.mem_iff.mp hu)
        rfl
      conv => lhs; rw [← List.map_id out]
      exact List.map_congr_left fun u hu => (this u hu).symm
    have hp2 : (out.map addrV).Perm rs := by
      have z := hp.map addrV
      rw [List.map_map] at z
      have id : (rs.map (addrV ∘ Value.ref)) = rs := by
        conv => rhs; rw [← List.map_id rs]
        rfl
      rw [id] at z
      exact z
    have hs2 : (out.map addrV).Pairwise (fun a b => k a ≤ k b) := by
      rw [List.pairwise_map]
      refine List.Pairwise.imp (fun {a b} h => ?_) h1
      have := of_decide_eq_false h
      omega
    refine ⟨.ref d, upd H d (.lst ((out.map addrV).map V.ref)), I.laid (t' := s.toks) kp hd ⟨?_, out, n, ?_, hn⟩, rfl, q _ d hp2 hs2 (I.hok.fresh hd)⟩
    · rw [List.length_map, hp2.length_eq]
      rw [List.length_map] at hz
      exact hz
    · rw [eo]
      have g : ∀ l : List Addr, Vals (l.map V.ref) (l.map Value.ref) := fun l => by
        induction l with
        | nil => exact .nil
        | cons a l ih => exact .cons rfl ih
      rw [← eo]
      conv => arg 2; rw [eo]
      exact g _
/-- list.index within a comprehension -/
theorem pe_indexK {X : Cx} {K : PySem.W.Frag} (h : X.K = K) {o e : Expr} {to te : TE} {apos cpos : Pos} (p : PE X (.Call (.Attribute o "index" apos) [e] [] cpos) (tBM X.K "list" (rIndex X.K) to (tCons te tNil))) : PE X (.Call (.Attribute o "index" apos) [e] [] cpos) (tBM K "list" (rIndex K) to (tCons te tNil)) := by
  subst h
  exact p
theorem op_notInK {X : Cx} {K : PySem.W.Frag} (h : X.K = K) : OpR X (compareOp .NotIn) (rIn K true) := by
  subst h
  exact op_notIn_seq
end L2

namespace L2
open PySem PySem.Spec PyProof.Rows
section
variable {X : Cx}
/-- a name of the def's own, on the line of the comprehension: stored within its frame -/
theorem swd_true {kx vx : Expr} {gs : List Comprehension} {scope : Scope} {pos py : Pos} {y : Str} {l : Nat} {env : Env} (e1 : env.scope.kind = .function) (e2 : env.scope.names.lookup y = some .local) (e3 : (py.line == pos.line) = true)
    (e4 : (scope.names.any fun (n, k) => n == y && (k == .local || k == .cell)) = false) : swapsWith (.DictComp kx vx gs scope pos) (some (.Name y py)) l env = pure true := by
  have a1 : env.kindOf y = some .local := e2
  have a2 : env.blockKind = .function := (by unfold Env.blockKind; rw [e1]; rfl)
  unfold swapsWith
  simp only [a2, a1, e4, Expr.pos, e3]
  rfl
/-- y = {k: v for x in xs} -/
theorem ps_setDc {i : Nat} {y : Str} {py pos spos : Pos} {kx vx tg iter : Expr} {ifs : List Expr} {scope : Scope} {own : List (Str × Nat)} {wi : TI} {g : TG} {tt : TT} {tk tv : TE} (calm : X.calm = true) (nd : X.N.Nodup) (at_y : X.N[i]? = some y) (loc : X.env.scope.names.lookup y = some .local)
    (sw : swapsWith (.DictComp kx vx [⟨tg, iter, ifs, 0⟩] scope pos) (some (.Name y py)) spos.line X.env = pure true) (walk : PI X tg iter wi) (ok : BlkOk X.N X.env.scope scope own)
    (rg : ∀ (s : Shared) (H : Hp) (C : Addr) (cl : List (Str × Addr)) (fp : List Addr), PG (X.blk s H scope (compEnvC scope cl C X.env) fp) tg g)
    (rt : ∀ (s : Shared) (H : Hp) (C : Addr) (cl : List (Str × Addr)) (fp : List Addr), PTs (X.blk s H scope (compEnvC scope cl C X.env) fp) ifs tt)
    (rk : ∀ (s : Shared) (H : Hp) (C : Addr) (cl : List (Str × Addr)) (fp : List Addr), PE (X.blk s H scope (compEnvC scope cl C X.env) fp) kx tk)
    (rv : ∀ (s : Shared) (H : Hp) (C : Addr) (cl : List (Str × Addr)) (fp : List Addr), PE (X.blk s H scope (compEnvC scope cl C X.env) fp) vx tv)
    (fold : ∀ x, foldedSetIterable iter X.env x = pure x := by intro _; rfl) :
    PS X (.Assign [.Name y py] (.DictComp kx vx [⟨tg, iter, ifs, 0⟩] scope pos) spos) (tAsg (tDc wi g tt tk tv (own.map (·.2))) (gName i)) := by
  constructor
  intro pins s σ H D I q
  have q : tDc wi g tt tk tv (own.map (·.2)) σ H (fun x H1 => gName i x σ H1 D.nx) := q
  rw [exec_Assign_Name_used _ _ _ _ sw]
  apply wpAny_bind
  apply wpAny_standAt
  apply wpAny_bind
  show wpAny _ X.A (do let _ ← comprehension (.DictComp kx vx [⟨tg, iter, ifs, 0⟩] scope pos) scope X.env (firstIterPos [⟨tg, iter, ifs, 0⟩] pos) newDict false (eval iter X.env) (some (assign (.Name y py) X.env))) _ _ s
  apply wpAny_bind
  refine thn (dc_core (Qf := fun _ s' => SP X pins D .next s') calm nd I walk ok rg rt rk rv fold q ?_) fun _ _ z => wpAny_pure (wpAny_pure z)
  intro d c t n H2 J nx ns fr
  show wpAny _ _ (assign (.Name y py) X.env (.ref d)) _ _ _
  refine wpAny_assign_Name (store_ok2 (v := V.ref d) J nd at_y (.inl loc) rfl ?_ (.inr loc))
  rintro u JU ⟨b, same, which⟩
  obtain ⟨r0, r1, r2, r3, r4, r5⟩ := fr
  have far : c ≠ b := by
    cases which with
    | inl z => exact z ▸ r1
    | inr z => exact fun e => r4 y b z e.symm
  exact ⟨n, ns.sameBut same far, fun _ rest => ⟨_, H2, JU.turned (t' := u.toks) (fun a o ha e => (rest.2 a ha).trans e) r0 r1 r3 r4 r5, nx⟩⟩
end
end L2

namespace SrtO
open PySem PyProof.Rows Srt
section
variable {prog : Program} {w : World} {A : Around} {E : Value → Shared → Prop} {s : Shared}
/-- the heap with the items of a tuple in a new list -/
def gath (h : Heap) (its : List Value) : Heap := (h.push (seqObj "list" #[] 0)).update h.objs.size (Obj.mapSeq (· ++ its.toArray))
theorem gath_at (h : Heap) (its : List Value) : ∃ k, (gath h its).get? h.objs.size = some (seqObj "list" its.toArray k) := by
  have e := get?_update_seq (c := "list") (xs := #[]) (n := 0) (Heap.get?_push_size h rfl) (· ++ its.toArray)
  rw [Array.empty_append] at e
  exact ⟨_, e⟩
theorem gath_old {h : Heap} {its : List Value} {b : Addr} {o : Obj} (e : h.get? b = some o) : (gath h its).get? b = some o := by
  unfold gath
  rw [Heap.get?_update_ne _ _ _ _ (Nat.ne_of_lt (Heap.lt_size e))]
  exact Heap.get?_push_of_some _ e
theorem gath_size (h : Heap) (its : List Value) : (gath h its).objs.size = h.objs.size + 1 := by
  unfold gath
  rw [Heap.size_update, size_push']
theorem gather_tup {t : Addr} {o : Obj} {its : List Value} {k : Nat} {Q : List Value → Shared → Prop} (there : s.heap.get? t = some o) (cls : o.cls = .type "tuple") (dat : o.data = .seq its.toArray k) (few : its.length ≤ sizeLine)
    (next : Q its { s with heap := gath s.heap its }) : wpAny (model prog w) A (collect (.ref t)) Q E s := by
  have there' : (s.heap.push (seqObj "list" #[] 0)).get? t = some o := Heap.get?_push_of_some _ there
  have new0 : (s.heap.push (seqObj "list" #[] 0)).get? s.heap.objs.size = some (seqObj "list" #[] 0) := Heap.get?_push_size _ rfl
  unfold collect
  apply wpAny_bind
  refine wpAny_runValue (codeAny_builtin entry_proto_collect' ?_)
  show wpAny _ _ (newList [] >>= fun l => again (.builtin "list.__iadd__" ⟨[l, .ref t], []⟩)) _ _ s
  apply wpAny_bind
  refine wpAny_newList (wpAny_pure ⟨Code.quiet_builtin _ (by decide +kernel), codeAny_builtin entry_list_iadd' ?_⟩)
  show wpAny _ _ (Builtin.List.listExtendWith (.ref s.heap.objs.size) (.ref t) (.ref s.heap.objs.size)) _ _ { s with heap := s.heap.push (seqObj "list" #[] 0) }
  unfold Builtin.List.listExtendWith
  apply wpAny_bind
  refine wpAny_typeOf (T := "tuple") ⟨o, there', cls⟩ ?_
  have isT : (Value.type "tuple" == Value.type "tuple") = true := by rfl
  rw [if_pos (by rw [isT]; simp)]
  refine wpAny_bind (listItems_at there' dat ?_)
  refine wpAny_bind (listItems_at new0 rfl ?_)
  rw [if_neg (by simp)]
  refine wpAny_bind (listUpdate_at new0 rfl ?_ (Nat.zero_le _) (by show (#[] ++ its.toArray).size ≤ sizeLine + 1; simp only [Array.size_append, List.size_toArray, List.length_nil]; omega))
  refine wpAny_pure ?_
  obtain ⟨k2, e⟩ := gath_at s.heap its
  show wpAny (model prog w) A (do
      let o ← load s.heap.objs.size
      match o.data with
      | .seq xs _ => pure xs.toList
      | _ => unsupported "internal:collect") Q E { s with heap := gath s.heap its }
  exact wpAny_bind (wpAny_load e (wpAny_pure next))
/-- sorted(t), t a tuple of ints -/
theorem sorted_tupI {t : Addr} {o : Obj} {its : List Value} {ns : List Int} {k : Nat} {Q : Value → Shared → Prop} (I : IntsAre its ns) (there : s.heap.get? t = some o) (cls : o.cls = .type "tuple") (dat : o.data = .seq its.toArray k) (few : its.length ≤ sizeLine)
    (next : ∀ (out : List Value) (h' : Heap) (e : Nat), Srtd ltIv out → Stb ltIv out its → (∀ b u, s.heap.get? b = some u → h'.get? b = some u) → h'.get? (s.heap.objs.size + 1) = some (seqObj "list" out.toArray e) → Q (.ref (s.heap.objs.size + 1)) { s with heap := h' }) :
    wpAny (model prog w) A (call (.builtin "sorted") [.ref t]) Q E s := by
  refine Calls.call_function_entry kind_sorted plain_sorted entry_sorted (args_sorted1 _) ?_
  unfold Builtin.«sorted»
  refine wpAny_bind (m := checkCount "sorted" 1 1 _) (wpAny_pure ?_)
  refine wpAny_bind (gather_tup there cls dat few ?_)
  refine wpAny_bind (wpAny_newList ?_ few)
  show wpAny _ _ _ _ _ { s with heap := (gath s.heap its).push (seqObj "list" its.toArray 0) }
  have at_l : ((gath s.heap its).push (seqObj "list" its.toArray 0)).get? (gath s.heap its).objs.size = some (seqObj "list" its.toArray 0) := Heap.get?_push_size _ rfl
  refine wpAny_bind (wpAny_holding (wpAny_call_entry slot_list_sort ⟨_, at_l, rfl⟩ entry_list_sort (list_sort_ord swo_int at_l few (fun two => ints_sortable I two) fun out h1 h2 => ⟨_, rfl, ?_⟩) (args_list_sort _)))
  obtain ⟨e, he⟩ := sortedHeap_at (vs := its) (out := out.toArray) at_l
  rw [gath_size] at he ⊢
  refine wpAny_pure ⟨_, rfl, next out _ e h1 h2 (fun b u z => ?_) he⟩
  have lt : b < s.heap.objs.size := Heap.lt_size z
  rw [sortedHeap_old (Nat.ne_of_lt (Nat.lt_succ_of_lt lt)) (by rw [size_push', gath_size]; exact Nat.lt_succ_of_lt (Nat.lt_succ_of_lt lt))]
  exact Heap.get?_push_of_some _ (gath_old z)
end
end SrtO
namespace L2
open PySem PySem.Spec PyProof.Rows
def rSortedTI (K : PySem.W.Frag) : List V → Hp → VK → Prop := fun vs H Q => ∃ (a : Addr) (ns : List Int), vs = [V.ref a] ∧ SqT K H a (ns.map V.int) ∧ ∀ (ns' : List Int) (p : Addr), ns'.Perm ns → ns'.Pairwise (· ≤ ·) → H p = none → Q (.ref p) (upd H p (.lst (ns'.map V.int)))
theorem cr_sortedTI {X : Cx} : CallR X (.builtin "sorted") (rSortedTI X.K) := by
  intro pins s σ H vs us Q I r h
  obtain ⟨a, ns, rfl, hs, q⟩ := h
  obtain ⟨its, rv, ⟨o, ho, hc, k, hd⟩, hz⟩ := I.tuple hs
  rw [Vals.ref1 r]
  have hz' : ns.length ≤ sizeLine := by
    rw [List.length_map] at hz
    exact hz
  refine SrtO.sorted_tupI rv.ints ho hc hd (by rw [← rv.length]; exact hz) fun out h' e h1 h2 old new => ?_
  obtain ⟨k1, k2, k3⟩ := SrtO.ints_out rv.ints h1 h2
  exact ⟨.ref _, upd H (s.heap.objs.size + 1) (.lst ((out.map SrtO.iv).map V.int)), I.laid (t' := s.toks) old (Nat.le_succ _) ⟨by rw [List.length_map, k2.length_eq]; exact hz', out, e, vals_of_ints k1, new⟩, rfl, q _ _ k2 k3 (I.hok.fresh (Nat.le_succ _))⟩
end L2

namespace L2
open PySem PySem.Spec PyProof.Rows
section
variable {X : Cx} {st : Stmt} {rest : List Stmt} {t : TS}
/-- a statement behind which nothing is ever run -/
def tStop (t : TS) : TS := fun D σ H => t { D with nx := fun _ _ => False } σ H
theorem pss_stop (h1 : PS X st t) : PSs X (st :: rest) (tStop t) := by
  refine ⟨fun pins s σ H D I h => ?_⟩
  refine wpAny_execs_cons (thn (h1.run pins s σ H { D with nx := fun _ _ => False } I h) fun f s1 q => ?_)
  cases f with
  | next =>
    obtain ⟨σ', H', I', q⟩ := q
    exact False.elim q
  | ret v => exact q
  | brk => exact q
  | cont => exact q
end
end L2

namespace L2
open PySem PySem.Spec PyProof.Rows
/-- d.get(t) of a written table, whether the key is there or not -/
def tTabLook (P : Program) (w : World) (K : PySem.W.Frag) (td te : TE) : TE := fun σ H Q => td σ H fun x H1 => ∃ (a : Addr) (kvs : List (List Nat × Str)), x = .ref a ∧ TabK P w K a kvs ∧ te σ H1 fun y H2 => ∃ (p : Addr) (ks : List Nat), y = .ref p ∧ H2 p = some (.tup (ks.map fun k : Nat => V.int (k : Int))) ∧
  (∀ q, (kvs.find? fun q => decide (q.1 = ks)) = some q → Q (.str q.2) H2) ∧ ((kvs.find? fun q => decide (q.1 = ks)) = none → Q .non H2)
theorem tab_look {ks : List Nat} : ∀ {kvs : List (List Nat × Str)} {ts : List Tok}, ts.length = kvs.length →
    (∀ q, (kvs.find? fun q => decide (q.1 = ks)) = some q → ∃ t : Tok, valueAt ((kvs.zip ts).map fun x => (numK x.1.1, Value.str x.1.2 x.2)) (numK ks) = some (Value.str q.2 t)) ∧
    ((kvs.find? fun q => decide (q.1 = ks)) = none → valueAt ((kvs.zip ts).map fun x => (numK x.1.1, Value.str x.1.2 x.2)) (numK ks) = none)
  | [], ts, _ => ⟨fun q h => by simp at h, fun _ => by simp [valueAt]⟩
  | _ :: _, [], hl => by simp at hl
  | (k0, z0) :: kvs, t0 :: ts, hl => by
    have ih := tab_look (ks := ks) (kvs := kvs) (ts := ts) (by simpa using hl)
    by_cases c : k0 = ks
    · subst c
      refine ⟨fun q h => ?_, fun h => ?_⟩
      · rw [List.find?_cons_of_pos (by simp)] at h
        cases Option.some.inj h
        exact ⟨t0, by simp [valueAt]⟩
      · rw [List.find?_cons_of_pos (by simp)] at h
        cases h
    · have ne2 : ¬ numK k0 = numK ks := fun e => c (numK_inj e)
      rw [List.find?_cons_of_neg (by simpa using c)]
      unfold valueAt at ih ⊢
      rw [List.zip_cons_cons, List.map_cons, List.find?_cons_of_neg (by simpa using ne2)]
      exact ih
theorem pe_tabLook {X : Cx} {o e : Expr} {td te : TE} {apos cpos : Pos} (hu : X.A.units + 64 < cLine) (ho : PE X o td) (he : PE X e te) (m : M1 X o "get" apos e cpos) : PE X (.Call (.Attribute o "get" apos) [e] [] cpos) (tTabLook X.prog X.w X.K td te) := by
  refine ⟨fun pins s σ H Q I h => ?_⟩
  refine wpAny_Call_method m.base m.few m.line PySem.F.plainAttrs_dict PySem.F.slot_dict_get PySem.F.type_dict_get (thn (ho.run pins s σ H _ I h) fun u s1 ⟨x, H1, I1, rx, a, kvs, ex, ⟨hsm, ts, hT⟩, q1⟩ => ?_)
  subst ex
  obtain rfl : u = Value.ref a := rx
  obtain ⟨hD, _⟩ := hT _ I1.kIn
  have hD' := hD
  obtain ⟨xs, ⟨ob, es, ep, hob, hcl, hdat, _⟩, _⟩ := hD'
  refine ⟨hD.typeIs, fun b q => by cases q; exact ⟨ob, hob, hcl.2.1⟩, ?_⟩
  rw [m.trees]
  refine Calls.callWith_builtin rfl (Calls.evalArgs_plain (Calls.spliced_cons (thn (he.run pins s1 σ H1 _ I1 q1) fun iv s2 ⟨y, H2, I2, ry, p, ks, ey, hp, q2, q3⟩ => Calls.spliced_nil ?_)))
  subst ey
  obtain rfl : iv = Value.ref p := ry
  obtain ⟨_, its, rv, ot, h1, h2, n, h3⟩ := (show ObjOk X.prog X.w H2 s2.heap p (.tup (ks.map fun k : Nat => V.int (k : Int))) from I2.hok p _ hp)
  obtain ⟨hD2, hlen⟩ := hT _ I2.kIn
  obtain ⟨f1, f2⟩ := tab_look (ks := ks) hlen
  have hk : (nestedKind X.prog X.w).is s2.heap (numK ks) p := ⟨.tup h1 h2 h3 (by simpa using numAll_of (h := s2.heap) rv), numK_depth ks⟩
  refine get_keyed (knd := nestedKind X.prog X.w) (show X.A.in1.units + 8 < cLine by show X.A.units + 1 + 8 < cLine; omega) hk hsm hD2 ?_
  cases hf : kvs.find? fun q => decide (q.1 = ks) with
  | some q =>
    obtain ⟨t, ht⟩ := f1 q hf
    rw [ht]
    exact ⟨.str q.2, H2, I2.tok _, ⟨t, rfl⟩, q2 q hf⟩
  | none =>
    rw [f2 hf]
    exact ⟨.non, H2, I2.tok _, rfl, q3 hf⟩
end L2

/-! exceptions whose context is known to be None: raised by defs, caught where the suite calls defs -/
namespace L2N
open PySem PySem.Spec PyProof.Rows L2
theorem takes0N {X : Cx} : Takes X (fun _ _ _ _ => False) := fun _ _ x => by
  obtain ⟨a, B, sI, pins, σ, H, cls, d, e, I, nb, up, sky, na, os, ag, w⟩ := x
  exact False.elim w
section
variable {X : Cx} {e : Expr} {es : List Expr} {ta : TA} {p pos : Pos}
/-- raise X(e, ..), own __init__: the new exception has no context -/
theorem pmk_oexN {CX : CXT} {x : Str} {C fI : Addr} {k : Nat} {fd : FuncData} {ps : List Str} {sp : Sp} (T : OexC X.K C) (iC : PySem.W.findIn X.K (.ref C) "__init__" = some (some (.ref fI))) (tI : PySem.W.typeIn X.K (.ref fI) = some (.type "function"))
    (F1 : FnOk X.prog X.w X.K X.mg X.base CX k fI fd ps sp) (hr : Room (k + 1) X.A) (hb : Binds X.K fd ps []) (hx : Passes CX X (fun _ _ _ => False)) (hg : Gl X x) (hm : X.mg x = some (.ref C)) (ha : PA X (e :: es) ta)
    (hdb : (x == ("__debug__" : Str)) = false := by decide) (he : starEach (e :: es) X.env = (false, eval e X.env) :: starEach es X.env := by rfl) (hpl : (backTo pos (starEach es X.env)).any (·.1) = false := by rfl) :
    PMk X (.Call (.Name x p) (e :: es) [] pos) (tMkO C sp [] ta) := by
  intro pins s σ H Q I h
  obtain ⟨c1, c2, c3, c4, c5, c6, c7, c8, c9, d0, d1, d2, d3, d4, d5, hC, hbm⟩ := T.cls
  refine wpAny_Call_Name_kw (ld_glob I hg hm ?_ hdb)
  refine PySem.W.callWith_K (h₀ := X.base) I.ok.mod.kin T.kC (thn (ha.run pos pins s σ H _ I h) fun us s1 ⟨vs, H1, I1, r1, hz, q1⟩ => ⟨I1.kIn, ?_⟩) he hpl
  show wpAny _ _ (call (.ref C) us) _ _ _
  obtain ⟨h1, g1, w1, k1, o1⟩ := s1
  have up1 : h1.objs.size ≤ h1.objs.size + 1 := Nat.le_succ _
  have fr : H1 (h1.objs.size + 1) = none := I1.hok.fresh up1
  have pr := q1 (h1.objs.size + 1) fr
  rw [List.append_nil] at pr
  have kp : ∀ b o, h1.get? b = some o → ((h1.push (PySem.W.kdv_tup us)).push (PySem.HandSPX.excO C h1.objs.size)).get? b = some o := fun b o z => Heap.get?_push_of_some _ (Heap.get?_push_of_some _ z)
  have ob : ((h1.push (PySem.W.kdv_tup us)).push (PySem.HandSPX.excO C h1.objs.size)).get? (h1.objs.size + 1) = some (PySem.HandSPX.excO C h1.objs.size) := by heap_get
  have J : Inv X pins σ (upd H1 (h1.objs.size + 1) (exo (h1.objs.size + 1) C none)) ⟨(h1.push (PySem.W.kdv_tup us)).push (PySem.HandSPX.excO C h1.objs.size), g1, w1, k1, o1⟩ :=
    I1.laid (t' := k1) (a := h1.objs.size + 1) (o := exo (h1.objs.size + 1) C none) (h' := (h1.push (PySem.W.kdv_tup us)).push (PySem.HandSPX.excO C h1.objs.size)) kp up1 (exo_ok ob)
  have rl : Vals (V.ref (h1.objs.size + 1) :: vs) (Value.ref (h1.objs.size + 1) :: us) := .cons rfl r1
  have ln : (Value.ref (h1.objs.size + 1) :: us).length = ps.length := by
    have z := rl.length
    rw [F1.len _ _ _ _ pr] at z
    exact z.symm
  have few : us.length ≤ sizeLine := by
    rw [← Paired.length r1, sizeLine_eq]
    omega
  have bd := hb ⟨(h1.push (PySem.W.kdv_tup us)).push (PySem.HandSPX.excO C h1.objs.size), g1, w1, k1, o1⟩ (Value.ref (h1.objs.size + 1) :: us) J.kIn (by rw [List.append_nil]; exact ln)
  rw [List.append_nil] at bd
  refine wpAny_call (PySem.HandSPX.call_own F.excBase_ValueError (fun Y => PySem.HandSPX.refsVE_contains Y c5 hbm) (I1.kIn _ _ hC) (PySem.W.looks_findIn I1.kIn iC) (fun self => PySem.W.bind_fn I1.kIn self tI) few
    (codeAny_mono (F1.run _ X.stack _ _ ⟨Value.ref (h1.objs.size + 1) :: us, []⟩ (Value.ref (h1.objs.size + 1) :: us) _ _ (fun _ _ _ => False) (hr.make C us []) (J.env0.make C us []) bd rl pr) fun r s' hq => ?_))
  cases r with
  | error er => exact hx pins σ _ _ er s' J hq
  | ok fl =>
    cases fl with
    | ret u =>
      obtain ⟨v, H2, os2, bare2, un2, hok2, rv, ev, d, fs, ea, ed, hd1, q2⟩ := hq
      subst ev
      obtain ⟨h2, g2, w2, k2, o2⟩ := s'
      obtain ⟨t0, G, JG, kG, ge, hoe, na⟩ := mk_end0 (d2 := w2) (t2 := k2) I1 up1 kp un2 hok2 os2 bare2 ea ed hd1
      exact ⟨rv, h1.objs.size + 1, _, _, ⟨G, g2, w2, k2, o2⟩, _, .ref C, some d, rfl, JG, kG, ge, hoe, ⟨rfl, rfl, fun vs hv => by cases hv; rfl⟩, rfl, rfl, na, rfl, bare2, raises_own T.exC T.tyC, q2⟩
    | next => exact False.elim hq
    | brk => exact False.elim hq
    | cont => exact False.elim hq
variable {C : Addr} {bmB : List Value} {B newId initId : String} {x : Str}
/-- raise X(), no own __init__ -/
theorem pmk_own0N (F : ExcBaseFacts B newId initId bmB) (q : PySem.W.excIn X.K C bmB newId = true) (gC : X.mg x = some (.ref C)) (kC : PySem.W.keepIn X.K (.ref C) = true) (r : Raises X (.ref C)) (hg : Gl X x)
    (hdb : (x == ("__debug__" : Str)) = false := by decide) : PMk X (.Call (.Name x p) [] [] pos) (fun _ H Q => Q (.ref C) none H) := by
  intro pins s σ H Q I h
  refine wpAny_Call_Name_kw (ld_glob I hg gC ?_ hdb)
  refine PySem.W.callWith_K0 I.kIn kC ?_
  obtain ⟨bm, N, nm, qn, bs, hdct, sn, sub, ab, col, dd, k0, k1, k2, k3, k5, mN, hC, hN, hni, T⟩ := exc_obj I.kIn q
  refine wpAny_call_exc_subT F T hC hN hni (fun h' e hm => ?_) (Nat.zero_le _)
  exact mk_of I hm r h (I.hok.gone hm.new)
end
end L2N
namespace L2
open PySem PySem.Spec PyProof.Rows
section
variable {P : Program} {w : World} {K : PySem.W.Frag} {mg : Str → Option Value} {base : Heap}
/-- a def that may raise, what it raises has no context -/
theorem Fun.okN {x qual : Str} {st : Stmt} {f : Addr} {fd : FuncData} {N ps : List Str} {k : Nat} {sp : Sp} (F : Fun K x qual st f fd) (S : FnScope N ps (defScope st)) (len : ∀ vs H Q E, sp vs H Q E → vs.length = ps.length)
    (hbody : ∀ (cdv : Value) (A : Around) (outer : List Env) (s : Shared) (H : Hp) (vs : List V) (Q : VK) (E : XK), Room k (A.deeper (envOfC qual (defScope st) s.heap.objs.size f cdv)) → sp vs H Q E →
      ∃ t, PSs (cxOf (L2N.CX P w) P w K mg base N qual (defScope st) f cdv A outer s H E) (defBody st) t ∧ t { nx := fun _ H' => Q .non H', rt := Q } (start N vs) H) : FnOk P w K mg base (L2N.CX P w) (k + 1) f fd ps sp := by
  obtain ⟨oc, od, kV, doc, pm, an, cdv, ct, osl, rfl, lk, hcd⟩ := F.ex
  exact fn_of lk hcd S len fun A outer s H vs Q E hr hsp => hbody cdv A outer s H vs Q E hr hsp
/-- a def called where an exception is handled, lets none out -/
theorem Fun.okH {x qual : Str} {st : Stmt} {f : Addr} {fd : FuncData} {N ps : List Str} {k : Nat} {sp : Sp} (F : Fun K x qual st f fd) (S : FnScope N ps (defScope st)) (len : ∀ vs H Q E, sp vs H Q E → vs.length = ps.length)
    (hbody : ∀ (cdv : Value) (A : Around) (outer : List Env) (s : Shared) (H : Hp) (vs : List V) (Q : VK) (E : XK) (p : Addr × Obj), L2H.Hot1 A p → L2H.RoomH k (A.deeper (envOfC qual (defScope st) s.heap.objs.size f cdv)) → sp vs H Q E →
      ∃ t, PSs (L2H.cxH CX0 P w K mg base N qual (defScope st) f cdv A outer s H E p).nox (defBody st) t ∧ t { nx := fun _ H' => Q .non H', rt := Q } (start N vs) H) : L2H.FnH P w K mg base CX0 (k + 1) f fd ps sp := by
  obtain ⟨oc, od, kV, doc, pm, an, cdv, ct, osl, rfl, lk, hcd⟩ := F.ex
  refine L2H.fn_ofH lk hcd S len fun A outer s H vs Q E p hot hr hsp => ?_
  obtain ⟨t, h, q⟩ := hbody cdv A outer s H vs Q E p hot hr hsp
  exact ⟨t, h.nox, q⟩
end
/-- within a suite: the exception that is handled has no context -/
theorem hot_suite {X : Cx} {a : Addr} {oe : Obj} {cls : Value} {d : Option Addr} {pn : List (Addr × Obj)} (hz : L2N.Zn cls d oe) (hf : ∃ vs, oe.data = .fields vs) : L2H.HotC (X.suite a ((a, oe) :: pn)) := by
  obtain ⟨vs, hv⟩ := hf
  exact ⟨(a, oe), ⟨rfl, vs, hv, hz.2.2 vs hv⟩, List.mem_cons_self⟩
end L2
namespace L2
open PySem PySem.Spec PyProof.Rows
/-- nothing is let out -/
theorem passH0 {X : Cx} (E : St → XK) : ∀ σ, PassesAt CX0 X σ (E σ) := fun _ _ _ _ _ _ _ z => False.elim z
theorem call_isiQ {X : Cx} {K : PySem.W.Frag} (h : X.K = K) : CallR X (.builtin "isinstance") (rIsi K) := by
  subst h
  exact call_isi
theorem call_lenK {X : Cx} {K : PySem.W.Frag} (h : X.K = K) : CallR X (.builtin "len") (fun xs H Q => ∃ p ys, xs = [.ref p] ∧ (SqL K H p ys ∨ SqT K H p ys) ∧ Q (.int ys.length) H) := by
  subst h
  exact call_len_seq
end L2

/-! min, max, len(set(..)) of a tuple of ints -/
namespace MmT
open PySem PyProof.Rows
theorem keep_old {s : Shared} {o : Obj} {h' : Heap} (hk : ∀ b u, b ∉ [s.heap.objs.size] → (s.heap.push o).get? b = some u → h'.get? b = some u) : ∀ b u, s.heap.get? b = some u → h'.get? b = some u := fun b u e => by
  refine hk b u (fun hm => ?_) (Heap.get?_push_of_some _ e)
  have := Heap.lt_size e
  rw [List.mem_singleton.mp hm] at this
  exact Nat.lt_irrefl _ this
theorem ints_arr {its : List Value} {ns : List Int} (hi : IntsAre its ns) : ∃ xs : Array (Int × Tok), its.toArray = intItems xs ∧ (xs.toList.map (·.1)) = ns := by
  obtain ⟨xs, e⟩ := hi.allInts.items
  have hn : numsOf (intItems xs).toList = ns := by
    rw [← e]
    exact hi.numsOf
  rw [nums_intItems] at hn
  exact ⟨xs, e, hn⟩
section
variable {prog : Program} {w : World} {A : Around} {E : Value → Shared → Prop} {s : Shared}
theorem min_tup {t : Addr} {its : List Value} {ns : List Int} {Q : Value → Shared → Prop} (calm : A.handled = none) (there : s.heap.IsTuple t its.toArray) (hi : IntsAre its ns) (some_ : 0 < ns.length)
    (next : ∀ (h' : Heap) (tk : Nat) (m : Int) (u : Tok), (∀ b o, s.heap.get? b = some o → h'.get? b = some o) → m ∈ ns → (∀ y ∈ ns, m ≤ y) → Q (.int m u) { s with heap := h', toks := tk }) :
    wpAny (model prog w) A (call (.builtin "min") [.ref t]) Q E s := by
  obtain ⟨xs, e1, e2⟩ := ints_arr hi
  subst e2
  rw [e1] at there
  have pos : 0 < xs.size := by simpa using some_
  have tb : t < s.heap.objs.size := by
    obtain ⟨o, ho, _⟩ := there
    exact Heap.lt_size ho
  refine call_min_walk (wpAny_pyIter_tuple there ?_)
  refine ⟨_, [_, t], [_], _, _, _, _, rfl, Walks.tuple (A := A.in1) calm _ t (Nat.ne_of_lt tb) (intItems xs), ⟨⟨_, Heap.get?_push_size _ rfl, rfl, rfl⟩, there.push _⟩, fun c hc => ?_, by simpa [intItems] using pos, CmpOf.ints_lt (numAt xs) (fun _ _ => intItems_at), fun v h' tk hP hk => ?_⟩
  · show c < (s.heap.push _).objs.size
    rw [Heap.size_push]
    rcases List.mem_cons.mp hc with rfl | hc
    · exact Nat.lt_succ_self _
    · rw [List.mem_singleton.mp hc]
      exact Nat.lt_succ_of_lt tb
  · have hP' : (intItems xs)[argBest (fun i j => decide (numAt xs i < numAt xs j)) (xs.size - 1)]? = some v := by simpa [intItems] using hP
    obtain ⟨u, rfl⟩ := intItems_at hP'
    obtain ⟨b1, b2⟩ := argBest_lt (numAt xs) (xs.size - 1)
    refine next h' tk _ u (keep_old hk) ?_ fun y hy => ?_
    · rw [numAt_eq]
      exact PySem.getD_mem (by rw [List.length_map, Array.length_toList]; omega)
    · obtain ⟨j, hj, rfl⟩ := mem_getD hy
      rw [List.length_map, Array.length_toList] at hj
      rw [← numAt_eq]
      exact b2 j (by omega)
theorem max_tup {t : Addr} {its : List Value} {ns : List Int} {Q : Value → Shared → Prop} (calm : A.handled = none) (there : s.heap.IsTuple t its.toArray) (hi : IntsAre its ns) (some_ : 0 < ns.length)
    (next : ∀ (h' : Heap) (tk : Nat) (m : Int) (u : Tok), (∀ b o, s.heap.get? b = some o → h'.get? b = some o) → m ∈ ns → (∀ y ∈ ns, y ≤ m) → Q (.int m u) { s with heap := h', toks := tk }) :
    wpAny (model prog w) A (call (.builtin "max") [.ref t]) Q E s := by
  obtain ⟨xs, e1, e2⟩ := ints_arr hi
  subst e2
  rw [e1] at there
  have pos : 0 < xs.size := by simpa using some_
  have tb : t < s.heap.objs.size := by
    obtain ⟨o, ho, _⟩ := there
    exact Heap.lt_size ho
  refine call_max_walk (wpAny_pyIter_tuple there ?_)
  refine ⟨_, [_, t], [_], _, _, _, _, rfl, Walks.tuple (A := A.in1) calm _ t (Nat.ne_of_lt tb) (intItems xs), ⟨⟨_, Heap.get?_push_size _ rfl, rfl, rfl⟩, there.push _⟩, fun c hc => ?_, by simpa [intItems] using pos, CmpOf.ints_gt (numAt xs) (fun _ _ => intItems_at), fun v h' tk hP hk => ?_⟩
  · show c < (s.heap.push _).objs.size
    rw [Heap.size_push]
    rcases List.mem_cons.mp hc with rfl | hc
    · exact Nat.lt_succ_self _
    · rw [List.mem_singleton.mp hc]
      exact Nat.lt_succ_of_lt tb
  · have hP' : (intItems xs)[argBest (fun i j => decide (numAt xs i > numAt xs j)) (xs.size - 1)]? = some v := by simpa [intItems] using hP
    obtain ⟨u, rfl⟩ := intItems_at hP'
    obtain ⟨b1, b2⟩ := argBest_gt (numAt xs) (xs.size - 1)
    refine next h' tk _ u (keep_old hk) ?_ fun y hy => ?_
    · rw [numAt_eq]
      exact PySem.getD_mem (by rw [List.length_map, Array.length_toList]; omega)
    · obtain ⟨j, hj, rfl⟩ := mem_getD hy
      rw [List.length_map, Array.length_toList] at hj
      rw [← numAt_eq]
      exact b2 j (by omega)
end
/-- a list without doubles has as many members as another of the same members exactly if that one has no doubles -/
theorem sub_perm : ∀ {L ns : List Int}, L.Nodup → (∀ x ∈ L, x ∈ ns) → L.length = ns.length → L.Perm ns
  | [], ns, _, _, h => by
    rw [List.length_eq_zero_iff.mp h.symm]
  | x :: L, ns, nd, sub, h => by
    have hx := sub x (List.mem_cons_self ..)
    have nd' := List.nodup_cons.mp nd
    have ih := sub_perm (L := L) (ns := ns.erase x) nd'.2 (fun y hy => (List.mem_erase_of_ne (fun z => nd'.1 (by rw [← z]; exact hy))).mpr (sub y (List.mem_cons_of_mem _ hy))) (by
      rw [List.length_erase_of_mem hx]
      simp at h
      omega)
    exact (List.Perm.cons x ih).trans (List.perm_cons_erase hx).symm
theorem sub_len : ∀ {L ns : List Int}, L.Nodup → (∀ x ∈ L, x ∈ ns) → L.length ≤ ns.length
  | [], _, _, _ => Nat.zero_le _
  | x :: L, ns, nd, sub => by
    have hx := sub x (List.mem_cons_self ..)
    have nd' := List.nodup_cons.mp nd
    have ih := sub_len (L := L) (ns := ns.erase x) nd'.2 fun y hy => (List.mem_erase_of_ne (fun z => nd'.1 (by rw [← z]; exact hy))).mpr (sub y (List.mem_cons_of_mem _ hy))
    have := List.length_erase_of_mem hx
    have hp : 0 < ns.length := List.length_pos_of_mem hx
    show L.length + 1 ≤ ns.length
    omega
theorem count_nd {L ns : List Int} (nd : L.Nodup) (m : ∀ x, x ∈ L ↔ x ∈ ns) : L.length = ns.length ↔ ns.Nodup :=
  ⟨fun h => (sub_perm nd (fun x hx => (m x).mp hx) h).nodup_iff.mp nd, fun h => Nat.le_antisymm (sub_len nd fun x hx => (m x).mp hx) (sub_len h fun x hx => (m x).mpr hx)⟩
end MmT
namespace L2
open PySem PySem.Spec PyProof.Rows
section
variable {X : Cx}
def rMinT (K : PySem.W.Frag) : List V → Hp → VK → Prop := fun vs H Q => ∃ (a : Addr) (ns : List Int), vs = [V.ref a] ∧ SqT K H a (ns.map V.int) ∧ 0 < ns.length ∧ ∀ m, m ∈ ns → (∀ y ∈ ns, m ≤ y) → Q (.int m) H
def rMaxT (K : PySem.W.Frag) : List V → Hp → VK → Prop := fun vs H Q => ∃ (a : Addr) (ns : List Int), vs = [V.ref a] ∧ SqT K H a (ns.map V.int) ∧ 0 < ns.length ∧ ∀ m, m ∈ ns → (∀ y ∈ ns, y ≤ m) → Q (.int m) H
theorem tup_is {h : Heap} {t : Addr} {its : List Value} (p : ∃ o : Obj, h.get? t = some o ∧ o.cls = .type "tuple" ∧ ∃ k, o.data = .seq its.toArray k) : h.IsTuple t its.toArray := by
  obtain ⟨o, h1, h2, k, h3⟩ := p
  exact ⟨o, h1, h2, k, h3⟩
theorem cr_minT (calm : X.calm = true) : CallR X (.builtin "min") (rMinT X.K) := by
  intro pins s σ H vs us Q I r h
  obtain ⟨a, ns, rfl, hs, pos, q⟩ := h
  obtain ⟨its, rv, ⟨o, ho, hc, k, hd⟩, hz⟩ := I.tuple hs
  rw [Vals.ref1 r]
  exact MmT.min_tup (I.ok.hd calm) ⟨o, ho, hc, k, hd⟩ rv.ints pos fun h' tk m u keep hm hl => ⟨.int m, H, I.kept keep, ⟨u, rfl⟩, q m hm hl⟩
theorem cr_maxT (calm : X.calm = true) : CallR X (.builtin "max") (rMaxT X.K) := by
  intro pins s σ H vs us Q I r h
  obtain ⟨a, ns, rfl, hs, pos, q⟩ := h
  obtain ⟨its, rv, ⟨o, ho, hc, k, hd⟩, hz⟩ := I.tuple hs
  rw [Vals.ref1 r]
  exact MmT.max_tup (I.ok.hd calm) ⟨o, ho, hc, k, hd⟩ rv.ints pos fun h' tk m u keep hm hl => ⟨.int m, H, I.kept keep, ⟨u, rfl⟩, q m hm hl⟩
/-- len(set(t)), t a tuple of ints: how many there are tells whether there are doubles -/
def tLenSetT (K : PySem.W.Frag) (ta : TE) : TE := fun σ H Q => ta σ H fun x H1 => ∃ (l : Addr) (ns : List Int), x = .ref l ∧ SqT K H1 l (ns.map V.int) ∧ ns.length ≤ 1000 ∧ ∀ c : Nat, c ≤ ns.length → (c = ns.length ↔ ns.Nodup) → Q (.int (c : Int)) H1
theorem pe_lenSetT {a : Expr} {ta : TE} {p p2 q pos : Pos} (calm : X.calm = true) (g1 : Gl X "len") (m1 : X.mg "len" = none) (g2 : Gl X "set") (m2 : X.mg "set" = none) (ha : PE X a ta)
    (na : starEach [a] X.env = (false, eval a X.env) :: starEach [] X.env := by rfl) : PE X (.Call (.Name "len" p) [.Call (.Name "set" p2) [a] [] q] [] pos) (tLenSetT X.K ta) := by
  refine ⟨fun pins s σ H Q I hw => ?_⟩
  refine Call_ (ld_blt I g1 m1 PySem.boot_len ?_)
  refine PyProof.Rows.callWith_builtin1 (PyProof.Rows.args_cons ?_ rfl) rfl rfl
  refine Call_ (ld_blt I g2 m2 PyProof.Rows.boot_set ?_)
  refine PyProof.Rows.callWith_type1 (PyProof.Rows.args_cons (thn (ha.run pins s σ H _ I hw) fun v s1 ⟨x, H1, I1, r1, z1⟩ => PyProof.Rows.args_nil ?_) na) na rfl
  obtain ⟨l, ns, rfl, hq, few, z1⟩ := z1
  cases r1
  obtain ⟨its, rv, ⟨o, ho, hc, k, hd⟩, hz⟩ := I1.tuple hq
  refine call_set_tupI ns (I1.ok.hd calm) ⟨o, ho, hc, k, hd⟩ (by simpa using rv.ints) (by unfold scanBound; omega) fun h' tk c hS hc' keep => ?_
  refine PyProof.Rows.args_nil ?_
  obtain ⟨o2, es, ep, t2, h1, h2, h3, _, h5, h6, _, h8, h9, _⟩ := hS
  have I2 : Inv X pins σ H1 { s1 with heap := h', toks := tk } := I1.kept keep
  have m : ∀ x, x ∈ es.toList.map keyOf ↔ x ∈ ns := fun x => by
    rw [← h6 x]
    exact decide_eq_true_iff
  have cnt := MmT.count_nd h5 m
  rw [List.length_map, Array.length_toList, h9] at cnt
  exact call_len_set h1 h2 h3 h8 (by omega) ⟨.int (c : Int), H1, I2.tok _, ⟨_, by rw [h9]⟩, z1 c hc' cnt⟩
end
end L2

/-! enumerate of a tuple; calls in a try's body; isinstance of an exception without a dict -/
namespace EnT
open PySem
/-- the iterator of the tuple t, and the enumerate object over the iterator at i, both as they are made -/
def itO (t : Addr) : Obj := { cls := .type "tuple_iterator", data := .fields #[.ref t, .int 0 0] }
def enO (i : Addr) : Obj := { cls := .type "enumerate", data := .fields #[.none, .bool false, .ref i, rawInt 0, .none, .none] }
def made (g : Heap) (t : Addr) : Heap := (g.push (itO t)).push (enO g.objs.size)
theorem made_top (g : Heap) (t : Addr) : (g.push (itO t)).objs.size = g.objs.size + 1 := Heap.size_push ..
theorem made_en (g : Heap) (t : Addr) : (made g t).get? (g.objs.size + 1) = some (enO g.objs.size) :=
  made_top g t ▸ Heap.get?_push_size (g.push (itO t)) (o := enO g.objs.size) rfl
theorem made_it (g : Heap) (t : Addr) : (made g t).get? g.objs.size = some (itO t) := Heap.get?_push_of_some _ (Heap.get?_push_size _ rfl)
theorem made_old (g : Heap) (t b : Addr) (o : Obj) (h : g.get? b = some o) : (made g t).get? b = some o :=
  Heap.get?_push_of_some _ (Heap.get?_push_of_some _ h)
/-- what enumerate's __new__ does with a tuple -/
theorem new_does (t : Addr) (vs : Array Value) : Meets (Builtin.«enumerate.__new__» ⟨[.type "enumerate", .ref t], []⟩)
    (fun _ R s => s.heap.IsTuple t vs ∧ R (.ok (.ret (.ref (s.heap.objs.size + 1)))) { s with heap := made s.heap t }) :=
  Meets.of_wp fun P w A R s there => by
    cases s with
    | mk g gl dw tc ow =>
      obtain ⟨isT, goal⟩ := there
      rw [← made_top g t] at goal
      have sub1 := sub_enumerate
      have mk_it : ∀ {A1 : Around} {E1 Q1 : Value → Shared → Prop}, Q1 (.ref g.objs.size) ⟨g.push (itO t), gl, dw, tc, ow⟩ → wpAny (model P w) A1 (pyIter (.ref t)) Q1 E1 ⟨g, gl, dw, tc, ow⟩ :=
        fun q => wpAny_pyIter_tuple isT q
      wp_walk using mk_it
      refine wpAny_stack_any fun _ => wpAny_pure ?_
      split
      · next cls _ _ _ _ _ =>
        by_cases same : (cls == Value.type "enumerate") = true
        · rw [same]
          wp_walk using mk_it
          exact ⟨_, rfl, goal⟩
        · rw [Bool.eq_false_iff.mpr same]
          wp_walk using mk_it
          exact ⟨_, rfl, goal⟩
      · wp_walk using mk_it
        exact ⟨_, rfl, goal⟩
end EnT
namespace EnT
open PySem PySem.Spec PyProof.Rows L2
theorem call_does {P : Program} {w : World} {A : Around} {E Q : Value → Shared → Prop} {s : Shared} {t : Addr} {vs : Array Value} (isT : s.heap.IsTuple t vs) (goal : Q (.ref (s.heap.objs.size + 1)) { s with heap := made s.heap t }) :
    wpAny (model P w) A (call (.type "enumerate") [.ref t]) Q E s := by
  have top : Shared.TypeIs { s with heap := made s.heap t } (.ref (s.heap.objs.size + 1)) "enumerate" := ⟨_, made_en s.heap t, rfl⟩
  have done : (fun (_ : Around) (R : Result → Shared → Prop) (z : Shared) => z.heap.IsTuple t vs ∧ R (.ok (.ret (.ref (z.heap.objs.size + 1)))) { z with heap := made z.heap t }) A.in1
      (wants (fun obj z => z.TypeIs obj "enumerate" ∧ Q obj z) E) s := ⟨isT, top, goal⟩
  exact callType_new F.called_enumerate (by decide) (F.typeCall_enumerate_1 _) (F.newCall_enumerate_1 _) (fun o => F.args_object_init_2 o _)
    F.entry_enumerate_new (new_does t vs) done
theorem tup_ne {h : Heap} {i t : Addr} {n : Nat} {vs : Array Value} (a : h.IsTupleIter i t n) (b : h.IsTuple t vs) : t ≠ i := by
  intro same
  subst same
  obtain ⟨u, hu, cu, _⟩ := a
  obtain ⟨v, hv, cv, _⟩ := b
  cases hu.symm.trans hv
  exact absurd (Value.type.inj (cu.symm.trans cv)) (by decide)
theorem en_ne {h : Heap} {e i t : Addr} {c : Int} {old : Value} {vs : Array Value} (a : IsEnum h e i c old) (b : h.IsTuple t vs) : e ≠ t := by
  intro same
  subst same
  obtain ⟨v, hv, cv, _⟩ := b
  cases (show h.get? e = _ from a).symm.trans hv
  exact absurd (Value.type.inj cv) (by decide)
/-- what the enumerate object at e walks with: its tuple at t, the iterator at i -/
def Stands (e i t : Addr) (n : Nat) (h : Heap) : Prop := (∃ old, IsEnum h e i ((n : Nat) : Int) old) ∧ h.IsTupleIter i t n ∧ e ≠ i
/-- the tuple at t, each item behind its number in a new pair -/
def ItN (K : PySem.W.Frag) (t : Addr) : It where
  go := fun n H => ∃ xs x, SqT K H t xs ∧ xs[n]? = some x
  yld := fun n H v H2 => ∃ p x, v = .ref p ∧ H p = none ∧ H2 = upd H p (.tup [.int (n : Nat), x]) ∧ ∀ xs, SqT K H t xs → xs[n]? = some x
  stop := fun n H => ∃ xs : List V, SqT K H t xs ∧ xs.length = n
theorem turns {P : Program} {w : World} {K : PySem.W.Frag} {es : List Expr} {kk : Nat} {ps : Pos} (e i t : Addr) : Turn P w K (.Tuple es kk ps) (ItN K t) [e, i] e (Stands e i t) := by
  constructor
  · exact List.mem_cons_self
  · rintro n h ⟨⟨old, a⟩, ⟨u, hu, cu, du⟩, ne⟩ b hb
    rcases List.mem_cons.mp hb with rfl | hb
    · exact ⟨_, a, fun v q => by cases q⟩
    · rw [List.mem_singleton.mp hb]
      exact ⟨u, hu, fun v q => by rw [du] at q; cases q⟩
  · rintro n h h2 ⟨⟨old, a⟩, b, ne⟩ kp
    exact ⟨⟨old, kp e List.mem_cons_self _ a⟩, b.at fun o q => kp i (List.mem_cons_of_mem _ List.mem_cons_self) o q, ne⟩
  · rintro X rfl rfl rfl calm n pins s σ H E I apart ⟨⟨old, a⟩, b, ne⟩ ⟨xs, x, tx, hx⟩
    obtain ⟨vs, rel, isT, _⟩ := I.tuple tx
    have isT := tup_is isT
    obtain ⟨v, hv, rv⟩ := rel.get hx
    have hv2 : vs.toArray[n]? = some v := by rw [List.getElem?_toArray]; exact hv
    have lt := (Array.getElem?_eq_some_iff.mp hv2).1
    have away : e ∉ [i, t] := fun z => by
      rcases List.mem_cons.mp z with z | z
      · exact ne z
      · exact en_ne a isT (List.mem_singleton.mp z)
    have drawn := Draws.tuple (prog := X.prog) (w := X.w) (A := X.A.in1) (I.ok.hd calm) i t (tup_ne b isT) vs.toArray
    have W := WalksT.enumerateD drawn e ne away List.mem_cons_self
    refine W.item n s _ E lt ⟨⟨old, a⟩, b, isT⟩ ?_
    rintro p ws h1 tk ⟨tok, v2, g, rfl⟩ up there mid kp1
    cases hv2.symm.trans g
    refine ⟨_, rfl, W.go es kk ps n p { s with heap := h1, toks := tk } _ E mid ?_⟩
    rintro h2 ⟨⟨old2, a2⟩, b2, _⟩ kp2
    obtain ⟨op, hop, cp, c1, dp⟩ := there
    have free : H p = none := I.hok.fresh up
    have made : ObjOk X.prog X.w (upd H p (.tup [.int (n : Nat), x])) h2 p (.tup [.int (n : Nat), x]) := by
      refine ⟨?_, [.int n tok, v], .cons ⟨tok, rfl⟩ (.cons rv .nil), op, kp2 p op (W.apart n p h1 mid) hop, cp, c1, dp⟩
      show 2 ≤ sizeLine
      decide
    have I2 := I.turnedNew (t' := tk) (fun c o nc q => kp2 c o nc (kp1 c o nc q)) apart up made
    refine ⟨.ref p, _, I2, rfl, ⟨p, x, rfl, free, rfl, fun ys ty => by rw [I.tuple_inj ty tx]; exact hx⟩, ⟨⟨old2, a2⟩, b2, ne⟩, fun c hc => ?_⟩
    rw [upd_ne fun z => by
      obtain ⟨o, ho, _⟩ : ∃ o, s.heap.get? c = some o ∧ True := by
        rcases List.mem_cons.mp hc with rfl | hc
        · exact ⟨_, a, trivial⟩
        · rw [List.mem_singleton.mp hc]
          obtain ⟨o, ho, _⟩ := b
          exact ⟨o, ho, trivial⟩
      have := Heap.lt_size ho
      rw [z] at this
      exact absurd up (Nat.not_le.mpr this)]
    exact (apart c hc).1
  · rintro X rfl rfl rfl calm n pins s σ H E I apart ⟨⟨old, a⟩, b, ne⟩ ⟨xs, tx, len⟩
    obtain ⟨vs, rel, isT, _⟩ := I.tuple tx
    have isT := tup_is isT
    have away : e ∉ [i, t] := fun z => by
      rcases List.mem_cons.mp z with z | z
      · exact ne z
      · exact en_ne a isT (List.mem_singleton.mp z)
    have drawn := Draws.tuple (prog := X.prog) (w := X.w) (A := X.A.in1) (I.ok.hd calm) i t (tup_ne b isT) vs.toArray
    have W := WalksT.enumerateD drawn e ne away List.mem_cons_self
    have eq : n = vs.toArray.size := by rw [← len, rel.length, List.size_toArray]
    subst eq
    exact W.done s _ E ⟨⟨old, a⟩, b, isT⟩ fun h2 tk kp => ⟨rfl, I.turnedL kp apart⟩
  · rintro A n s Q E ⟨⟨old, a⟩, _⟩ goal
    exact wpAny_pyIter_enum a goal
def iNum (K : PySem.W.Frag) (ta : TA) : TI := fun σ H R => ta σ H fun vs H1 => ∃ t xs, vs = [.ref t] ∧ SqT K H1 t xs ∧ R (ItN K t) H1
theorem pi_enumT {X : Cx} {e : Expr} {ta : TA} {p pos tpos : Pos} {es : List Expr} {kk : Nat} (g : Gl X "enumerate") (free : X.mg "enumerate" = none) (arg : PA X [e] ta) (one : starEach [e] X.env = [(false, eval e X.env)] := by rfl) :
    PI X (.Tuple es kk tpos) (.Call (.Name "enumerate" p) [e] [] pos) (iNum X.K ta) := by
  constructor
  intro pins s σ H R I had
  refine Call_ (ld_blt I g free boot_enumerate ?_)
  refine PyProof.Rows.callWith_type1 ?_ one rfl
  refine thn (arg.run pos pins s σ H _ I had) ?_
  rintro us s1 ⟨vs, H1, I1, rel, t, xs, rfl, tx, goal⟩
  obtain ⟨u, rfl, ru⟩ := vals1 rel
  cases (show u = Value.ref t from ru)
  obtain ⟨ws, _, isT, _⟩ := I1.tuple tx
  refine call_does (tup_is isT) (wpAny_pyIter_enum (made_en s1.heap t) ?_)
  have I2 : Inv X pins σ H1 { s1 with heap := made s1.heap t } := I1.kept (t' := s1.toks) fun b o q => made_old s1.heap t b o q
  refine ⟨_, _, _, _, H1, rfl, I2, turns (s1.heap.objs.size + 1) s1.heap.objs.size t, ⟨⟨.none, made_en s1.heap t⟩, ⟨_, made_it s1.heap t, rfl, rfl⟩, Nat.succ_ne_self _⟩, fun b hb => ?_, goal⟩
  have up : s1.heap.objs.size ≤ b := by
    rcases List.mem_cons.mp hb with rfl | hb
    · exact Nat.le_succ _
    · rw [List.mem_singleton.mp hb]
      exact Nat.le_refl _
  exact I1.fpOk up (I1.hok.fresh up)
theorem walk_enumT {K : PySem.W.Frag} {t : Addr} {xs : List V} : Walk (ItN K t) xs.length (fun H => SqT K H t xs) (YPair (fun n => some (.int (n : Nat))) (fun n => xs[n]?)) where
  goes := fun n _ lt q => ⟨xs, xs[n], q, List.getElem?_eq_getElem lt⟩
  stops := fun _ q => ⟨xs, q, rfl⟩
  yields := fun n _ _ _ _ q y => by
    obtain ⟨p, x, a, b, c, d⟩ := y
    exact ⟨p, .int (n : Nat), x, a, b, c, rfl, d xs q⟩
end EnT
namespace L2
open PySem PySem.Spec PyProof.Rows
/-- isinstance(e, c), e the exception that the suite holds, with a dict or without -/
def rIsS2 (K : PySem.W.Frag) (a : Addr) (cls : Value) (d : Option Addr) : List V → Hp → VK → Prop := fun xs H Q => ∃ (C : Addr) (c : V) (u : Value) (b : Bool), xs = [.ref a, c] ∧ cls = .ref C ∧ (d = none ∨ ∃ dd fs, d = some dd ∧ H dd = some (.xd fs)) ∧
  ExcC K C ∧ ClsV c u ∧ PySem.W.kitOne K (.ref C) u = some b ∧ Q (.bl b) H
theorem call_isS2 {X : Cx} {K : PySem.W.Frag} {a : Addr} {cls : Value} {d : Option Addr} {oe : Obj} {pn : List (Addr × Obj)} (hK : X.K = K) (hz : Zc cls d oe) (hf : ∃ vs, oe.data = .fields vs) : CallR (X.suite a ((a, oe) :: pn)) (.builtin "isinstance") (rIsS2 K a cls d) := by
  rintro pins s σ H _ us Q I rel ⟨C, c, u, b, rfl, rfl, kind, D, isC, ans, goal⟩
  rcases kind with rfl | ⟨dd, fs, rfl, there⟩
  · have E : CallR (X.suite a ((a, oe) :: pn)) (.builtin "isinstance") (rIsE X.K C a) := call_isE (hK ▸ D) hz hf
    exact E pins s σ H _ us Q I rel ⟨c, u, b, rfl, fun v q => isC.eq q, hK ▸ ans, goal⟩
  · exact call_isS hK hz hf pins s σ H _ us Q I rel ⟨C, dd, fs, c, u, b, rfl, rfl, rfl, there, D, isC, ans, goal⟩
theorem call_tuple_ofK {X : Cx} {K : PySem.W.Frag} (h : X.K = K) : CallR X (.type "tuple") (fun xs H Q => ∃ p ys, xs = [.ref p] ∧ ((SqL K H p ys ∧ ∀ l, H l = none → Q (.ref l) (upd H l (.tup ys))) ∨ (SqT K H p ys ∧ Q (.ref p) H))) := by
  subst h
  exact call_tuple_of
theorem call_list_ofK {X : Cx} {K : PySem.W.Frag} (h : X.K = K) : CallR X (.type "list") (fun xs H Q => ∃ p ys, xs = [.ref p] ∧ (SqL K H p ys ∨ SqT K H p ys) ∧ ∀ l, H l = none → Q (.ref l) (upd H l (.lst ys))) := by
  subst h
  exact call_list_of
end L2
namespace RZ
open PySem PySem.Spec PyProof.Rows L2
theorem walk_zipT {K : PySem.W.Frag} {a b : Addr} {xs ys : List V} {n : Nat} (hn : n = min xs.length ys.length) : Walk (ItzT K a b) n (fun H => SqT K H a xs ∧ SqT K H b ys) (YPair (fun i => xs[i]?) (fun i => ys[i]?)) where
  goes := fun i _ lt q => ⟨xs, ys, xs[i]'(by omega), ys[i]'(by omega), q.1, q.2, List.getElem?_eq_getElem _, List.getElem?_eq_getElem _⟩
  stops := fun _ q => ⟨xs, ys, q.1, q.2, by omega⟩
  yields := fun i _ _ _ _ q y => by
    obtain ⟨p, x, z, a1, a2, a3, a4, a5⟩ := y
    exact ⟨p, x, z, a1, a2, a3, a4 xs q.1, a5 ys q.2⟩
end RZ

/-! defs with a star parameter and keyword-only ones behind it, called with keywords -/
namespace StK
open PySem PySem.Spec PyProof.Rows L2 StX
/-- a def called with values and with keywords named ks, told of the values alone -/
def FnK (P : Program) (w : World) (K : PySem.W.Frag) (mg : Str → Option Value) (base : Heap) (CX : CXT) (k : Nat) (f : Addr) (ks : List Str) (sp : List V → List V → Hp → VK → XK → Prop) : Prop :=
  ∀ (A : Around) (outer : List Env) (s : Shared) (H : Hp) (us ws : List Value) (vs zs : List V) (Q : VK) (E : XK),
    Room k A → Env0 P w K mg base A outer s H → Vals vs us → Vals zs ws → zs.length = ks.length → sp vs zs H Q E →
      codeAny (model P w) A (.call (.ref f) ⟨us, ks.zip ws⟩) (CR CX outer P w H s Q E) s
section
variable {CX : CXT} {P : Program} {w : World} {K : PySem.W.Frag} {mg : Str → Option Value} {base : Heap} {k n : Nat} {f : Addr} {name qual : Str} {params : Arguments} {body : List Stmt} {scope : Scope} {dV kV doc pm cdv ct oc : Value} {an od : Option Addr}
  {osl : Array (Option Value)} {N ps ks : List Str} {sp : Sp}
theorem FnK.mono {j : Nat} {q : List V → List V → Hp → VK → XK → Prop} (F : FnK P w K mg base CX j f ks q) (h : j ≤ k) : FnK P w K mg base CX k f ks q :=
  fun A outer s H us ws vs zs Q E room => F A outer s H us ws vs zs Q E (room.mono h)
/-- def f(a, .., *v, k): n values ahead, the rest in a new tuple, each keyword written -/
theorem fn_starK {pv : Str} (at_ : K.lookup f = some ⟨oc, od, .func (PySem.W.fnOf name qual params body scope dV kV doc pm an cdv ct), osl⟩) (code : PySem.W.codeIn K cdv qual = true) (S : FnScope N (ps ++ [pv]) scope) (up : CXUp CX) (hps : ps.length = n + ks.length)
    (bind : ∀ us rest ws : List Value, us.length = n → ws.length = ks.length → bindArgs (PySem.W.fnOf name qual params body scope dV kV doc pm an cdv ct) ⟨us ++ rest, ks.zip ws⟩ = (newTuple rest >>= fun t => pure (ps.zip (us ++ ws) ++ [(pv, t)])))
    (run : ∀ (A : Around) (outer : List Env) (s : Shared) (H : Hp) (vs : List V) (Q : VK) (E : XK), Room k (A.deeper (envOfC qual scope s.heap.objs.size f cdv)) → sp vs H Q E →
      ∃ t, PSs (cxOf CX P w K mg base N qual scope f cdv A outer s H E) body t ∧ t { nx := fun _ H' => Q .non H', rt := Q } (start N vs) H) :
    FnK P w K mg base CX (k + 1) f ks (fun vs zs H Q E => ∃ hd rest, vs = hd ++ rest ∧ hd.length = n ∧ rest.length ≤ sizeLine ∧ ∀ p, H p = none → sp ((hd ++ zs) ++ [V.ref p]) (upd H p (.tup rest)) Q E) := by
  rintro A outer s H us ws vs zs Q E room env rv rz lz ⟨hd, rest, rfl, lh, small, goes⟩
  obtain ⟨u1, u2, rfl, r1, r2⟩ := vals_split rv
  have free : H s.heap.objs.size = none := env.hok.fresh (Nat.le_refl _)
  have l1 : u1.length = n := r1.length.symm.trans lh
  have lw : ws.length = ks.length := rz.length.symm.trans lz
  have few : u2.length ≤ sizeLine := by
    rw [← r2.length]
    exact small
  let here : Obj := { cls := .type "tuple", data := .seq u2.toArray }
  refine run_bnd at_ code S room env (G := fun xs G => ∃ p, H p = none ∧ xs = (hd ++ zs) ++ [V.ref p] ∧ G = upd H p (.tup rest)) (fun A' Ex Q' told => ?_) ?_
  · rw [bind u1 u2 ws l1 lw]
    refine wpAny_bind (wpAny_newTuple (wpAny_pure ?_) few)
    have laid : ObjOk P w (upd H s.heap.objs.size (.tup rest)) (s.heap.push here) s.heap.objs.size (.tup rest) := ⟨small, u2, r2, _, Heap.get?_push_size _ rfl, rfl, _, rfl⟩
    have un : Un (frs outer) [] H (upd H s.heap.objs.size (.tup rest)) s.heap (s.heap.push here) := un_laid free
    have len : ((hd ++ zs) ++ [V.ref s.heap.objs.size]).length = (ps ++ [pv]).length := by
      rw [List.length_append, List.length_append, List.length_append, lh, lz, hps]
      rfl
    have got := told _ _ ((hd ++ zs) ++ [V.ref s.heap.objs.size]) ((u1 ++ ws) ++ [Value.ref s.heap.objs.size]) (env0_laid env laid) un rfl
      (fun e s' => up outer s H _ _ E e s' un (fun b o q => Heap.get?_push_of_some _ q) rfl) ((r1.append rz).append (.cons rfl .nil)) len ⟨_, free, rfl, rfl⟩
    have cut : ps.length = (u1 ++ ws).length := by rw [List.length_append, l1, lw, hps]
    rw [List.zip_append cut] at got
    exact got
  · rintro s2 _ _ ⟨p, hp, rfl, rfl⟩ room'
    exact run A outer s2 _ _ Q E room' (goes p hp)
end
section
variable {X : Cx} {CX : CXT} {k : Nat} {f : Addr} {ks : List Str} {q : List V → List V → Hp → VK → XK → Prop} {E : XK} {x : Str} {p pos : Pos} {e : Expr} {es : List Expr} {kws : List Keyword} {t tk : TA}
def tCallFK (q : List V → List V → Hp → VK → XK → Prop) (n : Nat) (E : XK) (t tk : TA) : TE := fun σ H Q => t σ H fun vs H1 => tk σ H1 fun zs H2 => zs.length = n ∧ q vs zs H2 Q E
/-- f(e, .., k = v) of such a def -/
theorem pe_callFK (F : FnK X.prog X.w X.K X.mg X.base CX k f ks q) (room : Room k X.A) (gl : Gl X x) (there : X.mg x = some (.ref f)) (kp : PySem.W.keepIn X.K (.ref f) = true) (pass : Passes CX X E)
    (ha : PA X (e :: es) t) (hk : PK X kws tk) (each : (backToKw pos (keywordEach kws X.env)).all (·.1.isSome) = true := by rfl) (names : (backToKw pos (keywordEach kws X.env)).filterMap (·.1) = ks := by rfl)
    (nd : (x == ("__debug__" : Str)) = false := by decide) (st : starEach (e :: es) X.env = (false, eval e X.env) :: starEach es X.env := by rfl)
    (pl : ((backTo pos (starEach (e :: es) X.env)).any (·.1) || (backToKw pos (keywordEach kws X.env)).any (·.1.isNone)) = false := by rfl) :
    PE X (.Call (.Name x p) (e :: es) kws pos) (tCallFK q ks.length E t tk) := by
  refine ⟨fun pins s σ H Q I h => wpAny_Call_Name_kw (ld_glob I gl there ?_ nd)⟩
  refine PySem.W.callWith_KW (h₀ := X.base) I.ok.mod.kin kp each (thn (ha.run pos pins s σ H _ I h) ?_) pl st
  rintro us s1 ⟨vs, H1, I1, r, g1⟩
  refine thn (hk.run pos pins s1 σ H1 _ I1 g1) ?_
  rintro ws s2 ⟨zs, H2, I2, rz, lz, g2⟩
  refine ⟨I2.kIn, ?_⟩
  rw [names]
  refine wpAny_call (codeAny_mono (F X.A X.stack s2 H2 us ws vs zs Q E room I2.env0 r rz lz g2) fun out s' h' => ?_)
  match out, h' with
  | .error e, h' => exact pass pins σ H2 s2 e s' I2 h'
  | .ok (.ret u), h' => exact I2.after h'
  | .ok .next, h' => exact h'.elim
  | .ok .brk, h' => exact h'.elim
  | .ok .cont, h' => exact h'.elim
end
end StK

/-! an own object made within an except suite; a class that a local name holds, called with keywords -/
namespace MkH
open PySem PySem.Spec PyProof.Rows L2 L2H
section
variable {X : Cx} {CX : CXT} {k : Nat} {f C : Addr} {fd : FuncData} {ps : List Str} {sp : Sp} {x : Str} {p pos : Pos} {dvs : List V} {ds : List Value}
/-- C(): all that __init__ takes has defaults -/
theorem pe_make0H (M : Mk X.K C f) (F : FnH X.prog X.w X.K X.mg X.base CX k f fd ps sp) (room : RoomH (k + 1) X.A) (hot : HotC X) (b : Binds X.K fd ps ds) (d : Vals dvs ds) (pass : Passes CX X (fun _ _ _ => False)) (g : Gl X x) (m : X.mg x = some (.ref C))
    (nodebug : (x == ("__debug__" : Str)) = false := by decide) : PE X (.Call (.Name x p) [] [] pos) (tMake C sp dvs (fun _ _ _ => False) tNil) := by
  constructor
  intro pins s σ H Q I had
  obtain ⟨pn, h1, mem⟩ := hot
  refine wpAny_Call_Name_kw (ld_glob I g m ?_ nodebug)
  refine PySem.W.callWith_K0 I.kIn M.kp ?_
  have free : ∀ c, s.heap.objs.size ≤ c → H c = none := fun c le => I.hok.fresh le
  have had1 := had (s.heap.objs.size + 1) s.heap.objs.size (free _ (Nat.le_succ _)) (free _ (Nat.le_refl _)) (Nat.ne_of_lt (Nat.lt_succ_self _))
  have I2 := Inv.made I (C := C)
  have rel : Vals (V.ref (s.heap.objs.size + 1) :: ([] ++ dvs)) (Value.ref (s.heap.objs.size + 1) :: ([] ++ ds)) := .cons rfl d
  have len : ([Value.ref (s.heap.objs.size + 1)] ++ ds).length = ps.length := by
    rw [← F.len _ _ _ _ had1]
    exact rel.length.symm
  have at2 := I2.pin pn (List.mem_append_left _ mem)
  refine wpAny_call (make_map (f := f) I.kIn M.makes M.init (beq_iff_eq.mp M.fn) (codeAny_mono (F.run _ X.stack _ _ ⟨[Value.ref (s.heap.objs.size + 1)], []⟩ ([Value.ref (s.heap.objs.size + 1)] ++ ds) _ _ (fun _ _ _ => False) pn
    (RoomH.make room C [] []) ⟨h1.1, h1.2⟩ ⟨at2.1, at2.2.1, fun z => ?_, at2.2.2.2.2⟩ (I2.env0.make C [] []) (b _ [Value.ref (s.heap.objs.size + 1)] I2.kIn len) rel had1) fun r s2 told => ?_))
  · rcases List.mem_cons.mp (I2.stkSub pn.1 z) with z | z
    · exact at2.2.2.1 z
    · exact at2.2.2.2.1 z
  · match r, told with
    | .error e, told => exact pass pins σ _ _ e s2 I2 told
    | .ok (.ret u), told =>
      obtain ⟨v, H2, I3, ru, rfl, q⟩ := I2.after told
      exact ⟨ru, V.ref (s.heap.objs.size + 1), H2, I3, rfl, q⟩
    | .ok .next, told => exact told.elim
    | .ok .brk, told => exact told.elim
    | .ok .cont, told => exact told.elim
end
section
variable {X : Cx} {CX : CXT} {k i : Nat} {f C : Addr} {fd : FuncData} {ps ks : List Str} {sp : Sp} {E : XK} {x : Str} {p pos : Pos} {kws : List Keyword} {tk : TA} {gb : List Value → List Value → List Value} {gV : List V → List V → List V}
/-- the i-th slot holds the class C: name(k = v, ..) -/
def tMakeL (i : Nat) (C : Addr) (m : Nat) (sp : Sp) (gV : List V → List V → List V) (E : XK) (tk : TA) : TE := fun σ H Q => σ[i]? = some (some (.ref C)) ∧ tMakeK C 0 m sp gV E tNil tk σ H Q
theorem pe_makeL (M : Mk X.K C f) (F : FnOk X.prog X.w X.K X.mg X.base CX k f fd ps sp) (room : Room (k + 1) X.A) (at_ : X.N[i]? = some x) (vis : Vis X.env.scope x) (b : KBn X.K fd ps 1 ks gb gV) (pass : Passes CX X E) (kw : PK X kws tk)
    (hall : (backToKw pos (keywordEach kws X.env)).all (·.1.isSome) = true := by rfl) (hks : (backToKw pos (keywordEach kws X.env)).filterMap (·.1) = ks := by rfl) (d1 : (x == ("__debug__" : Str)) = false := by decide) (d2 : (x == ("__classdict__" : Str)) = false := by decide)
    (star : ((backTo pos (starEach [] X.env)).any (·.1) ||
      (backToKw pos (keywordEach kws X.env)).any (·.1.isNone)) = false := by rfl) :
    PE X (.Call (.Name x p) [] kws pos) (tMakeL i C ks.length sp gV E tk) := by
  constructor
  rintro pins s σ H Q I ⟨slot, had⟩
  refine wpAny_Call_Name_kw (thn ((pe_var (pos := p) at_ vis d1 d2).run pins s σ H (fun v G => v = .ref C ∧ G = H) I ⟨.ref C, slot, rfl, rfl⟩) ?_)
  rintro u s1 ⟨v, G, I1, rv, rfl, rfl⟩
  cases (show u = Value.ref C from rv)
  refine PySem.W.callWith_KW0 (h₀ := X.base)
    I.ok.mod.kin M.kp hall ?_ star
  refine thn (kw.run pos pins s1 σ G _ I1 had) ?_
  rintro ws s2 ⟨zs, G2, I2, rz, l1, l2, q⟩
  rw [hks]
  exact ⟨I2.kIn, run_makeK (us := []) (vs := []) M F room b pass I2 .nil rz rfl l2 q⟩
end
end MkH

/-! calls of methods that may raise: what they raise goes on -/
namespace MkS
open PySem PySem.Spec PyProof.Rows L2
section
variable {X : Cx} {CX : CXT} {k : Nat} {f C : Addr} {fd : FuncData} {ps : List Str} {sp : Sp} {E : L2.St → XK} {m : Str} {pos apos : Pos} {e o : Expr} {es : List Expr} {ta : TE} {t : TA} {pl : Sem Bool}
/-- o.m(e, ..) -/
theorem pe_methS (he : PE X o ta) (c : Cls X.K C) (hm : Meth X.K C m f) (F : FnOk X.prog X.w X.K X.mg X.base CX k f fd ps sp) (room : Room k X.A) (b : Binds X.K fd ps []) (pass : ∀ σ, PassesAt CX X σ (E σ)) (ha : PA X (e :: es) t)
    (one : starEach (e :: es) X.env = (false, eval e X.env) :: starEach es X.env := by rfl) (more : (backTo pos (starEach es X.env)).any (·.1) = false := by rfl)
    (road : eval (.Call (.Attribute o m apos) (e :: es) [] pos) X.env = (do
      let it ← eval o X.env
      standAt apos.atName
      let (fn, self) ← holding [it] (getMethod it m pl)
      callWith pos fn self (backTo pos (starEach (e :: es) X.env)) (backToKw pos (keywordEach [] X.env))) := by rfl) :
    PE X (.Call (.Attribute o m apos) (e :: es) [] pos) (L2H.tMethH C m sp E ta t) := by
  constructor
  intro pins s σ H Q I had
  refine PySem.W.methodCall_KW (pl := pl) (thn (he.run pins s σ H _ I had) ?_) road
  rintro u s1 ⟨x, H1, I1, ru, a, dx, fs, rfl, at_, no, q⟩
  cases (show u = Value.ref a from ru); skip
  refine getmeth_ok I1 at_ c hm no (PySem.W.callWith_K (first := [.ref a]) (h₀ := X.base) I.ok.mod.kin hm.kp (thn (ha.run pos pins s1 σ H1 _ I1 q) ?_) one more)
  rintro us s2 ⟨vs, H2, I2, r, q2⟩
  exact ⟨I2.kIn, run_fnS (us := .ref a :: us) (vs := .ref a :: vs) F room b (pass σ) I2 (.cons rfl r) q2⟩
end
section
variable {X : Cx} {CX : CXT} {k n : Nat} {f C : Addr} {fd : FuncData} {ps ks : List Str} {sp : Sp} {E : L2.St → XK} {x : Str} {p pos : Pos} {kws : List Keyword} {tk : TA} {gb : List Value → List Value → List Value} {gV : List V → List V → List V}
/-- a new object by keywords, its __init__ may raise -/
theorem run_makeS {pins : List (Addr × Obj)} {σ : L2.St} {H : Hp} {s : Shared} {Q : VK} {ws : List Value} {zs : List V} (M : Mk X.K C f) (F : FnOk X.prog X.w X.K X.mg X.base CX k f fd ps sp) (room : Room (k + 1) X.A) (b : KBn X.K fd ps 1 ks gb gV) (pass : PassesAt CX X σ (E σ))
    (I : Inv X pins σ H s) (rz : Vals zs ws) (lz : zs.length = ks.length)
    (had : ∀ c dx, H c = none → H dx = none → dx ≠ c → sp (gV [.ref c] zs) (upd (upd H dx (.own c)) c (.ins C dx [])) (fun v G => v = .non ∧ Q (.ref c) G) (E σ)) :
    wpAny (model X.prog X.w) X.A (call (.ref C) [] (ks.zip ws)) (EP X pins σ Q) X.xe s := by
  have free : ∀ c, s.heap.objs.size ≤ c → H c = none := fun c le => I.hok.fresh le
  have had1 := had (s.heap.objs.size + 1) s.heap.objs.size (free _ (Nat.le_succ _)) (free _ (Nat.le_refl _)) (Nat.ne_of_lt (Nat.lt_succ_self _))
  have I2 := Inv.made I (C := C)
  have self : Vals [V.ref (s.heap.objs.size + 1)] [Value.ref (s.heap.objs.size + 1)] := .cons rfl .nil
  refine wpAny_call (make_map (f := f) I.kIn M.makes M.init (beq_iff_eq.mp M.fn) (codeAny_mono (F.run _ X.stack _ _ ⟨[Value.ref (s.heap.objs.size + 1)], ks.zip ws⟩ (gb [Value.ref (s.heap.objs.size + 1)] ws) _ _ (E σ) (room.make C [] (ks.zip ws))
    (I2.env0.make C [] (ks.zip ws)) (b.to _ _ ws I2.kIn rfl (rz.length.symm.trans lz)) (b.rel self rz) had1) fun r s2 told => ?_))
  match r, told with
  | .error e, told => exact pass pins _ _ e s2 I2 told
  | .ok (.ret u), told =>
    obtain ⟨v, G, I3, ru, rfl, q⟩ := I2.after told
    exact ⟨ru, V.ref (s.heap.objs.size + 1), G, I3, rfl, q⟩
  | .ok .next, told => exact told.elim
  | .ok .brk, told => exact told.elim
  | .ok .cont, told => exact told.elim
/-- C(k = v, ..) -/
def tMakeS (C : Addr) (m : Nat) (sp : Sp) (gV : List V → List V → List V) (E : L2.St → XK) (tk : TA) : TE := fun σ H Q => tk σ H fun zs G => zs.length = m ∧ ∀ c dx, G c = none → G dx = none → dx ≠ c →
  sp (gV [.ref c] zs) (upd (upd G dx (.own c)) c (.ins C dx [])) (fun v G2 => v = .non ∧ Q (.ref c) G2) (E σ)
theorem pe_makeS (M : Mk X.K C f) (F : FnOk X.prog X.w X.K X.mg X.base CX k f fd ps sp) (room : Room (k + 1) X.A) (g : Gl X x) (m : X.mg x = some (.ref C)) (b : KBn X.K fd ps 1 ks gb gV) (pass : ∀ σ, PassesAt CX X σ (E σ)) (kw : PK X kws tk)
    (hall : (backToKw pos (keywordEach kws X.env)).all (·.1.isSome) = true := by rfl) (hks : (backToKw pos (keywordEach kws X.env)).filterMap (·.1) = ks := by rfl) (nodebug : (x == ("__debug__" : Str)) = false := by decide)
    (star : ((backTo pos (starEach [] X.env)).any (·.1) ||
      (backToKw pos (keywordEach kws X.env)).any (·.1.isNone)) = false := by rfl) :
    PE X (.Call (.Name x p) [] kws pos) (tMakeS C ks.length sp gV E tk) := by
  constructor
  intro pins s σ H Q I had
  refine wpAny_Call_Name_kw (ld_glob I g m ?_ nodebug)
  refine PySem.W.callWith_KW0 (h₀ := X.base) I.ok.mod.kin M.kp hall (thn (kw.run pos pins s σ H _ I had) ?_) star
  rintro ws s2 ⟨zs, G2, I2, rz, lz, q⟩
  rw [hks]
  exact ⟨I2.kIn, run_makeS M F room b (pass σ) I2 rz lz q⟩
end
end MkS

/-! a call of a class method that may raise -/
namespace MkS
open PySem PySem.Spec PyProof.Rows L2 ClX
section
variable {X : Cx} {CX : CXT} {k : Nat} {C p g : Addr} {mc : Value} {fd : FuncData} {ps : List Str} {sp : Sp} {E : L2.St → XK} {m : Str} {pos apos : Pos} {o e : Expr} {es : List Expr} {to : TE} {t : TA} {pl : Sem Bool}
def tCMethS (C : Addr) (sp : Sp) (E : L2.St → XK) (to : TE) (t : TA) : TE := fun σ H Q => to σ H fun x G => x = .ref C ∧ t σ G fun zs G2 => sp (.ref C :: zs) G2 Q (E σ)
/-- K.m(e, ..) -/
theorem pe_cmethS (he : PE X o to) (r : CRead X.K C mc) (c : CMet X.K C mc m p g) (F : FnOk X.prog X.w X.K X.mg X.base CX k g fd ps sp) (room : Room k X.A) (b : Binds X.K fd ps []) (pass : ∀ σ, PassesAt CX X σ (E σ)) (ha : PA X (e :: es) t)
    (one : starEach (e :: es) X.env = (false, eval e X.env) :: starEach es X.env := by rfl) (more : (backTo pos (starEach es X.env)).any (·.1) = false := by rfl)
    (road : eval (.Call (.Attribute o m apos) (e :: es) [] pos) X.env = (do
      let it ← eval o X.env
      standAt apos.atName
      let (fn, self) ← holding [it] (getMethod it m pl)
      callWith pos fn self (backTo pos (starEach (e :: es) X.env)) (backToKw pos (keywordEach [] X.env))) := by rfl) :
    PE X (.Call (.Attribute o m apos) (e :: es) [] pos) (tCMethS C sp E to t) := by
  constructor
  intro pins s σ H Q I had
  refine PySem.W.methodCall_KW (pl := pl) (thn (he.run pins s σ H _ I had) ?_) road
  rintro u s1 ⟨x, G, I1, ru, rfl, q⟩
  cases (show u = Value.ref C from ru)
  refine getmethcm_ok I1 r c ?_
  intro s2 I2
  refine callwith_cm I2 (base_none I1 (Nat.le_refl _)) c.fi (thn (ha.run pos _ s2 σ G _ I2 q) ?_) one more
  rintro us s3 ⟨zs, G2, I3, rz, q2⟩
  refine ⟨⟨pin_at I3, I3.kIn⟩, ?_⟩
  have both : Vals (V.ref C :: zs) (Value.ref C :: us) := .cons rfl rz
  have len : (Value.ref C :: us).length = ps.length := both.length.symm.trans (F.len _ _ _ _ q2)
  have args := b s3 (.ref C :: us) I3.kIn (by rw [List.append_nil]; exact len)
  rw [List.append_nil] at args
  have z : wpAny (model X.prog X.w) X.A (call (.ref s1.heap.objs.size) us) (EP X ((s1.heap.objs.size, PySem.W.methodObj (.ref g) (.ref C)) :: pins) σ Q) X.xe s3 := by
    refine wpAny_call (PySem.W.method_call (pin_at I3) (codeAny_mono (F.run X.A X.stack s3 G2 ⟨.ref C :: us, []⟩ (.ref C :: us) (.ref C :: zs) Q (E σ) room I3.env0 args both q2) ?_))
    intro r s4 told
    match r, told with
    | .error e, told => exact pass σ _ _ _ e s4 I3 told
    | .ok (.ret u), told => exact I3.after told
    | .ok .next, told => exact told.elim
    | .ok .brk, told => exact told.elim
    | .ok .cont, told => exact told.elim
  exact thn z fun _ _ told => unpinE told
end
end MkS

/-! more calls that may raise: a method without arguments, a class in a local name; a def with defaults where an exception is handled -/
namespace MkS
open PySem PySem.Spec PyProof.Rows L2
section
variable {X : Cx} {CX : CXT} {k : Nat} {f C : Addr} {fd : FuncData} {ps : List Str} {sp : Sp} {E : L2.St → XK} {m : Str} {pos apos : Pos} {o : Expr} {ta : TE} {pl : Sem Bool}
/-- o.m() -/
def tMethS0 (C : Addr) (m : Str) (sp : Sp) (E : L2.St → XK) (ta : TE) : TE := fun σ H Q => ta σ H fun x H1 => ∃ a dx fs, x = .ref a ∧ H1 a = some (.ins C dx fs) ∧ fs.lookup m = none ∧ sp [.ref a] H1 Q (E σ)
theorem pe_methS0 (he : PE X o ta) (c : Cls X.K C) (hm : Meth X.K C m f) (F : FnOk X.prog X.w X.K X.mg X.base CX k f fd ps sp) (room : Room k X.A) (b : Binds X.K fd ps []) (pass : ∀ σ, PassesAt CX X σ (E σ))
    (road : eval (.Call (.Attribute o m apos) [] [] pos) X.env = (do
      let it ← eval o X.env
      standAt apos.atName
      let (fn, self) ← holding [it] (getMethod it m pl)
      callWith pos fn self (backTo pos (starEach [] X.env)) (backToKw pos (keywordEach [] X.env))) := by rfl) :
    PE X (.Call (.Attribute o m apos) [] [] pos) (tMethS0 C m sp E ta) := by
  constructor
  intro pins s σ H Q I had
  refine PySem.W.methodCall_KW (pl := pl) (thn (he.run pins s σ H _ I had) ?_) road
  rintro u s1 ⟨x, H1, I1, ru, a, dx, fs, rfl, at_, no, q⟩
  cases (show u = Value.ref a from ru); skip
  refine getmeth_ok I1 at_ c hm no (PySem.W.callWith_K0 (first := [.ref a]) I1.kIn hm.kp ?_)
  exact run_fnS (us := [.ref a]) (vs := [.ref a]) F room b (pass σ) I1 (.cons rfl .nil) q
end
section
variable {X : Cx} {CX : CXT} {k i : Nat} {f C : Addr} {fd : FuncData} {ps ks : List Str} {sp : Sp} {E : L2.St → XK} {x : Str} {p pos : Pos} {kws : List Keyword} {tk : TA} {gb : List Value → List Value → List Value} {gV : List V → List V → List V}
/-- the i-th slot holds the class C: name(k = v, ..), its __init__ may raise -/
def tMakeLS (i : Nat) (C : Addr) (m : Nat) (sp : Sp) (gV : List V → List V → List V) (E : L2.St → XK) (tk : TA) : TE := fun σ H Q => σ[i]? = some (some (.ref C)) ∧ tMakeS C m sp gV E tk σ H Q
theorem pe_makeLS (M : Mk X.K C f) (F : FnOk X.prog X.w X.K X.mg X.base CX k f fd ps sp) (room : Room (k + 1) X.A) (at_ : X.N[i]? = some x) (vis : Vis X.env.scope x) (b : KBn X.K fd ps 1 ks gb gV) (pass : ∀ σ, PassesAt CX X σ (E σ)) (kw : PK X kws tk)
    (hall : (backToKw pos (keywordEach kws X.env)).all (·.1.isSome) = true := by rfl) (hks : (backToKw pos (keywordEach kws X.env)).filterMap (·.1) = ks := by rfl) (d1 : (x == ("__debug__" : Str)) = false := by decide) (d2 : (x == ("__classdict__" : Str)) = false := by decide)
    (star : ((backTo pos (starEach [] X.env)).any (·.1) ||
      (backToKw pos (keywordEach kws X.env)).any (·.1.isNone)) = false := by rfl) :
    PE X (.Call (.Name x p) [] kws pos) (tMakeLS i C ks.length sp gV E tk) := by
  constructor
  rintro pins s σ H Q I ⟨slot, had⟩
  refine wpAny_Call_Name_kw (thn ((pe_var (pos := p) at_ vis d1 d2).run pins s σ H (fun v G => v = .ref C ∧ G = H) I ⟨.ref C, slot, rfl, rfl⟩) ?_)
  rintro u s1 ⟨v, G, I1, rv, rfl, rfl⟩
  cases (show u = Value.ref C from rv)
  refine PySem.W.callWith_KW0 (h₀ := X.base)
    I.ok.mod.kin M.kp hall ?_ star
  refine thn (kw.run pos pins s1 σ G _ I1 had) ?_
  rintro ws s2 ⟨zs, G2, I2, rz, lz, q⟩
  rw [hks]
  exact ⟨I2.kIn, run_makeS M F room b (pass σ) I2 rz lz q⟩
end
end MkS
namespace L2
open PySem PySem.Spec PyProof.Rows
section
variable {P : Program} {w : World} {K : PySem.W.Frag} {mg : Str → Option Value} {base : Heap}
/-- a def with defaults called where an exception is handled, lets none out -/
theorem FunD.okH {x qual : Str} {params : Arguments} {body : List Stmt} {scope : Scope} {dvs : List V} {kws : List (Str × V)} {f : Addr} {fd : FuncData} {N ps : List Str} {k : Nat} {sp : Sp} (F : FunD K x qual params body scope dvs kws f fd) (S : FnScope N ps scope) (len : ∀ vs H Q E, sp vs H Q E → vs.length = ps.length)
    (walk : ∀ (cdv : Value) (A : Around) (outer : List Env) (s : Shared) (H : Hp) (vs : List V) (Q : VK) (E : XK) (p : Addr × Obj), L2H.Hot1 A p → L2H.RoomH k (A.deeper (envOfC qual scope s.heap.objs.size f cdv)) → sp vs H Q E →
      ∃ t, PSs (L2H.cxH CX0 P w K mg base N qual scope f cdv A outer s H E p).nox body t ∧ t { nx := fun _ H' => Q .non H', rt := Q } (start N vs) H) : L2H.FnH P w K mg base CX0 (k + 1) f fd ps sp := by
  obtain ⟨oc, od, dV, kV, doc, pm, an, cdv, ct, osl, rfl, lk, hcd, _, _⟩ := F.ex
  refine L2H.fn_ofH lk hcd S len fun A outer s H vs Q E p hot hr hsp => ?_
  obtain ⟨t, h, q⟩ := walk cdv A outer s H vs Q E p hot hr hsp
  exact ⟨t, h.nox, q⟩
/-- no keyword written: as if called by position with the defaults -/
theorem KBn.binds {fd : FuncData} {ps : List Str} {gb : List Value → List Value → List Value} {gV : List V → List V → List V} {ds : List Value} (b : KBn K fd ps 1 [] gb gV) (h : ∀ u, gb [u] [] = u :: ds) (hl : ps.length = ds.length + 1) : Binds K fd ps ds := by
  intro s us X l
  have e : us.length = 1 := by
    rw [List.length_append] at l
    omega
  match us, e with
  | [u], _ =>
    have z := b.to s [u] [] X rfl rfl
    rw [h u] at z
    exact z
end
end L2
namespace L2
open PySem PySem.Spec PyProof.Rows
theorem ix_kdictK {X : Cx} {K : PySem.W.Frag} {w : World} (h : X.K = K) (hw : X.w = w) : IxR X (rIxD K w) := by
  subst h
  subst hw
  exact ix_kdict
end L2
namespace L2
open PySem PySem.Spec PyProof.Rows
theorem pe_fldK {X : Cx} {K : PySem.W.Frag} {e : Expr} {f : Str} {pos : Pos} {ta : TE} (h : X.K = K) (it : PE X e ta) (hb : attributeBase e f X.env (eval e X.env) = eval e X.env) : PE X (.Attribute e f pos) (tFld K ta f) := by
  subst h
  exact pe_fld it hb
end L2

/-! == and repr of an instance with its own __eq__, __repr__ -/
namespace OwI
open PySem PySem.Spec PyProof.Rows L2
theorem stands {X : Cx} {pins : List (Addr × Obj)} {σ : L2.St} {H : Hp} {s : Shared} {a C dx : Addr} {fs : List (Str × V)} (I : Inv X pins σ H s) (e : H a = some (.ins C dx fs)) : ∃ o od, PySem.W.InstAt s.heap a o C (some od) := by
  obtain ⟨mA, O, _⟩ := ins_get I.hok e
  obtain ⟨od, J, _⟩ := O.look
  exact ⟨_, od, J⟩
/-- x op y, x an instance of the class at C whose def for op is at g, y an instance of the same class -/
def rOwnI (K : PySem.W.Frag) (C : Addr) (sp : Sp) (E : XK) : R2 := fun x y H Q => ∃ a dx fs b dy gs, x = .ref a ∧ y = .ref b ∧ H a = some (.ins C dx fs) ∧ H b = some (.ins C dy gs) ∧ PySem.W.notFirst K C (.ref C) = true ∧ sp [x, y] H Q E
section
variable {X : Cx} {CX : CXT} {C g : Addr} {n : Nat} {sp : Sp} {E : XK}
theorem op_ownI {op : CmpOp} (road : ∀ a b, compareOp op a b = richCompare op a b) (own : PySem.W.findIn X.K (.ref C) (cmpInfo op).2.1 = some (some (.ref g))) (isf : PySem.W.isFn X.K (.ref g) = true) (F : FnR X.prog X.w X.K X.mg X.base CX n g sp)
    (room : Room n X.A) (pass : Passes CX X E) : OpR X (compareOp op) (rOwnI X.K C sp E) := by
  rintro pins s σ H _ _ v u Q I rv ru ⟨a, dx, fs, b, dy, gs, rfl, rfl, ha, hb, nf, had⟩
  cases (show v = Value.ref a from rv)
  cases (show u = Value.ref b from ru)
  obtain ⟨o, od, J⟩ := stands I ha
  obtain ⟨o2, od2, J2⟩ := stands I hb
  obtain ⟨m, fr⟩ := I.fr
  rw [road]
  refine PySem.W.cmp_K (op := op) (tb := .ref C) room.units0 fr I.ok.mod.kin J J2.type nf own isf ?_
  refine wpAny_mono (wpAny_call (run_fnR (us := [.ref a, .ref b]) (vs := [.ref a, .ref b]) F room pass I (.cons rfl (.cons rfl .nil)) had)) ?_ fun _ _ z => z
  rintro w z ⟨y, G, I2, ry, q⟩
  exact SlX.cmpback ry ⟨y, G, I2, ry, q⟩
/-- repr(x), x an instance of the class at C with its own __repr__ at g -/
def rReprI (C : Addr) (sp : Sp) (E : XK) : List V → Hp → VK → Prop := fun xs H Q => ∃ a dx fs, xs = [.ref a] ∧ H a = some (.ins C dx fs) ∧ sp [.ref a] H (fun y G => ∃ t : Str, y = .str t ∧ Q y G) E
theorem call_reprI (own : PySem.W.findIn X.K (.ref C) "__repr__" = some (some (.ref g))) (isf : PySem.W.isFn X.K (.ref g) = true) (F : FnR X.prog X.w X.K X.mg X.base CX n g sp) (room : Room (n + 1) X.A) (pass : Passes CX X E) : CallR X (.builtin "repr") (rReprI C sp E) := by
  rintro pins s σ H _ us Q I rel ⟨a, dx, fs, rfl, ha, had⟩
  obtain ⟨u, rfl, ru⟩ := vals1 rel
  cases (show u = Value.ref a from ru); skip
  obtain ⟨o, od, J⟩ := stands I ha
  obtain ⟨m, fr⟩ := I.fr
  have room1 : Room n X.A.in1 := Room.in1 room
  refine PySem.W.repr_K room1.units0 fr I.ok.mod.kin J own isf ?_
  refine wpAny_mono (wpAny_call (SlX.run_at (us := [.ref a]) (ws := [.ref a]) F room1 I.env0.in1 pass I (.cons rfl .nil) had)) ?_ fun _ _ z => z
  rintro w z ⟨y, G, I2, ry, t, rfl, q⟩
  obtain ⟨tk, rfl⟩ := (show ∃ tk, w = Value.str t tk from ry)
  exact ⟨.str t, G, I2, ⟨tk, rfl⟩, q⟩
end
end OwI

/-! star defs that raise, and those whose keyword-only parameter is left out -/
namespace StK
open PySem PySem.Spec PyProof.Rows L2 StX
theorem upN {P : Program} {w : World} : CXUp (L2N.CX P w) := by
  intro outer s H s2 H2 E e s' un kp os h
  obtain ⟨a, B, G, cls, d, r, fly, ok, ub, free, os', bare, he⟩ := h
  have back : ∀ b o, s.heap.get? b = some o → H b = none → H2 b = none := fun b o q n => un.free b o q n (by simp)
  have ub' : UB (frs outer) H G s.heap B s'.heap := {
    keep := fun b o q n out => ub.keep b o (kp b o q) (back b o q n) out
    slot := fun b o q => ub.slot b o (kp b o q)
    free := fun b o q n => ub.free b o (kp b o q) (back b o q n)
    there := fun b o q => ub.there b o (kp b o q)
    tups := fun b xs q => ub.tups b xs (un.tups b xs q)
    frzs := fun b o xs q => ub.frzs b o xs (un.frzs b o xs q)
    tbls := fun b ps q => by
      obtain ⟨m1, x1⟩ := un.tbls b ps q
      obtain ⟨m2, x2⟩ := ub.tbls b _ x1
      exact ⟨m1 ++ m2, by rw [x2, Array.append_assoc]⟩ }
  exact ⟨a, B, G, cls, d, r, fly, ok, ub', free, os'.trans os, bare, he⟩
section
variable {CX : CXT} {P : Program} {w : World} {K : PySem.W.Frag} {mg : Str → Option Value} {base : Heap} {k n : Nat} {f : Addr} {name qual : Str} {params : Arguments} {body : List Stmt} {scope : Scope} {dV kV doc pm cdv ct oc : Value} {an od : Option Addr}
  {osl : Array (Option Value)} {N ps : List Str} {sp : Sp}
/-- def f(a, .., *v, q = dv), called without q -/
theorem fn_starD {pv q : Str} {D : Addr} {dv : V} {du : Value} (at_ : K.lookup f = some ⟨oc, od, .func (PySem.W.fnOf name qual params body scope dV kV doc pm an cdv ct), osl⟩) (code : PySem.W.codeIn K cdv qual = true) (S : FnScope N (ps ++ [pv]) scope) (up : CXUp CX) (hps : ps.length = n + 1)
    (isq : PySem.W.nsIn K D q = some (some du)) (rq : RelV dv du)
    (bind : ∀ us rest : List Value, us.length = n → ∃ (β γ : Type) (k1 : Option Value → Sem β) (k2 : β → Sem γ) (k3 : γ → Sem (List (Str × Value))) (a : β), bindArgs (PySem.W.fnOf name qual params body scope dV kV doc pm an cdv ct) ⟨us ++ rest, []⟩ = ((nsGet D q >>= k1) >>= k2) >>= k3 ∧
      k1 (some du) = pure a ∧ (k2 a >>= k3) = (newTuple rest >>= fun t => pure (ps.zip (us ++ [du]) ++ [(pv, t)])))
    (run : ∀ (A : Around) (outer : List Env) (s : Shared) (H : Hp) (vs : List V) (Q : VK) (E : XK), Room k (A.deeper (envOfC qual scope s.heap.objs.size f cdv)) → sp vs H Q E →
      ∃ t, PSs (cxOf CX P w K mg base N qual scope f cdv A outer s H E) body t ∧ t { nx := fun _ H' => Q .non H', rt := Q } (start N vs) H) :
    FnR P w K mg base CX (k + 1) f (fun vs H Q E => ∃ hd rest, vs = hd ++ rest ∧ hd.length = n ∧ rest.length ≤ sizeLine ∧ ∀ p, H p = none → sp ((hd ++ [dv]) ++ [V.ref p]) (upd H p (.tup rest)) Q E) := by
  rintro A outer s H us vs Q E room env rv ⟨hd, rest, rfl, lh, small, goes⟩
  obtain ⟨u1, u2, rfl, r1, r2⟩ := vals_split rv
  have free : H s.heap.objs.size = none := env.hok.fresh (Nat.le_refl _)
  have l1 : u1.length = n := r1.length.symm.trans lh
  have few : u2.length ≤ sizeLine := by
    rw [← r2.length]
    exact small
  have KX : K.In s.heap := env.mod.kin.keeps fun b o e => (env.bs b o e).1
  let here : Obj := { cls := .type "tuple", data := .seq u2.toArray }
  refine run_bnd at_ code S room env (G := fun xs G => ∃ p, H p = none ∧ xs = (hd ++ [dv]) ++ [V.ref p] ∧ G = upd H p (.tup rest)) (fun A' Ex Q' told => ?_) ?_
  · obtain ⟨β, γ, k1, k2, k3, a, e1, e2, e3⟩ := bind u1 u2 l1
    rw [e1, bind_assoc]
    refine wpAny_bind (((PySem.W.looks_nsIn KX isq).andThen (PySem.W.Looks.of_pure e2)).here ?_)
    rw [e3]
    refine wpAny_bind (wpAny_newTuple (wpAny_pure ?_) few)
    have laid : ObjOk P w (upd H s.heap.objs.size (.tup rest)) (s.heap.push here) s.heap.objs.size (.tup rest) := ⟨small, u2, r2, _, Heap.get?_push_size _ rfl, rfl, _, rfl⟩
    have un : Un (frs outer) [] H (upd H s.heap.objs.size (.tup rest)) s.heap (s.heap.push here) := un_laid free
    have len : ((hd ++ [dv]) ++ [V.ref s.heap.objs.size]).length = (ps ++ [pv]).length := by
      rw [List.length_append, List.length_append, List.length_append, lh, hps]
      rfl
    have got := told _ _ ((hd ++ [dv]) ++ [V.ref s.heap.objs.size]) ((u1 ++ [du]) ++ [Value.ref s.heap.objs.size]) (env0_laid env laid) un rfl
      (fun e s' => up outer s H _ _ E e s' un (fun b o q => Heap.get?_push_of_some _ q) rfl) ((r1.append (.cons rq .nil)).append (.cons rfl .nil)) len ⟨_, free, rfl, rfl⟩
    have cut : ps.length = (u1 ++ [du]).length := by rw [List.length_append, l1, hps]; rfl
    rw [List.zip_append cut] at got
    exact got
  · rintro s2 _ _ ⟨p, hp, rfl, rfl⟩ room'
    exact run A outer s2 _ _ Q E room' (goes p hp)
end
section
variable {X : Cx} {CX : CXT} {k : Nat} {f : Addr} {ks : List Str} {q : List V → List V → Hp → VK → XK → Prop} {sp : Sp} {x : Str} {p pos : Pos} {e : Expr} {es : List Expr} {kws : List Keyword} {t tk : TA}
def tCallFKS (q : List V → List V → Hp → VK → XK → Prop) (n : Nat) (E : L2.St → XK) (t tk : TA) : TE := fun σ H Q => t σ H fun vs H1 => tk σ H1 fun zs H2 => zs.length = n ∧ q vs zs H2 Q (E σ)
/-- the same of a def that may raise -/
theorem pe_callFKS {E : L2.St → XK} (F : FnK X.prog X.w X.K X.mg X.base CX k f ks q) (room : Room k X.A) (gl : Gl X x) (there : X.mg x = some (.ref f)) (kp : PySem.W.keepIn X.K (.ref f) = true) (pass : ∀ σ, PassesAt CX X σ (E σ))
    (ha : PA X (e :: es) t) (hk : PK X kws tk) (each : (backToKw pos (keywordEach kws X.env)).all (·.1.isSome) = true := by rfl) (names : (backToKw pos (keywordEach kws X.env)).filterMap (·.1) = ks := by rfl)
    (nd : (x == ("__debug__" : Str)) = false := by decide) (st : starEach (e :: es) X.env = (false, eval e X.env) :: starEach es X.env := by rfl)
    (pl : ((backTo pos (starEach (e :: es) X.env)).any (·.1) || (backToKw pos (keywordEach kws X.env)).any (·.1.isNone)) = false := by rfl) :
    PE X (.Call (.Name x p) (e :: es) kws pos) (tCallFKS q ks.length E t tk) := by
  refine ⟨fun pins s σ H Q I h => wpAny_Call_Name_kw (ld_glob I gl there ?_ nd)⟩
  refine PySem.W.callWith_KW (h₀ := X.base) I.ok.mod.kin kp each (thn (ha.run pos pins s σ H _ I h) ?_) pl st
  rintro us s1 ⟨vs, H1, I1, r, g1⟩
  refine thn (hk.run pos pins s1 σ H1 _ I1 g1) ?_
  rintro ws s2 ⟨zs, H2, I2, rz, lz, g2⟩
  refine ⟨I2.kIn, ?_⟩
  rw [names]
  refine wpAny_call (codeAny_mono (F X.A X.stack s2 H2 us ws vs zs Q (E σ) room I2.env0 r rz lz g2) fun out s' h' => ?_)
  match out, h' with
  | .error e, h' => exact pass σ pins H2 s2 e s' I2 h'
  | .ok (.ret u), h' => exact I2.after h'
  | .ok .next, h' => exact h'.elim
  | .ok .brk, h' => exact h'.elim
  | .ok .cont, h' => exact h'.elim
/-- f(e, ..), f told of its values alone -/
theorem pe_callR {E : XK} (F : FnR X.prog X.w X.K X.mg X.base CX k f sp) (room : Room k X.A) (gl : Gl X x) (there : X.mg x = some (.ref f)) (kp : PySem.W.keepIn X.K (.ref f) = true) (pass : Passes CX X E)
    (ha : PA X (e :: es) t) (nd : (x == ("__debug__" : Str)) = false := by decide) (st : starEach (e :: es) X.env = (false, eval e X.env) :: starEach es X.env := by rfl) (pl : (backTo pos (starEach es X.env)).any (·.1) = false := by rfl) :
    PE X (.Call (.Name x p) (e :: es) [] pos) (fun σ H Q => t σ H fun vs H1 => sp vs H1 Q E) := by
  refine ⟨fun pins s σ H Q I h => wpAny_Call_Name_kw (ld_glob I gl there ?_ nd)⟩
  refine PySem.W.callWith_K (h₀ := X.base) I.ok.mod.kin kp (thn (ha.run pos pins s σ H _ I h) ?_) st pl
  rintro us s1 ⟨vs, H1, I1, r, g1⟩
  exact ⟨I1.kIn, wpAny_call (run_fnR F room pass I1 r g1)⟩
end
end StK

/-! tuple(reversed(t)), t a tuple; in and not in of a tuple of data -/
namespace RvT
open PySem PySem.Spec PyProof.Rows L2 RT
theorem sized_no : typeLookup (.type "reversed") "__len__" = pure none := by
  rw [typeLookup_type, builtinLookup_eq_fast]
  kernel_rfl
theorem sized_hint : typeLookup (.type "reversed") "__length_hint__" = pure (some (.builtin "reversed.__length_hint__")) := by
  rw [typeLookup_type, builtinLookup_eq_fast]
  kernel_rfl
section
variable {prog : Program} {w : World} {A : Around} {E : Value → Shared → Prop} {s : Shared}
theorem tup_at {h h' : Heap} {t : Addr} {vs : Array Value} (x : IsTup h t vs) (e : ∀ o, h.get? t = some o → h'.get? t = some o) : IsTup h' t vs := by
  obtain ⟨o, ho, hc, n, hd⟩ := x
  exact ⟨o, e _ ho, hc, n, hd⟩
/-- a walk from a tuple's end -/
theorem backWalk (calm : A.handled = none) (I t : Addr) (ne : t ≠ I) (vs : Array Value) (small : vs.size ≤ sizeLine) :
    Walks prog w A I [I, t] [I] vs.size (fun k v => vs[vs.size - 1 - k]? = some v) (fun k h => k ≤ vs.size ∧ IsRt h I t ((vs.size : Int) - 1 - (k : Int)) ∧ IsTup h t vs) where
  sub b hb := by
    rw [List.mem_singleton.mp hb]
    exact List.mem_cons_self
  frame k h h' x kp := ⟨x.1, IsRt.at x.2.1 fun o e => kp I List.mem_cons_self o e, tup_at x.2.2 fun o e => kp t (List.mem_cons_of_mem _ List.mem_cons_self) o e⟩
  item k s Q E lt x told := by
    obtain ⟨_, at_, tup⟩ := x
    have there : vs.size - 1 - k < vs.size := by omega
    have get : vs[vs.size - 1 - k]? = some vs[vs.size - 1 - k] := Array.getElem?_eq_getElem there
    rw [show (vs.size : Int) - 1 - (k : Int) = ((vs.size - 1 - k : Nat) : Int) by omega] at at_
    refine next_rt_item at_ tup get small fun h' more same => ?_
    rw [show ((vs.size - 1 - k : Nat) : Int) - 1 = (vs.size : Int) - 1 - ((k + 1 : Nat) : Int) by omega] at more
    exact told _ h' _ get ⟨lt, more, tup_at tup fun o eo => (same.2 t ne).trans eo⟩ fun b o nb eo => (same.2 b fun z => nb (by rw [z]; exact List.mem_cons_self)).trans eo
  done s Q E x told := by
    obtain ⟨_, at_, _⟩ := x
    rw [show (vs.size : Int) - 1 - (vs.size : Int) = -1 by omega] at at_
    exact next_rt_end calm at_ fun h' ext => told h' _ fun b o nb eo => ext b o (fun z => nb (by rw [z]; exact List.mem_cons_self)) eo
  self _ _ _ _ x told := iter_rt x.2.1 told
end
end RvT
namespace RvT
open PySem PySem.Spec PyProof.Rows L2 RT
section
variable {X : Cx}
/-- x in t, t a tuple of data -/
def rInT (K : PySem.W.Frag) : R2 := fun x y H Q => ∃ d ds, Dp K H x d ∧ Dp K H y (.tuple ds) ∧ SeqAt.shaped d = true ∧ SeqAt.shaped (.list ds) = true ∧ Q (.bl (ds.any fun z => PyData.eqv z d)) H
def rNotInT (K : PySem.W.Frag) : R2 := fun x y H Q => ∃ d ds, Dp K H x d ∧ Dp K H y (.tuple ds) ∧ SeqAt.shaped d = true ∧ SeqAt.shaped (.list ds) = true ∧ Q (.bl (!ds.any fun z => PyData.eqv z d)) H
theorem op_inT (room : X.A.units + 65 < cLine) : OpR X (compareOp .In) (rInT X.K) := by
  rintro pins s σ H x y v u Q I rx ry ⟨d, ds, dx, dy, sx, sy, goal⟩
  obtain ⟨_, left⟩ := Dp.reads I d x v dx rx
  obtain ⟨_, right⟩ := Dp.reads I (.tuple ds) y u dy ry
  exact SeqAt.in_tuple_reads right left (SeqAt.canLay_of_shaped sy) (SeqAt.canLay_of_shaped sx) (room_in_shaped sx room) ⟨.bl _, H, I, rfl, goal⟩
theorem op_notInT (room : X.A.units + 65 < cLine) : OpR X (compareOp .NotIn) (rNotInT X.K) := by
  rintro pins s σ H x y v u Q I rx ry ⟨d, ds, dx, dy, sx, sy, goal⟩
  obtain ⟨_, left⟩ := Dp.reads I d x v dx rx
  obtain ⟨_, right⟩ := Dp.reads I (.tuple ds) y u dy ry
  exact SeqAt.notIn_tuple_reads right left (SeqAt.canLay_of_shaped sy) (SeqAt.canLay_of_shaped sx) (room_in_shaped sx room) ⟨.bl _, H, I, rfl, goal⟩
end
end RvT

namespace RvT
open PySem PySem.Spec PyProof.Rows L2 RT
theorem hint_kind : builtinKind "reversed.__length_hint__" = some .method := by decide +kernel
theorem hint_slot : Slot "reversed" "__length_hint__" "reversed.__length_hint__" := by
  refine .of (owner := "reversed") (n := "__length_hint__") sized_hint ?_ ?_ ?_ ?_ ?_
  · decide +kernel
  · decide +kernel
  · decide +kernel
  · first | exact Or.inl (by decide +kernel) | exact Or.inr (by decide +kernel)
  · exact PySem.F.sub_reversed_self
theorem hint_entry : entryFor table "reversed.__length_hint__" = some Builtin.«reversed.__length_hint__» := by
  apply entryFor_of_tree
  kernel_rfl
theorem hint_args (a : Value) : argsOk "reversed.__length_hint__" ⟨[a], []⟩ := by
  unfold argsOk
  rw [signature?_of (id := "reversed.__length_hint__") (n := ("__length_hint__".toList.reverse)) (o := ['d', 'e', 's', 'r', 'e', 'v', 'e', 'r']) (by kernel_rfl) owner_rt]
  kernel_rfl
theorem hint_bind (self : Value) : bindSpecial (.builtin "reversed.__length_hint__") self = pure (.builtin "reversed.__length_hint__", [self]) := by
  have no1 : withoutEnding? "reversed.__length_hint__" "#opaque" = none := by decide +kernel
  have no2 : withoutEnding? "reversed.__length_hint__" "#data" = none := by decide +kernel
  simp only [bindSpecial, typeOf, builtinType, no1, no2, hint_kind]
  rfl
section
variable {prog : Program} {w : World} {A : Around} {E : Value → Shared → Prop} {s : Shared}
theorem collect_back {it t : Addr} {vs : Array Value} {Q : List Value → Shared → Prop} (calm : A.handled = none) (at_ : IsRt s.heap it t ((vs.size : Int) - 1)) (tup : IsTup s.heap t vs) (ne : t ≠ it) (small : vs.size ≤ sizeLine)
    (told : ∀ (h' : Heap) (tk : Nat) (acc : Array Value), (∀ b o, b ≠ it → s.heap.get? b = some o → h'.get? b = some o) → ItemsOf (fun k v => vs[vs.size - 1 - k]? = some v) acc vs.size → Q acc.toList { s with heap := h', toks := tk }) :
    wpAny (model prog w) A (collect (.ref it)) Q E s := by
  have W := Walks.toS (backWalk (prog := prog) (w := w) (A := A.in1) calm it t ne vs small)
  have li : it < s.heap.objs.size := by
    obtain ⟨o, ho, _⟩ := at_
    exact Heap.lt_size ho
  have lt : t < s.heap.objs.size := by
    obtain ⟨o, ho, _⟩ := tup
    exact Heap.lt_size ho
  have apart : s.heap.objs.size ∉ [it, t] := fun z => by
    rcases List.mem_cons.mp z with z | z
    · exact Nat.ne_of_gt li z
    · exact Nat.ne_of_gt lt (List.mem_singleton.mp z)
  unfold collect
  apply wpAny_bind
  apply wpAny_runValue
  apply codeAny_builtin F.entry_proto_collect
  rw [Around.under_plainId F.plain_proto_collect]
  show wpAny _ A.in1 (newList [] >>= fun l' => again (.builtin "list.__iadd__" ⟨[l', Value.ref it], []⟩)) _ _ s
  apply wpAny_bind
  refine wpAny_newObj_type ?_
  apply wpAny_pure
  refine And.intro (plainId_quiet F.plain_list_iadd _) (codeAny_builtin F.entry_list_iadd ?_)
  rw [Around.under_plainId F.plain_list_iadd]
  generalize e1 : ({ cls := .type "list", data := .seq ([] : List Value).toArray } : Obj) = ol
  have l1 : (s.heap.push ol).get? s.heap.objs.size = some ol := Heap.get?_push_size _ (by rw [← e1]; rfl)
  have at1 : IsRt (s.heap.push ol) it t ((vs.size : Int) - 1) := IsRt.at at_ fun o e => Heap.get?_push_of_some _ e
  have tup1 : IsTup (s.heap.push ol) t vs := tup_at tup fun o e => Heap.get?_push_of_some _ e
  have ty : ({ s with heap := s.heap.push ol } : Shared).TypeIs (.ref it) "reversed" := IsRt.typeIs (s := { s with heap := s.heap.push ol }) at1
  have other : Builtin.List.listSameRef (.ref s.heap.objs.size) (.ref it) = false := by
    have : s.heap.objs.size ≠ it := Nat.ne_of_gt li
    simp [Builtin.List.listSameRef, this]
  show wpAny _ A.in1 (Builtin.List.listExtendWith (.ref s.heap.objs.size) (.ref it) (.ref s.heap.objs.size)) _ _ _
  unfold Builtin.List.listExtendWith
  apply wpAny_bind
  refine wpAny_typeOf ty ?_
  rw [if_neg (by rw [other]; decide)]
  apply wpAny_bind
  refine iter_rt (s := { s with heap := s.heap.push ol }) at1 ?_
  apply wpAny_bind
  apply wpAny_holding
  unfold Builtin.List.listLengthHint
  apply wpAny_bind
  refine wpAny_specialOf ty sized_no ?_
  show wpAny _ A.in1 (specialOf (Value.ref it) (Str.ofString "__length_hint__") >>= _) _ _ _
  apply wpAny_bind
  refine wpAny_specialOf ty sized_hint ?_
  generalize hid : ("reversed.__length_hint__" : String) = id0
  wp_delta
  rw [show splitId id0 = some ("reversed", "__length_hint__") from by subst hid; decide +kernel]
  subst hid
  refine wpAny_bind (wpAny_isInstance (b := true) ty PySem.F.sub_reversed_self ?_)
  rw [if_neg (by decide)]
  dsimp only
  rw [if_neg (by decide +kernel)]
  refine wpAny_bind (wpAny_rule ?_)
  rw [hint_bind]
  refine wpAny_bind (wpAny_pure ?_)
  apply wpAny_bind
  apply wpAny_attempt
  refine wpAny_call_entry hint_slot ty hint_entry ?_ (hint_args _)
  unfold Builtin.«reversed.__length_hint__»
  refine wpAny_bind (wpAny_of_eq (a := Value.ref it) rfl ?_)
  obtain ⟨o1, ho1, hc1, hd1⟩ := id at1
  refine wpAny_bind (wpAny_field ho1 hd1 (x := .ref t) rfl ?_)
  have ty2 : ({ s with heap := s.heap.push ol } : Shared).TypeIs (.ref t) "tuple" := IsTup.typeOf' tup1
  rw [if_neg (by intro z; cases z)]
  apply wpAny_bind
  refine len_tuple tup1 ?_ ?_
  · have := small
    have l63 := line63
    omega
  refine wpAny_bind (wpAny_of_eq (a := some ((vs.size : Nat) : Int)) rfl ?_)
  dsimp only
  refine wpAny_bind (wpAny_field ho1 hd1 (x := rawInt ((vs.size : Int) - 1)) rfl ?_)
  show wpAny _ _ (if ((vs.size : Nat) : Int) < (vs.size : Int) - 1 + 1 then _ else retInt ((vs.size : Int) - 1 + 1)) _ _ _
  rw [if_neg (by omega), show (vs.size : Int) - 1 + 1 = ((vs.size : Nat) : Int) by omega]
  unfold retInt
  refine wpAny_bind (wpAny_mkInt (wpAny_pure ⟨_, rfl, ?_⟩))
  dsimp only
  generalize hl : ((vs.size : Nat) : Int) = len
  apply wpAny_bind
  refine wpAny_pure ?_
  dsimp only
  have fits : Builtin.List.listFitsIndex len = true := by
    unfold Builtin.List.listFitsIndex
    have l63 := line63
    rw [decide_eq_true (by omega), decide_eq_true (by omega)]
    rfl
  have few : Builtin.List.listTooLong len.toNat = false := by
    unfold Builtin.List.listTooLong
    rw [← hl, Int.toNat_natCast]
    exact decide_eq_false (Nat.not_lt.mpr small)
  have up : ¬ len < 0 := by omega
  simp only [fits, few, up, Bool.not_true, Bool.false_eq_true, if_false]
  refine wpAny_pure ?_
  -- the walk itself, from any heap that holds the empty list
  have e0 : (vs.size : Int) - 1 - ((0 : Nat) : Int) = (vs.size : Int) - 1 := by omega
  have go : ∀ (h2 : Heap) (tk tk0 : Nat) (c : Nat) {R : Result → Shared → Prop}, h2.get? s.heap.objs.size = some { cls := .type "list", dict := none, data := .seq #[] c, slots := #[] } → (∀ b o, b ≠ s.heap.objs.size → s.heap.get? b = some o → h2.get? b = some o) →
      (∀ s' acc' c', Moved (s.heap.objs.size :: [it]) (fun a b => b = a) { s with heap := h2, toks := tk } s' → s'.heap.get? s.heap.objs.size = some { cls := .type "list", dict := none, data := .seq acc' c', slots := #[] } → ItemsOf (fun k v => vs[vs.size - 1 - k]? = some v) acc' vs.size → R (.ok (.ret (.ref s.heap.objs.size))) s') →
      codeAny (model prog w) A (.builtin "list.extend.loop" ⟨[.ref s.heap.objs.size, .ref it, .ref s.heap.objs.size], []⟩) R { s with heap := h2, toks := tk } := fun h2 tk tk0 c R hS ko told2 =>
    codeAny_extend_loopS W small _ apart _ vs.size 0 _ _ _ rfl (Nat.zero_le _) ⟨Nat.zero_le _, by rw [e0]; exact IsRt.at at_ fun o e => ko it o (fun z => Nat.ne_of_gt li z.symm) e, tup_at tup fun o e => ko t o (fun z => Nat.ne_of_gt lt z.symm) e⟩ hS (ItemsOf.nil _) told2
  have fin : ∀ (h2 : Heap) (tk : Nat), (∀ b o, b ≠ s.heap.objs.size → s.heap.get? b = some o → h2.get? b = some o) → ∀ (s' : Shared) (acc' : Array Value) (c' : Nat), Moved (s.heap.objs.size :: [it]) (fun a b => b = a) { s with heap := h2, toks := tk } s' →
      s'.heap.get? s.heap.objs.size = some { cls := .type "list", dict := none, data := .seq acc' c', slots := #[] } → ItemsOf (fun k v => vs[vs.size - 1 - k]? = some v) acc' vs.size →
      wpAny (model prog w) A (load s.heap.objs.size >>= fun o => match o.data with
        | .seq xs _ => pure xs.toList
        | _ => unsupported "internal:collect") Q E s' := fun h2 tk ko s' acc' c' mv here all => by
    refine wpAny_bind (wpAny_load here (wpAny_pure ?_))
    rw [Moved.eq_with mv]
    refine told s'.heap s'.toks acc' (fun b o nb eo => ?_) all
    have nb2 : b ≠ s.heap.objs.size := Nat.ne_of_lt (Heap.lt_size eo)
    refine mv.heap b o (fun z => ?_) (ko b o nb2 eo)
    rcases List.mem_cons.mp z with z | z
    · exact nb2 z
    · exact nb (List.mem_singleton.mp z)
  subst e1
  have h0 : ∀ b o, b ≠ s.heap.objs.size → s.heap.get? b = some o → (s.heap.push { cls := .type "list", data := .seq ([] : List Value).toArray }).get? b = some o := fun b o _ e => Heap.get?_push_of_some _ e
  by_cases nul : len = 0
  · rw [if_neg (by rw [nul]; decide)]
    refine wpAny_pure ⟨plainId_quiet F.plain_extend_loop _, ?_⟩
    refine go _ _ 0 0 l1 h0 ?_
    intro s' acc' c' mv here all
    exact fin _ _ h0 s' acc' c' mv here all
  · rw [if_pos (by rw [show (len != 0) = true from bne_iff_ne.mpr nul]; rfl)]
    refine wpAny_bind (wpAny_rule ?_)
    apply wpAny_bind
    show wpAny _ A.in1 (updateSeq s.heap.objs.size (·.push .none) >>= fun _ => updateSeq s.heap.objs.size (·.pop)) _ _ _
    have l2 := Heap.get?_update_self (Obj.mapSeq (·.push Value.none)) l1 rfl
    have l3 := Heap.get?_update_self (Obj.mapSeq (·.pop)) l2 rfl
    apply wpAny_bind
    refine wpAny_updateSeq l1 rfl ?_
    refine wpAny_updateSeq l2 rfl ?_
    refine wpAny_pure ⟨plainId_quiet F.plain_extend_loop _, ?_⟩
    have h3 : ∀ b o, b ≠ s.heap.objs.size → s.heap.get? b = some o → (((s.heap.push { cls := .type "list", data := .seq ([] : List Value).toArray }).update s.heap.objs.size (Obj.mapSeq (·.push Value.none))).update s.heap.objs.size (Obj.mapSeq (·.pop))).get? b = some o := fun b o nb e =>
      (Heap.get?_update_other _ _ (Ne.symm nb)).trans ((Heap.get?_update_other _ _ (Ne.symm nb)).trans (h0 b o nb e))
    refine go _ _ 0 _ l3 h3 ?_
    intro s' acc' c' mv here all
    exact fin _ _ h3 s' acc' c' mv here all
theorem code_tuple_back {it t : Addr} {vs : Array Value} {Q : Value → Shared → Prop} (calm : A.handled = none) (at_ : IsRt s.heap it t ((vs.size : Int) - 1)) (tup : IsTup s.heap t vs) (ne : t ≠ it) (small : vs.size ≤ sizeLine)
    (told : ∀ (h' : Heap) (tk : Nat) (acc : Array Value), (∀ b o, b ≠ it → s.heap.get? b = some o → h'.get? b = some o) → ItemsOf (fun k v => vs[vs.size - 1 - k]? = some v) acc vs.size →
      Q (.ref h'.objs.size) { s with heap := h'.push { cls := .type "tuple", data := .seq acc }, toks := tk }) :
    codeAny (model prog w) A (.call (.builtin "tuple.__new__") ⟨[.type "tuple", .ref it], []⟩) (wants Q E) s := by
  apply codeAny_of_tree
  show wpAny _ A.in1 (do checkBuiltinCall "tuple.__new__" ⟨[Value.type "tuple", Value.ref it], []⟩; again (.builtin "tuple.__new__" ⟨[Value.type "tuple", Value.ref it], []⟩)) _ _ s
  apply wpAny_bind
  refine wpAny_of_eq (F.newCall_tuple_1 _) (wpAny_pure (And.intro (plainId_quiet F.plain_tuple_new _) (codeAny_builtin F.entry_tuple_new ?_)))
  rw [Around.under_plainId F.plain_tuple_new]
  have isT : s.TypeIs (.ref it) "reversed" := IsRt.typeIs at_
  have calm1 : A.in1.handled = none := calm
  have h_sub := sub_tuple_self
  have h_init := init_tuple_lookup
  have h_made := madeHere_tuple
  wp_walk using wpAny_typeOf isT, collect_back (A := A.in1) calm1 at_ tup ne small
  intro h' tk acc kp all
  show wpAny _ _ (Builtin.Tuple.tupleExact acc.toList.toArray >>= fun u => ret u) _ _ _
  rw [show acc.toList.toArray = acc by simp]
  unfold Builtin.Tuple.tupleExact
  refine wpAny_bind (wpAny_newObj_type (wpAny_pure (told h' tk acc kp all)) ?_)
  show acc.size ≤ sizeLine
  rw [all.1]
  exact small
theorem call_tuple_back {it t : Addr} {vs : Array Value} {Q : Value → Shared → Prop} (calm : A.handled = none) (at_ : IsRt s.heap it t ((vs.size : Int) - 1)) (tup : IsTup s.heap t vs) (ne : t ≠ it) (small : vs.size ≤ sizeLine)
    (told : ∀ (h' : Heap) (tk : Nat) (acc : Array Value), (∀ b o, b ≠ it → s.heap.get? b = some o → h'.get? b = some o) → ItemsOf (fun k v => vs[vs.size - 1 - k]? = some v) acc vs.size →
      Q (.ref h'.objs.size) { s with heap := h'.push { cls := .type "tuple", data := .seq acc }, toks := tk }) :
    wpAny (model prog w) A (call (.type "tuple") [.ref it]) Q E s := by
  refine callType_codes (Q₁ := fun u s1 => s1.TypeIs u "tuple" ∧ Q u s1) F.called_tuple (F.typeCall_tuple_1 _) F.entry_object_init (code_tuple_back (A := A.in1) calm at_ tup ne small ?_) ?_
  · intro h' tk acc kp all
    exact ⟨⟨_, Heap.get?_push_size _ rfl, rfl⟩, told h' tk acc kp all⟩
  · rintro u s1 ⟨isT, q⟩
    exact ⟨isT, F.args_object_init_2 u _, object_init_meets F.called_tuple.init.lookup F.called_tuple.made (by decide) prog w A.in1 _ s1 ⟨isT, rfl, q⟩⟩
end
section
variable {X : Cx}
/-- tuple(reversed(t)), t a tuple: a new tuple -/
def tTupBack (K : PySem.W.Frag) (te : TE) : TE := fun σ H Q => te σ H fun v H1 => ∃ (a : Addr) (xs : List V), v = .ref a ∧ SqT K H1 a xs ∧ ∀ q, H1 q = none → Q (.ref q) (upd H1 q (.tup xs.reverse))
theorem pe_tupBack {e : Expr} {te : TE} {p p2 pos pos2 : Pos} (calm : X.calm = true) (g1 : Gl X "tuple") (m1 : X.mg "tuple" = none) (g2 : Gl X "reversed") (m2 : X.mg "reversed" = none) (he : PE X e te)
    (a1 : starEach [e] X.env = (false, eval e X.env) :: starEach [] X.env := by rfl)
    (a2 : starEach [.Call (.Name "reversed" p2) [e] [] pos2] X.env = (false, eval (.Call (.Name "reversed" p2) [e] [] pos2) X.env) :: starEach [] X.env := by rfl) :
    PE X (.Call (.Name "tuple" p) [.Call (.Name "reversed" p2) [e] [] pos2] [] pos) (tTupBack X.K te) := by
  constructor
  intro pins s σ H Q I had
  refine Call_ (ld_blt I g1 m1 boot_tuple (PyProof.Rows.callWith_type1 (args_cons (Call_ (ld_blt I g2 m2 PyProof.Rows.boot_reversed (PyProof.Rows.callWith_type1 (args_cons (thn (he.run pins s σ H _ I had) fun u s1 got => args_nil ?_) a1) a1 rfl))) a2) a2 rfl))
  obtain ⟨v, H1, I1, r1, a, xs, rfl, hx, goal⟩ := got
  cases (show u = Value.ref a from r1)
  obtain ⟨its, rv, tup, few⟩ := I1.tuple hx
  have ln := rv.length
  have sz : its.toArray.size = xs.length := by rw [List.size_toArray, ← ln]
  have l63 := line63
  refine call_reversed_tup tup (fun A E Q k => len_tuple tup (by rw [sz]; omega) k) (args_nil ?_)
  have k0 : ∀ b o, s1.heap.get? b = some o → (s1.heap.push (rtObj a ((its.toArray.size : Int) - 1))).get? b = some o := fun b o e => Heap.get?_push_of_some _ e
  have I2 : Inv X pins σ H1 { s1 with heap := s1.heap.push (rtObj a ((its.toArray.size : Int) - 1)), toks := s1.toks + 1 + 1 } := I1.kept (t' := s1.toks + 1 + 1) k0
  obtain ⟨p0, p1, p2, p3, p4, p5⟩ := I1.fpOk (H' := H1) (b := s1.heap.objs.size) (Nat.le_refl _) (I1.hok.fresh (Nat.le_refl _))
  have apart : a ≠ s1.heap.objs.size := by
    obtain ⟨o, ho, _⟩ := id tup
    exact Nat.ne_of_lt (Heap.lt_size ho)
  have small : its.toArray.size ≤ sizeLine := by rw [sz]; exact few
  refine call_tuple_back (s := { s1 with heap := s1.heap.push (rtObj a ((its.toArray.size : Int) - 1)), toks := s1.toks + 1 + 1 }) (I1.ok.hd calm) ⟨_, Heap.get?_push_size _ rfl, rfl, rfl⟩ (tup_at tup fun o e => k0 _ _ e) apart small fun h' tk acc kp all => ?_
  have I3 : Inv X pins σ H1 { s1 with heap := h', toks := tk } := I2.turned (t' := tk) (fun b o nb e => kp b o nb e) p0 p1 p3 p4 p5
  have new : ObjOk X.prog X.w (upd H1 h'.objs.size (.tup xs.reverse)) (h'.push { cls := .type "tuple", data := .seq acc }) h'.objs.size (.tup xs.reverse) := by
    refine ⟨by rw [List.length_reverse]; exact few, acc.toList, vals_rev rv all, ?_⟩
    rw [Array.toArray_toList]
    exact IsTup.new _ _
  exact ⟨.ref h'.objs.size, _, I3.laid (t' := tk) (fun c o e => Heap.get?_push_of_some _ e) (Nat.le_refl _) new, rfl, goal _ (I3.hok.fresh (Nat.le_refl _))⟩
end
end RvT

/-! a walk over zip of three lists of one length -/
namespace RZ3
open PySem PySem.Spec PyProof.Rows L2
/-- three lists of one length as they stand, the items in new triples -/
def It3 (K : PySem.W.Frag) (a b c : Addr) : It where
  go i H := ∃ (xs ys zs : List V), SqL K H a xs ∧ SqL K H b ys ∧ SqL K H c zs ∧ ys.length = xs.length ∧ zs.length = xs.length ∧ i < xs.length
  yld i H v H' := ∃ T x y z, v = .ref T ∧ H T = none ∧ H' = upd H T (.tup [x, y, z]) ∧ (∀ xs, SqL K H a xs → xs[i]? = some x) ∧ (∀ ys, SqL K H b ys → ys[i]? = some y) ∧ ∀ zs, SqL K H c zs → zs[i]? = some z
  stop i H := ∃ (xs ys zs : List V), SqL K H a xs ∧ SqL K H b ys ∧ SqL K H c zs ∧ ys.length = i ∧ zs.length = i ∧ xs.length = i
abbrev cells (z TI TO i1 i2 i3 : Addr) : List Addr := [z, TI, TO, i1, i2, i3]
def Tn3 (a b c z TI TO i1 i2 i3 : Addr) (i : Nat) (h : Heap) : Prop :=
  IsZip h z TI TO .none ∧ IsTupOf3 h TI (.ref i1) (.ref i2) (.ref i3) ∧ (∃ x y u, IsTupOf3 h TO x y u) ∧ h.IsListIter i1 a i ∧ h.IsListIter i2 b i ∧ h.IsListIter i3 c i
theorem turn3 {P : Program} {w : World} {K : PySem.W.Frag} {elts : List Expr} {kk : Nat} {tpos : Pos} {a b c z TI TO i1 i2 i3 : Addr} (S : ZipSep3 z TI TO i1 i2 i3 [i1, a] [i2, b] [i3, c]) (n1 : a ≠ i1) (n2 : b ≠ i2) (n3 : c ≠ i3) :
    Turn P w K (.Tuple elts kk tpos) (It3 K a b c) (cells z TI TO i1 i2 i3) z (Tn3 a b c z TI TO i1 i2 i3) where
  mem := List.mem_cons_self
  obj i h st q hq := by
    obtain ⟨hz, hTI, ⟨x, y, u, hTO⟩, ⟨o1, e1, _, d1⟩, ⟨o2, e2, _, d2⟩, ⟨o3, e3, _, d3⟩⟩ := st
    simp only [cells, List.mem_cons, List.not_mem_nil, or_false] at hq
    rcases hq with rfl | rfl | rfl | rfl | rfl | rfl
    · exact ⟨_, hz, fun v e => nomatch e⟩
    · exact ⟨_, hTI, fun v e => nomatch e⟩
    · exact ⟨_, hTO, fun v e => nomatch e⟩
    · exact ⟨o1, e1, fun v e => by rw [d1] at e; cases e⟩
    · exact ⟨o2, e2, fun v e => by rw [d2] at e; cases e⟩
    · exact ⟨o3, e3, fun v e => by rw [d3] at e; cases e⟩
  keep i h h' st k := by
    obtain ⟨hz, hTI, ⟨x, y, u, hTO⟩, h1, h2, h3⟩ := st
    exact ⟨k z (by simp) _ hz, k TI (by simp) _ hTI, ⟨x, y, u, k TO (by simp) _ hTO⟩, h1.at fun o q => k i1 (by simp) o q, h2.at fun o q => k i2 (by simp) o q, h3.at fun o q => k i3 (by simp) o q⟩
  item := by
    rintro X rfl rfl rfl calm i pins s σ H E I free st ⟨xs, ys, zs, q1, q2, q3, l2, l3, lt⟩
    obtain ⟨hz, hTI, ⟨x0, y0, u0, hTO⟩, h1, h2, h3⟩ := st
    obtain ⟨v1, r1, p1, _⟩ := I.list q1
    obtain ⟨v2, r2, p2, _⟩ := I.list q2
    obtain ⟨v3, r3, p3, _⟩ := I.list q3
    have hh : X.A.in1.handled = none := I.ok.hd calm
    have D1 := Draws.list (prog := X.prog) (w := X.w) hh i1 a n1 v1.toArray
    have D2 := Draws.list (prog := X.prog) (w := X.w) hh i2 b n2 v2.toArray
    have D3 := Draws.list (prog := X.prog) (w := X.w) hh i3 c n3 v3.toArray
    have s1 : v1.toArray.size = xs.length := by rw [List.size_toArray, ← r1.length]
    have s2 : v2.toArray.size = ys.length := by rw [List.size_toArray, ← r2.length]
    have s3 : v3.toArray.size = zs.length := by rw [List.size_toArray, ← r3.length]
    have zl : z < s.heap.objs.size := Heap.lt_size hz
    refine wpAny_pyNext_zipD3_item (i := i) S D1 D2 D3 hz hTI hTO ⟨h1, p1.isList⟩ ⟨h2, p2.isList⟩ ⟨h3, p3.isList⟩ (by omega) (by omega) (by omega) fun x1 x2 x3 h' tk g1 g2 g3 z' TO' t1 t2 t3 tup sz kp => ?_
    refine ⟨_, rfl, wpAny_letOwnedTupleGo_zip (s := { s with heap := h', toks := tk }) z' fun h'' z'' sb => ?_⟩
    have tup2 : h''.get? s.heap.objs.size = some { cls := .type "tuple", data := .seq #[x1, x2, x3] } := (sb.2 _ (Nat.ne_of_gt zl)).trans tup
    obtain ⟨u1, e1, w1⟩ : ∃ u, xs[i]? = some u ∧ RelV u x1 := by
      have hx : xs[i]? = some xs[i] := List.getElem?_eq_getElem lt
      obtain ⟨u, hu, ru⟩ := r1.get hx
      rw [← Array.getElem?_toList] at g1
      rw [show v1.toArray.toList = v1 from rfl, hu] at g1
      exact ⟨_, hx, Option.some.inj g1 ▸ ru⟩
    obtain ⟨u2, e2, w2⟩ : ∃ u, ys[i]? = some u ∧ RelV u x2 := by
      have hx : ys[i]? = some ys[i] := List.getElem?_eq_getElem (by omega)
      obtain ⟨u, hu, ru⟩ := r2.get hx
      rw [← Array.getElem?_toList] at g2
      rw [show v2.toArray.toList = v2 from rfl, hu] at g2
      exact ⟨_, hx, Option.some.inj g2 ▸ ru⟩
    obtain ⟨u3, e3, w3⟩ : ∃ u, zs[i]? = some u ∧ RelV u x3 := by
      have hx : zs[i]? = some zs[i] := List.getElem?_eq_getElem (by omega)
      obtain ⟨u, hu, ru⟩ := r3.get hx
      rw [← Array.getElem?_toList] at g3
      rw [show v3.toArray.toList = v3 from rfl, hu] at g3
      exact ⟨_, hx, Option.some.inj g3 ▸ ru⟩
    have new : ObjOk X.prog X.w (upd H s.heap.objs.size (.tup [u1, u2, u3])) h'' s.heap.objs.size (.tup [u1, u2, u3]) :=
      ⟨by show 3 ≤ sizeLine; decide, [x1, x2, x3], .cons w1 (.cons w2 (.cons w3 .nil)), _, tup2, rfl, _, rfl⟩
    have kp2 : ∀ q o, q ∉ cells z TI TO i1 i2 i3 → s.heap.get? q = some o → h''.get? q = some o := fun q o nq e => by
      simp only [cells, List.mem_cons, List.not_mem_nil, or_false, not_or] at nq
      exact (sb.2 q nq.1).trans (kp q o nq.1 nq.2.2.1 nq.2.2.2.1 nq.2.2.2.2.1 nq.2.2.2.2.2 e)
    have I1 : Inv X pins σ (upd H s.heap.objs.size (.tup [u1, u2, u3])) { s with heap := h'', toks := tk } := I.turnedNew (t' := tk) (ch := cells z TI TO i1 i2 i3) kp2 free (Nat.le_refl _) new
    refine ⟨.ref s.heap.objs.size, _, I1, rfl, ⟨_, u1, u2, u3, rfl, I.hok.fresh (Nat.le_refl _), rfl, fun l hl => by rw [I.list_inj hl q1]; exact e1, fun l hl => by rw [I.list_inj hl q2]; exact e2, fun l hl => by rw [I.list_inj hl q3]; exact e3⟩, ⟨z'', ?_, ⟨x1, x2, x3, ?_⟩, ?_, ?_, ?_⟩, fun q hq => ?_⟩
    · exact (sb.2 _ S.TIz).trans (kp _ _ S.TIz S.TITO S.TIi1 S.TIi2 S.TIi3 hTI)
    · exact (sb.2 _ S.TOz).trans TO'
    · exact t1.1.at fun o e => (sb.2 _ S.zi1.symm).trans e
    · exact t2.1.at fun o e => (sb.2 _ S.zi2.symm).trans e
    · exact t3.1.at fun o e => (sb.2 _ S.zi3.symm).trans e
    · have below : q < s.heap.objs.size := by
        simp only [cells, List.mem_cons, List.not_mem_nil, or_false] at hq
        rcases hq with rfl | rfl | rfl | rfl | rfl | rfl
        · exact zl
        · exact Heap.lt_size hTI
        · exact Heap.lt_size hTO
        · obtain ⟨_, e, _⟩ := h1; exact Heap.lt_size e
        · obtain ⟨_, e, _⟩ := h2; exact Heap.lt_size e
        · obtain ⟨_, e, _⟩ := h3; exact Heap.lt_size e
      rw [upd_ne (Nat.ne_of_lt below)]
      exact (free q hq).1
  done := by
    rintro X rfl rfl rfl calm i pins s σ H E I free st ⟨xs, ys, zs, q1, q2, q3, l2, l3, l1⟩
    obtain ⟨hz, hTI, ⟨x0, y0, u0, hTO⟩, h1, h2, h3⟩ := st
    obtain ⟨v1, r1, p1, _⟩ := I.list q1
    obtain ⟨v2, r2, p2, _⟩ := I.list q2
    obtain ⟨v3, r3, p3, _⟩ := I.list q3
    have hh : X.A.in1.handled = none := I.ok.hd calm
    have D1 := Draws.list (prog := X.prog) (w := X.w) hh i1 a n1 v1.toArray
    have D2 := Draws.list (prog := X.prog) (w := X.w) hh i2 b n2 v2.toArray
    have D3 := Draws.list (prog := X.prog) (w := X.w) hh i3 c n3 v3.toArray
    have s1 : v1.toArray.size = xs.length := by rw [List.size_toArray, ← r1.length]
    have s2 : v2.toArray.size = ys.length := by rw [List.size_toArray, ← r2.length]
    have s3 : v3.toArray.size = zs.length := by rw [List.size_toArray, ← r3.length]
    refine wpAny_pyNext_zipD3_end (i := i) S D1 D2 D3 hz hTI hTO ⟨h1, p1.isList⟩ ⟨h2, p2.isList⟩ ⟨h3, p3.isList⟩ (by omega) (by omega) (by omega) (Or.inl (by omega)) fun h' tk kp => ⟨rfl, I.turnedL (t' := tk) (ch := cells z TI TO i1 i2 i3) (fun q o nq e => ?_) free⟩
    simp only [cells, List.mem_cons, List.not_mem_nil, or_false, not_or] at nq
    exact kp q o nq.1 nq.2.2.1 nq.2.2.2.1 nq.2.2.2.2.1 nq.2.2.2.2.2 e
  self A i s Q E st h := wpAny_pyIter_zip st.1 h
def iZip3 (K : PySem.W.Frag) (ta : TA) : TI := fun σ H R => ta σ H fun vs H1 => ∃ a b c xs ys zs, vs = [.ref a, .ref b, .ref c] ∧ SqL K H1 a xs ∧ SqL K H1 b ys ∧ SqL K H1 c zs ∧ R (It3 K a b c) H1
theorem pi_zip3 {X : Cx} {e e2 e3 : Expr} {ta : TA} {p pos tpos : Pos} {elts : List Expr} {kk : Nat} (gl : Gl X "zip") (nm : X.mg "zip" = none) (args : PA X [e, e2, e3] ta)
    (one : starEach [e, e2, e3] X.env = (false, eval e X.env) :: starEach [e2, e3] X.env := by rfl) (more : (backTo pos (starEach [e2, e3] X.env)).any (·.1) = false := by rfl) :
    PI X (.Tuple elts kk tpos) (.Call (.Name "zip" p) [e, e2, e3] [] pos) (iZip3 X.K ta) := by
  constructor
  intro pins s σ H R I had
  refine Call_ (ld_blt I gl nm PyProof.Rows.boot_zip (PyProof.Rows.callWith_type1 (thn (args.run pos pins s σ H _ I had) fun us s1 got => ?_) one more))
  obtain ⟨vs, H1, I1, rel, a, b, c, xs, ys, zs, rfl, q1, q2, q3, goal⟩ := got
  obtain ⟨u1, us, rfl, ra, rel⟩ : ∃ u us', us = u :: us' ∧ RelV (.ref a) u ∧ Vals [V.ref b, V.ref c] us' := by
    cases rel with
    | cons r rr => exact ⟨_, _, rfl, r, rr⟩
  obtain ⟨u2, u3, rfl, rb, rc⟩ := vals2 rel
  cases (show u1 = Value.ref a from ra)
  cases (show u2 = Value.ref b from rb)
  cases (show u3 = Value.ref c from rc)
  obtain ⟨v1, r1, p1, _⟩ := I1.list q1
  obtain ⟨v2, r2, p2, _⟩ := I1.list q2
  obtain ⟨v3, r3, p3, _⟩ := I1.list q3
  have la : a < s1.heap.objs.size := p1.lt
  have lb : b < s1.heap.objs.size := p2.lt
  have lc : c < s1.heap.objs.size := p3.lt
  refine zip_begins3 (begins_list a v1.toArray) (begins_list b v2.toArray) (begins_list c v3.toArray) p1.isList p2.isList p3.isList fun h' hz hTI hTO g1 g2 g3 sz kp => wpAny_pyIter_zip hz ?_
  have I2 : Inv X pins σ H1 { s1 with heap := h' } := I1.kept (t' := s1.toks) kp
  have S := zip_sep3 (N := s1.heap.objs.size) (fp1 := [a]) (fp2 := [b]) (fp3 := [c]) (by simpa using la) (by simpa using lb) (by simpa using lc)
  refine ⟨s1.heap.objs.size + 5, cells (s1.heap.objs.size + 5) (s1.heap.objs.size + 3) (s1.heap.objs.size + 4) s1.heap.objs.size (s1.heap.objs.size + 1) (s1.heap.objs.size + 2), _, _, H1, rfl, I2, turn3 S (Nat.ne_of_lt la) (Nat.ne_of_lt (Nat.lt_succ_of_lt lb)) (Nat.ne_of_lt (Nat.lt_succ_of_lt (Nat.lt_succ_of_lt lc))), ⟨hz, hTI, ⟨_, _, _, hTO⟩, ⟨_, g1, rfl, rfl⟩, ⟨_, g2, rfl, rfl⟩, ⟨_, g3, rfl, rfl⟩⟩, fun q hq => ?_, goal⟩
  have le : s1.heap.objs.size ≤ q := by
    simp only [cells, List.mem_cons, List.not_mem_nil, or_false] at hq
    rcases hq with rfl | rfl | rfl | rfl | rfl | rfl
    · exact Nat.le_add_right _ _
    · exact Nat.le_add_right _ _
    · exact Nat.le_add_right _ _
    · exact Nat.le_refl _
    · exact Nat.le_add_right _ _
    · exact Nat.le_add_right _ _
  exact I1.fpOk le (I1.hok.fresh le)
/-- a new triple of the i-th ones -/
def YTri (xs ys zs : List V) : Nat → Hp → V → Hp → Prop := fun i H v H' => ∃ T x y z, v = .ref T ∧ H T = none ∧ H' = upd H T (.tup [x, y, z]) ∧ xs[i]? = some x ∧ ys[i]? = some y ∧ zs[i]? = some z
theorem walk_zip3 {K : PySem.W.Frag} {a b c : Addr} {xs ys zs : List V} (l2 : ys.length = xs.length) (l3 : zs.length = xs.length) : Walk (It3 K a b c) xs.length (fun H => SqL K H a xs ∧ SqL K H b ys ∧ SqL K H c zs) (YTri xs ys zs) where
  goes _ _ lt q := ⟨xs, ys, zs, q.1, q.2.1, q.2.2, l2, l3, lt⟩
  stops _ q := ⟨xs, ys, zs, q.1, q.2.1, q.2.2, l2, l3, rfl⟩
  yields _ _ _ _ _ q := fun ⟨T, x, y, z, e1, e2, e3, e4, e5, e6⟩ => ⟨T, x, y, z, e1, e2, e3, e4 xs q.1, e5 ys q.2.1, e6 zs q.2.2⟩
end RZ3

/-! a def called in an except suite with the exception itself -/
namespace HotE
open PySem PySem.Spec PyProof.Rows L2 L2H
/-- a promise that is told of the handled exception: its place, its class, its dict -/
abbrev SpE := Addr → Value → Option Addr → Sp
structure FnE (P : Program) (w : World) (K : PySem.W.Frag) (mg : Str → Option Value) (base : Heap) (CX : CXT) (k : Nat) (f : Addr) (fd : FuncData) (ps : List Str) (sp : SpE) : Prop where
  len : ∀ a c d vs H Q E, sp a c d vs H Q E → vs.length = ps.length
  run : ∀ (A : Around) (outer : List Env) (s : Shared) (H : Hp) (args : Args) (us : List Value) (vs : List V) (Q : VK) (E : XK) (p : Addr × Obj) (c : Value) (d : Option Addr),
    RoomH k A → Hot1 A p → PinOk outer H s p → Zc c d p.2 → Env0 P w K mg base A outer s H → BindsTo s fd args (ps.zip us) → Vals vs us → sp p.1 c d vs H Q E →
      codeAny (model P w) A (.call (.ref f) args) (CR CX outer P w H s Q E) s
section
variable {CX : CXT} {P : Program} {w : World} {K : PySem.W.Frag} {mg : Str → Option Value} {base : Heap} {k : Nat} {f : Addr} {N ps : List Str} {sp : SpE}
theorem fn_ofE {name qual : Str} {params : Arguments} {body : List Stmt} {scope : Scope} {dV kV doc pm cdv ct oc : Value} {an od : Option Addr} {osl : Array (Option Value)}
    (there : K.lookup f = some ⟨oc, od, .func (PySem.W.fnOf name qual params body scope dV kV doc pm an cdv ct), osl⟩) (code : PySem.W.codeIn K cdv qual = true) (S : FnScope N ps scope)
    (len : ∀ a c d vs H Q E, sp a c d vs H Q E → vs.length = ps.length)
    (does : ∀ (A : Around) (outer : List Env) (s : Shared) (H : Hp) (vs : List V) (Q : VK) (E : XK) (p : Addr × Obj) (c : Value) (d : Option Addr), Hot1 A p → Zc c d p.2 → RoomH k (A.deeper (envOfC qual scope s.heap.objs.size f cdv)) → sp p.1 c d vs H Q E →
      ∃ t, PSs (cxH CX P w K mg base N qual scope f cdv A outer s H E p) body t ∧ t { nx := fun _ H' => Q .non H', rt := Q } (L2.start N vs) H) :
    FnE P w K mg base CX (k + 1) f (PySem.W.fnOf name qual params body scope dV kV doc pm an cdv ct) ps sp where
  len := len
  run A outer s H args us vs Q E p c d room hot pin zc env bound rel told := by
    have ln := len _ _ _ _ _ _ _ told
    have KX : K.In s.heap := env.mod.kin.keeps fun b o e => And.left (env.bs b o e)
    have free := env.mod.nolimit.keeps fun b o e => And.left (env.bs b o e)
    refine codeAny_call_function room.depth (KX _ _ there) rfl S.co S.gen rfl (PySem.W.codeRec_of KX code) (bound _ _ _ _ (wpAny_newFunctionEnv_cells S.kind (fun nv inz => ?_) fun env2 eq2 s1 x => ?_))
    · obtain ⟨n, v⟩ := nv
      cases S.par n (List.of_mem_zip inz).1 with
      | inl q => exact Or.inl q
      | inr q => exact Or.inr ⟨q, PySem.W.cellsFrom_some _ _ _ (Or.inl q)⟩
    subst eq2
    obtain ⟨t, ht, goal⟩ := does A outer s H vs Q E p c d hot zc (room.deeper _) told
    have I : Inv (cxH CX P w K mg base N qual scope f cdv A outer s H E p) [] (L2.start N vs) H s1 := by exact inv_startH S pin env ln rel x
    refine ⟨free.keeps x.toInCall.keep, codeAny_func (wpAny_mono (ht.run [] s1 _ H _ I goal) (fun fl s' out => ?_) fun _ _ z => z)⟩
    match fl, out with
    | .ret u, ⟨v, σ', H', J, rv, q⟩ => exact ⟨v, H', J.os, J.bare, J.base, J.hok, rv, q⟩
    | .next, ⟨σ', H', J, q⟩ => exact ⟨V.non, H', J.os, J.bare, J.base, J.hok, rfl, q⟩
    | .brk, ⟨_, _, _, q⟩ => exact q.elim
    | .cont, ⟨_, _, _, q⟩ => exact q.elim
/-- a def of the text, called so; it lets nothing out -/
theorem okE {x qual : Str} {st : Stmt} {fd : FuncData} (F : Fun K x qual st f fd) (S : FnScope N ps (defScope st)) (len : ∀ a c d vs H Q E, sp a c d vs H Q E → vs.length = ps.length)
    (does : ∀ (cdv : Value) (A : Around) (outer : List Env) (s : Shared) (H : Hp) (vs : List V) (Q : VK) (E : XK) (p : Addr × Obj) (c : Value) (d : Option Addr), Hot1 A p → Zc c d p.2 → RoomH k (A.deeper (envOfC qual (defScope st) s.heap.objs.size f cdv)) → sp p.1 c d vs H Q E →
      ∃ t, PSs (cxH CX0 P w K mg base N qual (defScope st) f cdv A outer s H E p).nox (defBody st) t ∧ t { nx := fun _ H' => Q .non H', rt := Q } (L2.start N vs) H) : FnE P w K mg base CX0 (k + 1) f fd ps sp := by
  obtain ⟨oc, od, kV, doc, pm, an, cdv, ct, osl, rfl, there, code⟩ := F.ex
  refine fn_ofE there code S len fun A outer s H vs Q E p c d hot zc room told => ?_
  obtain ⟨t, h, q⟩ := does cdv A outer s H vs Q E p c d hot zc room told
  exact ⟨t, h.nox, q⟩
end
/-- the context bears the exception at a, of this class and dict -/
def HotP (X : Cx) (a : Addr) (c : Value) (d : Option Addr) : Prop := ∃ o : Obj, Hot1 X.A (a, o) ∧ (a, o) ∈ X.pn ∧ Zc c d o
theorem hotP_suite {X : Cx} {a : Addr} {oe : Obj} {c : Value} {d : Option Addr} {pn : List (Addr × Obj)} (hz : L2N.Zn c d oe) (hf : ∃ vs, oe.data = .fields vs) : HotP (X.suite a ((a, oe) :: pn)) a c d := by
  obtain ⟨vs, hv⟩ := hf
  exact ⟨oe, ⟨rfl, vs, hv, hz.2.2 vs hv⟩, List.mem_cons_self, hz.zc⟩
section
variable {X : Cx} {CX : CXT} {k : Nat} {f a : Addr} {c : Value} {d : Option Addr} {fd : FuncData} {ps : List Str} {sp : SpE} {E : L2.St → XK} {x : Str} {q pos : Pos} {e : Expr} {es : List Expr} {t : TA}
/-- f(.., the exception, ..) in its suite -/
theorem pe_callE (F : FnE X.prog X.w X.K X.mg X.base CX k f fd ps sp) (room : RoomH k X.A) (hot : HotP X a c d) (gl : Gl X x) (there : X.mg x = some (.ref f)) (kp : PySem.W.keepIn X.K (.ref f) = true) (bi : Binds X.K fd ps []) (pass : ∀ σ, PassesAt CX X σ (E σ))
    (args : PA X (e :: es) t) (nodebug : (x == ("__debug__" : Str)) = false := by decide) (one : starEach (e :: es) X.env = (false, eval e X.env) :: starEach es X.env := by rfl) (more : (backTo pos (starEach es X.env)).any (·.1) = false := by rfl) :
    PE X (.Call (.Name x q) (e :: es) [] pos) (tCallS (sp a c d) E t) := by
  constructor
  intro pins s σ H Q I had
  refine wpAny_Call_Name_kw (ld_glob I gl there ?_ nodebug)
  refine PySem.W.callWith_K (h₀ := X.base) I.ok.mod.kin kp (thn (args.run pos pins s σ H _ I had) ?_) one more
  rintro us s1 ⟨vs, G, I1, rel, told⟩
  obtain ⟨o, h1, inp, zc⟩ := hot
  have bnd := bi s1 us I1.kIn (by rw [List.append_nil, ← rel.length]; exact F.len _ _ _ _ _ _ _ told)
  rw [List.append_nil] at bnd
  obtain ⟨p1, p2, p3, p4, p5⟩ := I1.pin (a, o) (List.mem_append_left _ inp)
  have pin : PinOk X.stack G s1 (a, o) := ⟨p1, p2, fun z => (List.mem_cons.mp (I1.stkSub a z)).elim p3 p4, p5⟩
  refine ⟨I1.kIn, wpAny_call (codeAny_mono (F.run X.A X.stack s1 G ⟨us, []⟩ us vs Q (E σ) (a, o) c d room h1 pin zc I1.env0 bnd rel told) fun r s2 h2 => ?_)⟩
  match r, h2 with
  | .error er, h2 => exact pass σ pins G s1 er s2 I1 h2
  | .ok (.ret u), h2 => exact I1.after h2
  | .ok .next, h2 => exact h2.elim
  | .ok .brk, h2 => exact h2.elim
  | .ok .cont, h2 => exact h2.elim
end
/-- isinstance(e, c), e the exception that the context bears -/
theorem call_isP {X : Cx} {K : PySem.W.Frag} {a : Addr} {cls : Value} {d : Option Addr} (hK : X.K = K) (hot : HotP X a cls d) : CallR X (.builtin "isinstance") (rIsS2 K a cls d) := by
  subst hK
  rintro pins s σ H _ us Q I rel ⟨C, c, u, b, rfl, rfl, kind, D, isC, ans, goal⟩
  obtain ⟨u1, u2, rfl, r1, r2⟩ := vals2 rel
  cases isC.eq r2
  cases (show u1 = Value.ref a from r1)
  obtain ⟨o, ⟨_, vs, hv, _⟩, inp, zc1, zc2⟩ := hot
  have here : s.heap.get? a = some o := (I.pin (a, o) (List.mem_append_left _ inp)).1
  have nc : PySem.W.notCls o = true := by
    unfold PySem.W.notCls
    rw [show o.data = .fields vs from hv]
  rcases kind with rfl | ⟨dd, fs, rfl, there⟩
  · have J : PySem.W.InstAt s.heap a o C none := ⟨here, zc1, nc, by rw [zc2]; trivial⟩
    exact PySem.W.kia_one (kitX_err D) I.kIn J ans (fun z => nomatch z) fun tk => ⟨.bl b, H, I.kept (t' := tk) fun _ _ z => z, rfl, goal⟩
  · have hx : ObjOk X.prog X.w H s.heap dd (.xd fs) := I.hok dd _ there
    obtain ⟨mA, hns, _⟩ := hx
    obtain ⟨od, ho, _⟩ := lookIn_ns hns
    have J : PySem.W.InstAt s.heap a o C (some od) := ⟨here, zc1, nc, by rw [zc2]; exact ho⟩
    exact PySem.W.kia_one (kitX_err D) I.kIn J ans (fun z => nomatch z) fun tk => ⟨.bl b, H, I.kept (t' := tk) fun _ _ z => z, rfl, goal⟩
end HotE

namespace StK
open PySem PySem.Spec PyProof.Rows L2 StX
section
variable {X : Cx} {CX : CXT} {k : Nat} {f : Addr} {sp : Sp} {E : L2.St → XK} {x : Str} {p pos : Pos} {e : Expr} {es : List Expr} {t : TA}
/-- f(e, ..) of a def that may raise and is told of its values alone -/
theorem pe_callRS (F : FnR X.prog X.w X.K X.mg X.base CX k f sp) (room : Room k X.A) (gl : Gl X x) (there : X.mg x = some (.ref f)) (kp : PySem.W.keepIn X.K (.ref f) = true) (pass : ∀ σ, PassesAt CX X σ (E σ))
    (ha : PA X (e :: es) t) (nd : (x == ("__debug__" : Str)) = false := by decide) (st : starEach (e :: es) X.env = (false, eval e X.env) :: starEach es X.env := by rfl) (pl : (backTo pos (starEach es X.env)).any (·.1) = false := by rfl) :
    PE X (.Call (.Name x p) (e :: es) [] pos) (tCallS sp E t) := by
  constructor
  intro pins s σ H Q I had
  refine wpAny_Call_Name_kw (ld_glob I gl there ?_ nd)
  refine PySem.W.callWith_K (h₀ := X.base) I.ok.mod.kin kp (thn (ha.run pos pins s σ H _ I had) ?_) st pl
  rintro us s1 ⟨vs, H1, I1, r, g1⟩
  refine ⟨I1.kIn, wpAny_call (codeAny_mono (F X.A X.stack s1 H1 us vs Q (E σ) room I1.env0 r g1) fun out s' h' => ?_)⟩
  match out, h' with
  | .error e, h' => exact pass σ pins H1 s1 e s' I1 h'
  | .ok (.ret u), h' => exact I1.after h'
  | .ok .next, h' => exact h'.elim
  | .ok .brk, h' => exact h'.elim
  | .ok .cont, h' => exact h'.elim
theorem pe_callRS0 (F : FnR X.prog X.w X.K X.mg X.base CX k f sp) (room : Room k X.A) (gl : Gl X x) (there : X.mg x = some (.ref f)) (kp : PySem.W.keepIn X.K (.ref f) = true) (pass : ∀ σ, PassesAt CX X σ (E σ))
    (nd : (x == ("__debug__" : Str)) = false := by decide) : PE X (.Call (.Name x p) [] [] pos) (tCallS sp E tNil) := by
  constructor
  intro pins s σ H Q I had
  refine wpAny_Call_Name_kw (ld_glob I gl there (PySem.W.callWith_K0 I.kIn kp ?_) nd)
  refine wpAny_call (codeAny_mono (F X.A X.stack s H [] [] Q (E σ) room I.env0 .nil had) fun out s' h' => ?_)
  match out, h' with
  | .error e, h' => exact pass σ pins H s e s' I h'
  | .ok (.ret u), h' => exact I.after h'
  | .ok .next, h' => exact h'.elim
  | .ok .brk, h' => exact h'.elim
  | .ok .cont, h' => exact h'.elim
end
end StK
namespace RvT
open PySem PySem.Spec PyProof.Rows L2
theorem op_notInTK {X : Cx} {K : PySem.W.Frag} (h : X.K = K) (room : X.A.units + 65 < cLine) : OpR X (compareOp .NotIn) (rNotInT K) := by
  subst h
  exact op_notInT room
end RvT

/-! xs[::-1] of a list; x in d as a test -/
namespace StK
open PySem PySem.Spec PyProof.Rows L2
section
variable {X : Cx} {e st : Expr} {te tk : TE} {pos p2 : Pos}
def tBack (K : PySem.W.Frag) (te tk : TE) : TE := fun σ H Q => te σ H fun x H1 => tk σ H1 fun z H2 => z = .int (-1) ∧ ∃ a xs, x = .ref a ∧ SqL K H2 a xs ∧ ∀ p, H2 p = none → Q (.ref p) (upd H2 p (.lst xs.reverse))
theorem pe_back (he : PE X e te) (hk : PE X st tk) : PE X (.Subscript e (.Slice none none (some st) p2) pos) (tBack X.K te tk) := by
  refine ⟨fun pins s σ H Q I h => Subscript_ (thn (he.run pins s σ H _ I h) ?_)⟩
  rintro v s1 ⟨x, H1, I1, r1, q1⟩
  refine wpAny_Slice ?_
  rw [evalPart_none]
  refine wpAny_pure (wpAny_pure ?_)
  rw [evalPart_some]
  refine thn (hk.run pins s1 σ H1 _ I1 q1) ?_
  rintro vk s3 ⟨z, H3, I3, rz, rfl, a, xs, rfl, hx, q⟩
  cases r1
  obtain ⟨tk3, rfl⟩ : ∃ t, vk = .int (-1) t := by
    obtain ⟨t, e⟩ := rz
    exact ⟨t, e⟩
  have I4 : Inv X pins σ H3 { s3 with heap := s3.heap.push { cls := .type "slice", data := .fields #[.none, .none, .int (-1) tk3] } } := I3.kept (t' := s3.toks) fun b ob g => Heap.get?_push_of_some _ g
  obtain ⟨its, r, ht, hz⟩ := I4.list hx
  have rl := r.length
  have sl : ({ s3 with heap := s3.heap.push { cls := .type "slice", data := .fields #[.none, .none, .int (-1) tk3] } } : Shared).heap.IsSliceOf s3.heap.objs.size .none .none (.int (-1) tk3) := Heap.IsSliceOf.new ..
  refine tail_any (T := "list") (ops := [.ref a, .ref s3.heap.objs.size]) ht.isList.typeIs slot_list_getitem.lookup ?_ rfl
  refine wpAny_getItem_list_slice ht.isList sl .none .none (.int _ _) (by decide) ?_ (by rw [List.size_toArray]; omega)
  rw [PySem.W.krv_pick]
  refine ⟨.ref _, _, I4.laid (t' := s3.toks) (o := .lst xs.reverse) (fun b ob g => Heap.get?_push_of_some _ g) (Nat.le_refl _) ?_, rfl, q _ (I4.hok.fresh (Nat.le_refl _))⟩
  exact ⟨by rw [List.length_reverse]; omega, _, 0, r.reverse, Heap.get?_push_size _ rfl⟩
end
end StK

/-! data of one shape: <, <= and sorted; xs[:0:-1]; C(e, ..) that may raise -/
namespace DaS
open PySem PySem.Spec PyProof.Rows PySem.W L2
/-- two things of one shape, compared -/
def Two (K : PySem.W.Frag) (H : Hp) (x y : V) (d e : PyData) : Prop := Dp K H x d ∧ Dp K H y e ∧ alike d e = true ∧ d ≠ .none ∧ d.depth ≤ 64
def rLeD (K : PySem.W.Frag) : R2 := fun x y H Q => ∃ d e, Two K H x y d e ∧ Q (.bl (!dataLt e d)) H
def rLtD (K : PySem.W.Frag) : R2 := fun x y H Q => ∃ d e, Two K H x y d e ∧ Q (.bl (dataLt d e)) H
section
variable {X : Cx}
theorem op_leD (room : X.A.units + 64 < cLine) : OpR X (compareOp .LtE) (rLeD X.K) := by
  rintro pins s σ H x y v u Q I rx ry ⟨d, e, ⟨hd, he, al, nn, dp⟩, q⟩
  obtain ⟨as, reads1⟩ := Dp.reads I d x v hd rx
  obtain ⟨bs, reads2⟩ := Dp.reads I e y u he ry
  exact le_data reads1 reads2 al nn (by omega) ⟨.bl _, H, I, rfl, q⟩
theorem op_ltD (room : X.A.units + 64 < cLine) : OpR X (compareOp .Lt) (rLtD X.K) := by
  rintro pins s σ H x y v u Q I rx ry ⟨d, e, ⟨hd, he, al, nn, dp⟩, q⟩
  obtain ⟨as, reads1⟩ := Dp.reads I d x v hd rx
  obtain ⟨bs, reads2⟩ := Dp.reads I e y u he ry
  exact lt_data reads1 reads2 al nn (by omega) ⟨.bl _, H, I, rfl, q⟩
/-- sorted of a list of things of one shape -/
def rSortD (K : PySem.W.Frag) : List V → Hp → VK → Prop := fun vs H Q => ∃ (a : Addr) (bs : List (V × PyData)), vs = [.ref a] ∧ SqL K H a (bs.map Prod.fst) ∧ (∀ b ∈ bs, Dp K H b.1 b.2 ∧ b.2.depth ≤ 60) ∧ AllAlike (bs.map Prod.snd) ∧ Sortable (bs.map Prod.snd) ∧
  ∀ p, H p = none → Q (.ref p) (upd H p (.lst ((bs.mergeSort (dataLe false Prod.snd)).map Prod.fst)))
theorem each_vals {R : V × PyData → Prop} : ∀ {bs : List (V × PyData)} {us : List Value}, Vals (bs.map Prod.fst) us → (∀ b ∈ bs, R b) → EachIs (fun v b => RelV b.1 v ∧ R b) us bs
  | [], _, r, _ => by cases r; exact .nil
  | b :: bs, _, r, h => by
    cases r with
    | cons r1 r2 => exact .cons ⟨r1, h b (List.mem_cons_self ..)⟩ (each_vals r2 fun c hc => h c (List.mem_cons_of_mem _ hc))
theorem vals_each {R : V × PyData → Prop} : ∀ {bs : List (V × PyData)} {us : List Value}, EachIs (fun v b => RelV b.1 v ∧ R b) us bs → Vals (bs.map Prod.fst) us
  | _, _, .nil => .nil
  | _, _, .cons h t => .cons h.1 (vals_each t)
theorem each_mono {α β : Type} {R S : α → β → Prop} (h : ∀ a b, R a b → S a b) : ∀ {as : List α} {bs : List β}, EachIs R as bs → EachIs S as bs
  | _, _, .nil => .nil
  | _, _, .cons r t => .cons (h _ _ r) (each_mono h t)
theorem cr_sortD (room : X.A.units + 64 < cLine) : CallR X (.builtin "sorted") (rSortD X.K) := by
  rintro pins s σ H vs us Q I r ⟨a, bs, rfl, hs, hd, al, so, q⟩
  obtain ⟨its, rv, hl, hz⟩ := I.list hs
  rw [Vals.ref1 r]
  have ln : its.length = bs.length := by rw [← rv.length, List.length_map]
  rw [List.length_map] at hz
  have E1 := each_vals (R := fun b => b ∈ bs) rv fun b hb => hb
  refine sorted_data (enc := Prod.snd) hl.isList E1 (each_mono (fun v b rb => Dp.reads I b.2 b.1 v (hd b rb.2).1 rb.1) E1) al so hz (fun b hb => ?_) fun out lo eo => ?_
  · have := (hd b hb).2
    omega
  · obtain ⟨n, hn⟩ := sortedAll_at s.heap its out.toArray
    have rv2 := vals_each eo
    have kp : ∀ b o, s.heap.get? b = some o → (sortedAll s.heap its out.toArray).get? b = some o := fun b o e => sortedAll_old e
    have hz2 : ((bs.mergeSort (dataLe false Prod.snd)).map Prod.fst).length ≤ sizeLine := by
      rw [List.length_map, List.length_mergeSort]
      exact hz
    refine ⟨.ref (s.heap.objs.size + 1), upd H (s.heap.objs.size + 1) (.lst ((bs.mergeSort (dataLe false Prod.snd)).map Prod.fst)), I.laid (t' := s.toks) kp (Nat.le_succ _) ⟨hz2, out, n, rv2, hn⟩, rfl, q _ (I.hok.fresh (Nat.le_succ _))⟩
end
section
variable {X : Cx} {CX : CXT} {k : Nat} {f C : Addr} {fd : FuncData} {ps : List Str} {sp : Sp} {E : L2.St → XK} {x : Str} {p pos : Pos} {e : Expr} {es : List Expr} {t : TA}
/-- C(e, ..), its __init__ may raise -/
def tMakeP (C : Addr) (sp : Sp) (E : L2.St → XK) (t : TA) : TE := fun σ H Q => t σ H fun vs G => ∀ c dx, G c = none → G dx = none → dx ≠ c →
  sp (.ref c :: (vs ++ [])) (upd (upd G dx (.own c)) c (.ins C dx [])) (fun v G2 => v = .non ∧ Q (.ref c) G2) (E σ)
theorem pe_makeP (M : Mk X.K C f) (F : FnOk X.prog X.w X.K X.mg X.base CX k f fd ps sp) (room : Room (k + 1) X.A) (g : Gl X x) (m : X.mg x = some (.ref C)) (b : Binds X.K fd ps []) (pass : ∀ σ, PassesAt CX X σ (E σ)) (args : PA X (e :: es) t)
    (nodebug : (x == ("__debug__" : Str)) = false := by decide) (one : starEach (e :: es) X.env = (false, eval e X.env) :: starEach es X.env := by rfl) (more : (backTo pos (starEach es X.env)).any (·.1) = false := by rfl) :
    PE X (.Call (.Name x p) (e :: es) [] pos) (tMakeP C sp E t) := by
  constructor
  intro pins s σ H Q I had
  refine wpAny_Call_Name_kw (ld_glob I g m ?_ nodebug)
  refine PySem.W.callWith_K (h₀ := X.base) I.ok.mod.kin M.kp (thn (args.run pos pins s σ H _ I had) ?_) one more
  rintro us s1 ⟨vs, G, I1, rel, q⟩
  have free : ∀ c, s1.heap.objs.size ≤ c → G c = none := fun c le => I1.hok.fresh le
  have had1 := q (s1.heap.objs.size + 1) s1.heap.objs.size (free _ (Nat.le_succ _)) (free _ (Nat.le_refl _)) (Nat.ne_of_lt (Nat.lt_succ_self _))
  have I2 := Inv.made I1 (C := C)
  have rel2 : Vals (V.ref (s1.heap.objs.size + 1) :: (vs ++ [])) ((Value.ref (s1.heap.objs.size + 1) :: us) ++ []) := by
    rw [List.append_nil, List.append_nil]
    exact .cons rfl rel
  have len : ((Value.ref (s1.heap.objs.size + 1) :: us) ++ []).length = ps.length := by
    rw [← F.len _ _ _ _ had1]
    exact rel2.length.symm
  refine ⟨I1.kIn, wpAny_call (make_map (f := f) I1.kIn M.makes M.init (beq_iff_eq.mp M.fn) (codeAny_mono (F.run _ X.stack _ _ ⟨Value.ref (s1.heap.objs.size + 1) :: us, []⟩ ((Value.ref (s1.heap.objs.size + 1) :: us) ++ []) _ _ (E σ) (room.make C us [])
    (I2.env0.make C us []) (b _ _ I2.kIn len) rel2 had1) fun r s2 told => ?_))⟩
  match r, told with
  | .error er, told => exact pass σ pins _ _ er s2 I2 told
  | .ok (.ret u), told =>
    obtain ⟨v, G2, I3, ru, rfl, q2⟩ := I2.after told
    exact ⟨ru, V.ref (s1.heap.objs.size + 1), G2, I3, rfl, q2⟩
  | .ok .next, told => exact told.elim
  | .ok .brk, told => exact told.elim
  | .ok .cont, told => exact told.elim
end
end DaS
namespace DaS
open PySem PySem.Spec PyProof.Rows PySem.W L2
theorem low_range (n : Nat) : (List.range n).map (fun k => n - k) = ((List.range n).map (1 + ·)).reverse := by
  apply List.ext_getElem
  · simp
  · intro i h1 h2
    rw [List.length_map, List.length_range] at h1
    rw [List.getElem_map, List.getElem_range, List.getElem_reverse, List.getElem_map, List.getElem_range, List.length_map, List.length_range]
    omega
theorem low_bounds (n : Nat) : sliceBounds none (some 0) (some (-1)) n = ((n : Int) - 1, (if n = 0 then -1 else 0), -1) := by
  unfold sliceBounds
  show ((n : Int) - 1, max (-1) (min 0 ((n : Int) - 1)), (-1 : Int)) = _
  by_cases c : n = 0
  · rw [if_pos c, c]
    rfl
  · rw [if_neg c, show min (0 : Int) ((n : Int) - 1) = 0 by omega]
    rfl
theorem low_sliceRange (n : Nat) : sliceRange ((n : Int) - 1) (if n = 0 then -1 else 0) (-1) = (List.range (n - 1)).map fun k => n - 1 - k := by
  unfold sliceRange
  have h1 : ¬ ((-1 : Int) > 0) := by decide
  by_cases c : n = 0
  · subst c
    rfl
  · rw [if_neg c]
    by_cases h : (n : Int) - 1 > 0
    · have e : ((n : Int) - 1 - 0 - -1 - 1) / (- -1) = ((n - 1 : Nat) : Int) := by
        rw [show (- -1 : Int) = 1 by decide, Int.ediv_one]
        omega
      simp only [h1, if_false, h, if_true, e, Int.toNat_natCast]
      apply List.map_congr_left
      intro k hk
      have := List.mem_range.mp hk
      omega
    · have e : n = 1 := by omega
      subst e
      rfl
theorem low_pick (items : Array Value) : slicePick items none (some 0) (some (-1)) = items.toList.tail.reverse.toArray := by
  unfold slicePick
  rw [low_bounds]
  show ((sliceRange ((items.size : Int) - 1) (if items.size = 0 then -1 else 0) (-1)).filterMap (items[·]?)).toArray = _
  rw [low_sliceRange, low_range, List.filterMap_reverse, pick_run]
  congr 2
  rw [List.take_of_length_le (by rw [List.length_drop, Array.length_toList]; omega), List.drop_one]
section
variable {X : Cx} {e up st : Expr} {te tu tk : TE} {pos p2 : Pos}
/-- xs[:0:-1]: all but the first, backwards -/
def tLow (K : PySem.W.Frag) (te tu tk : TE) : TE := fun σ H Q => te σ H fun x H1 => tu σ H1 fun y H2 => y = .int 0 ∧ tk σ H2 fun z H3 => z = .int (-1) ∧ ∃ a xs, x = .ref a ∧ SqL K H3 a xs ∧ ∀ p, H3 p = none → Q (.ref p) (upd H3 p (.lst xs.tail.reverse))
theorem pe_low (he : PE X e te) (hu : PE X up tu) (hk : PE X st tk) : PE X (.Subscript e (.Slice none (some up) (some st) p2) pos) (tLow X.K te tu tk) := by
  refine ⟨fun pins s σ H Q I h => Subscript_ (thn (he.run pins s σ H _ I h) ?_)⟩
  rintro v s1 ⟨x, H1, I1, r1, q1⟩
  refine wpAny_Slice ?_
  rw [evalPart_none]
  refine wpAny_pure ?_
  rw [evalPart_some]
  refine thn (hu.run pins s1 σ H1 _ I1 q1) ?_
  rintro vu s2 ⟨y, H2, I2, ry, rfl, q2⟩
  rw [evalPart_some]
  refine thn (hk.run pins s2 σ H2 _ I2 q2) ?_
  rintro vk s3 ⟨z, H3, I3, rz, rfl, a, xs, rfl, hx, q⟩
  cases r1
  obtain ⟨tu3, rfl⟩ : ∃ t, vu = .int 0 t := by
    obtain ⟨t, e⟩ := ry
    exact ⟨t, e⟩
  obtain ⟨tk3, rfl⟩ : ∃ t, vk = .int (-1) t := by
    obtain ⟨t, e⟩ := rz
    exact ⟨t, e⟩
  have I4 : Inv X pins σ H3 { s3 with heap := s3.heap.push { cls := .type "slice", data := .fields #[.none, .int 0 tu3, .int (-1) tk3] } } := I3.kept (t' := s3.toks) fun b ob g => Heap.get?_push_of_some _ g
  obtain ⟨its, r, ht, hz⟩ := I4.list hx
  have rl := r.length
  have sl : ({ s3 with heap := s3.heap.push { cls := .type "slice", data := .fields #[.none, .int 0 tu3, .int (-1) tk3] } } : Shared).heap.IsSliceOf s3.heap.objs.size .none (.int 0 tu3) (.int (-1) tk3) := Heap.IsSliceOf.new ..
  refine tail_any (T := "list") (ops := [.ref a, .ref s3.heap.objs.size]) ht.isList.typeIs slot_list_getitem.lookup ?_ rfl
  refine wpAny_getItem_list_slice ht.isList sl .none (.int _ _) (.int _ _) (by decide) ?_ (by rw [List.size_toArray]; omega)
  rw [low_pick]
  have r' : Vals xs.tail its.tail := by
    cases r with
    | nil => exact .nil
    | cons _ r2 => exact r2
  refine ⟨.ref _, _, I4.laid (t' := s3.toks) (o := .lst xs.tail.reverse) (fun b ob g => Heap.get?_push_of_some _ g) (Nat.le_refl _) ?_, rfl, q _ (I4.hok.fresh (Nat.le_refl _))⟩
  exact ⟨by rw [List.length_reverse, List.length_tail]; omega, _, 0, r'.reverse, Heap.get?_push_size _ rfl⟩
end
end DaS

/-! sorted of a tuple of data of one shape -/
namespace DaS
open PySem PySem.Spec PyProof.Rows PySem.W PySem.Calls L2
section
variable {X : Cx}
def rSortT (K : PySem.W.Frag) : List V → Hp → VK → Prop := fun vs H Q => ∃ (a : Addr) (bs : List (V × PyData)), vs = [.ref a] ∧ SqT K H a (bs.map Prod.fst) ∧ (∀ b ∈ bs, Dp K H b.1 b.2 ∧ b.2.depth ≤ 60) ∧ AllAlike (bs.map Prod.snd) ∧ Sortable (bs.map Prod.snd) ∧
  ∀ p, H p = none → Q (.ref p) (upd H p (.lst ((bs.mergeSort (dataLe false Prod.snd)).map Prod.fst)))
theorem cr_sortT (room : X.A.units + 64 < cLine) : CallR X (.builtin "sorted") (rSortT X.K) := by
  rintro pins s σ H vs us Q I r ⟨a, bs, rfl, hs, hd, al, so, q⟩
  obtain ⟨its, rv, hl, hz⟩ := I.tuple hs
  rw [Vals.ref1 r]
  have ln : its.length = bs.length := by rw [← rv.length, List.length_map]
  rw [List.length_map] at hz
  have E1 := each_vals (R := fun b => b ∈ bs) rv fun b hb => hb
  obtain ⟨o, ho, hc, n, hdat⟩ := hl
  refine call_function_entry kind_sorted plain_sorted entry_sorted (args_sorted1 _) ?_
  unfold Builtin.«sorted»
  refine wpAny_bind (m := checkCount "sorted" 1 1 _) (wpAny_pure ?_)
  refine wpAny_bind (wpAny_collect_seq a (.inr rfl) ho hc hdat (fun h' kp => ?_) (by rw [List.size_toArray, ln]; exact hz))
  refine wpAny_bind (wpAny_newList ?_ (by show its.length ≤ _; rw [ln]; exact hz))
  have e2 : its.toArray.toList = its := rfl
  show wpAny _ X.A.in1 _ _ _ { s with heap := h'.push (seqObj "list" its.toArray 0) }
  have hD : (h'.push (seqObj "list" its.toArray 0)).get? h'.objs.size = some (seqObj "list" its.toArray 0) := Heap.get?_push_size _ rfl
  have old : ∀ b o, s.heap.get? b = some o → b ≠ h'.objs.size ∧ (h'.push (seqObj "list" its.toArray 0)).get? b = some o := fun b o e =>
    ⟨Nat.ne_of_lt (Heap.lt_size (kp b o e)), Heap.get?_push_of_some _ (kp b o e)⟩
  have er : EachIs (fun v b => ∃ as, Reads (sortingHeap (h'.push (seqObj "list" its.toArray 0)) h'.objs.size its) v b.2 as) its bs := each_mono (fun v b rb => by
    obtain ⟨as, r⟩ := Dp.reads I b.2 b.1 v (hd b rb.2).1 rb.1
    exact ⟨as, PyProof.Rows.Reads.keeps (fun b o e => sortingHeap_old (old b o e).1 (old b o e).2) r⟩) E1
  have run : wpAny (model X.prog X.w) X.A.in1 (call (.builtin "list.sort") [.ref h'.objs.size]) (fun _ s' => s' = { s with heap := sortedHeap (h'.push (seqObj "list" its.toArray 0)) h'.objs.size its (sortVals (dataKind (sortingHeap (h'.push (seqObj "list" its.toArray 0)) h'.objs.size its) (bs.map Prod.snd)) false its its).toArray }) X.xe { s with heap := h'.push (seqObj "list" its.toArray 0) } :=
    wpAny_call_entry slot_list_sort ⟨_, hD, rfl⟩ entry_list_sort (list_sort_vals (κ := dataKind (sortingHeap (h'.push (seqObj "list" its.toArray 0)) h'.objs.size its) (bs.map Prod.snd)) hD
      (SortsAt.data (s := { s with heap := sortingHeap (h'.push (seqObj "list" its.toArray 0)) h'.objs.size its }) (each_map (R := fun v d => ∃ as, Reads (sortingHeap (h'.push (seqObj "list" its.toArray 0)) h'.objs.size its) v d as) Prod.snd er) al so (bound_map fun b hb => by
        have := (hd b hb).2
        show X.A.units + 1 + 1 + b.2.depth < cLine
        omega)) (by rw [ln]; exact hz) ⟨.none, rfl, rfl⟩) (args_list_sort _)
  refine wpAny_bind (wpAny_holding (wpAny_mono run (fun _ s' x => ?_) fun _ _ e => e))
  subst x
  refine wpAny_pure ⟨_, rfl, ?_⟩
  obtain ⟨m, hm⟩ := sortedHeap_at (out := (sortVals (dataKind (sortingHeap (h'.push (seqObj "list" its.toArray 0)) h'.objs.size its) (bs.map Prod.snd)) false its its).toArray) hD
  have rs := vals_each (sortVals_data (enc := Prod.snd) false E1 er al)
  have hz2 : ((bs.mergeSort (dataLe false Prod.snd)).map Prod.fst).length ≤ sizeLine := by
    rw [List.length_map, List.length_mergeSort]
    exact hz
  have I1 : Inv X pins σ H { s with heap := h' } := I.kept (t' := s.toks) kp
  exact ⟨.ref h'.objs.size, upd H h'.objs.size (.lst ((bs.mergeSort (dataLe false Prod.snd)).map Prod.fst)), I1.laid (t' := s.toks) (fun b o e => by rw [sortedHeap_old (Nat.ne_of_lt (Heap.lt_size e)) (Heap.lt_size (Heap.get?_push_of_some _ e))]; exact Heap.get?_push_of_some _ e) (Nat.le_refl _) ⟨hz2, _, m, rs, hm⟩, rfl, q _ (I1.hok.fresh (Nat.le_refl _))⟩
end
end DaS

/-! a walk over zip of four lists of one length: by a loop lemma over the iterators -/
namespace RZ4
open PySem PySem.Spec PyProof.Rows L2
/-- a for loop over a list that never leaves early -/
theorem forIn_all {α β : Type} {M : Model} {A : Around} {E : Value → Shared → Prop} {F : α → β → Sem (ForInStep β)} {b : β} {Q : β → Shared → Prop} (J : List α → Shared → Prop)
    (step : ∀ x xs s, J (x :: xs) s → wpAny M A (F x b) (fun r s' => r = .yield b ∧ J xs s') E s) : ∀ (l : List α) (s : Shared), J l s → (∀ s', J [] s' → Q b s') → wpAny M A (forIn l b F) Q E s
  | [], s, j, q => by
    rw [List.forIn_nil]
    exact wpAny_pure (q s j)
  | x :: xs, s, j, q => by
    rw [List.forIn_cons]
    refine wpAny_bind (thn (step x xs s j) fun r s' ⟨e, j'⟩ => ?_)
    subst e
    exact forIn_all J step xs s' j' q
abbrev Tup4 (h : Heap) (T : Addr) (xs : Array Value) : Prop := h.get? T = some { cls := .type "tuple", data := .seq xs }
/-- the cells of a zip over iterators (js: iterator, list) lie apart -/
structure Sep (zp TI TO : Addr) (js : List (Addr × Addr)) : Prop where
  iz : TI ≠ zp
  oz : TO ≠ zp
  io : TI ≠ TO
  ti : ∀ j ∈ js, TI ≠ j.1
  z1 : ∀ j ∈ js, zp ≠ j.1
  z2 : ∀ j ∈ js, zp ≠ j.2
  o1 : ∀ j ∈ js, TO ≠ j.1
  o2 : ∀ j ∈ js, TO ≠ j.2
  nd : (js.map Prod.fst).Nodup
  ap : ∀ j ∈ js, ∀ k ∈ js, j.2 ≠ k.1
/-- the list j of lists at its i-th item -/
def At (h : Heap) (j : Addr × Addr) (v : Array Value) (i : Nat) : Prop := h.IsListIter j.1 j.2 i ∧ h.IsList j.2 v
theorem At.keep {h h' : Heap} {j : Addr × Addr} {v : Array Value} {i : Nat} (a : At h j v i) (k1 : ∀ o, h.get? j.1 = some o → h'.get? j.1 = some o) (k2 : ∀ o, h.get? j.2 = some o → h'.get? j.2 = some o) : At h' j v i :=
  ⟨a.1.at k1, a.2.at k2⟩
section
variable {prog : Program} {w : World} {A : Around} {E : Value → Shared → Prop} {s : Shared} {zp TI TO : Addr} {js : List (Addr × Addr)} {vs : List (Array Value)} {i n : Nat}
/-- in a turn: q iterators have told their item -/
structure Mid (zp TI TO : Addr) (js : List (Addr × Addr)) (vs : List (Array Value)) (i : Nat) (hp0 h : Heap) (q : Nat) : Prop where
  zz : IsZip h zp TI TO .ellipsis
  sz : h.objs.size = hp0.objs.size
  out : ∃ xs : Array Value, Tup4 h TO xs ∧ xs.size = js.length ∧ ∀ (p : Nat) (v : Array Value), p < q → vs[p]? = some v → v[i]? = xs[p]?
  its : ∀ (p : Nat) (j : Addr × Addr) (v : Array Value), js[p]? = some j → vs[p]? = some v → At h j v (if p < q then i + 1 else i)
  kept : ∀ c o, c ≠ zp → c ≠ TO → c ∉ js.map Prod.fst → hp0.get? c = some o → h.get? c = some o
theorem next_item {Q : Value → Shared → Prop} (calm : A.handled = none) (S : Sep zp TI TO js) (lv : vs.length = js.length) (few : js.length ≤ 4) (hz0 : IsZip s.heap zp TI TO .none) (hI : Tup4 s.heap TI (js.map fun j => Value.ref j.1).toArray) {xs0 : Array Value} (hO : Tup4 s.heap TO xs0) (x0 : xs0.size = js.length) (ne : js ≠ [])
    (at_ : ∀ (p : Nat) (j : Addr × Addr) (v : Array Value), js[p]? = some j → vs[p]? = some v → At s.heap j v i ∧ i < v.size)
    (hQ : ∀ (xs : Array Value) (h' : Heap) (tk : Tok), xs.size = js.length → (∀ (p : Nat) (v : Array Value), vs[p]? = some v → v[i]? = xs[p]?) → IsZip h' zp TI TO (rawInt s.heap.objs.size) → Tup4 h' TO xs → (∀ (p : Nat) (j : Addr × Addr) (v : Array Value), js[p]? = some j → vs[p]? = some v → At h' j v (i + 1)) → Tup4 h' s.heap.objs.size xs → h'.objs.size = s.heap.objs.size + 1 →
      (∀ c o, c ≠ zp → c ≠ TO → c ∉ js.map Prod.fst → s.heap.get? c = some o → h'.get? c = some o) → Q (.ref s.heap.objs.size) { s with heap := h', toks := tk }) :
    wpAny (model prog w) A (Builtin.«zip.__next__» ⟨[.ref zp], []⟩) (fun fin s' => ∃ v, fin = .done (.ret v) ∧ Q v s') E s := by
  obtain ⟨hp0, g, d, tk0, os⟩ := s
  show wpAny _ _ (field (.ref zp) 2 >>= _) _ _ _
  refine wpAny_bind (wpAny_field hz0 rfl (x := .bool false) rfl ?_)
  refine wpAny_bind (wpAny_field hz0 rfl (x := .ref TI) rfl ?_)
  refine wpAny_bind (wpAny_seqItems hI rfl ?_)
  have em : (js.map fun j => Value.ref j.1).toArray.isEmpty = false := by
    cases js with
    | nil => exact absurd rfl ne
    | cons a b => simp
  simp only [em, if_false, Bool.false_eq_true]
  show wpAny _ _ (Builtin.SmallTypes.ownedTupleIsFree (.ref zp) >>= _) _ _ _
  refine wpAny_bind ?_; unfold Builtin.SmallTypes.ownedTupleIsFree
  refine wpAny_bind (wpAny_field hz0 rfl (x := .none) rfl (wpAny_pure ?_))
  simp only [if_true]
  refine wpAny_bind (wpAny_rule ?_)
  refine wpAny_bind (wpAny_field hz0 rfl (x := .ref TO) rfl ?_)
  refine wpAny_bind (wpAny_setField_rec hz0 (by simp) fun g0 hz1 hs0 => ?_)
  replace hz1 : IsZip g0 zp TI TO .ellipsis := hz1
  replace hs0 : Heap.SameBut zp hp0 g0 := hs0
  refine wpAny_bind ?_
  refine forIn_all (fun rest s' => ∃ q h tk, rest = ((js.map fun j => Value.ref j.1).zipIdx).drop q ∧ q ≤ js.length ∧ s' = ⟨h, g, d, tk, os⟩ ∧ Mid zp TI TO js vs i hp0 h q) ?_ _ _ ?_ ?_
  · rintro x rest s' ⟨q, h, tk, er, ql, rfl, M⟩
    have q2 : q < js.length := by
      rcases Nat.lt_or_ge q js.length with c | c
      · exact c
      · rw [List.drop_eq_nil_of_le (by rw [List.length_zipIdx, List.length_map]; exact c)] at er
        cases er
    rw [List.drop_eq_getElem_cons (by rw [List.length_zipIdx, List.length_map]; exact q2), List.getElem_zipIdx, List.getElem_map, Nat.zero_add] at er
    injection er with ex erest
    subst ex
    have jq : js[q]? = some js[q] := List.getElem?_eq_getElem q2
    have vq : vs[q]? = some (vs[q]'(by omega)) := List.getElem?_eq_getElem (by omega)
    generalize hj : js[q] = j at jq ⊢
    generalize vs[q]'(by omega) = v at vq
    have jm : j ∈ js := List.mem_of_getElem? jq
    have aq := M.its q j v jq vq
    rw [if_neg (Nat.lt_irrefl q)] at aq
    have iv := (at_ q j v jq vq).2
    refine wpAny_bind (wpAny_onRaise ?_)
    show wpAny _ _ (Builtin.SmallTypes.nextOf (.ref j.1) >>= _) _ _ ⟨h, g, d, tk, os⟩
    refine wpAny_bind ((Draws.list (prog := prog) (w := w) calm j.1 j.2 (S.ap j jm j jm) v).item i _ _ _ iv aq fun y p1 tk1 hy sn hp1 => wpAny_pure ?_)
    replace hp1 : Heap.SameBut j.1 h p1 := hp1
    obtain ⟨xs, hx, xsz, xv⟩ := M.out
    have hU : Tup4 p1 TO xs := hp1.extBut _ _ (S.o1 j jm) hx
    refine wpAny_bind (wpAny_seqItems (s := ⟨p1, g, d, tk1, os⟩) hU rfl ?_)
    refine wpAny_bind (wpAny_updateSeq (s := ⟨p1, g, d, tk1, os⟩) hU rfl ?_ (by rw [xsz]; exact Nat.le_trans few (by decide)) (by rw [Array.size_setIfInBounds, xsz]; exact Nat.le_trans few (by decide)))
    refine wpAny_bind (wpAny_letGo (wpAny_pure ⟨rfl, q + 1, _, tk1, erest, q2, rfl, ?_⟩))
    have same : Heap.SameBut TO p1 (p1.update TO (Obj.mapSeq fun a => a.setIfInBounds q y)) := Heap.SameBut.update ..
    have hN : Tup4 (p1.update TO (Obj.mapSeq fun a => a.setIfInBounds q y)) TO (xs.setIfInBounds q y) := by
      show Heap.get? _ _ = _
      rw [Heap.get?_update_self _ hU rfl]
      simp [Obj.mapSeq]
    show Mid zp TI TO js vs i hp0 (p1.update TO (Obj.mapSeq fun a => a.setIfInBounds q y)) (q + 1)
    generalize p1.update TO (Obj.mapSeq fun a => a.setIfInBounds q y) = h2 at same hN ⊢
    refine ⟨same.extBut _ _ S.oz.symm (hp1.extBut _ _ (S.z1 j jm) M.zz), by rw [same.1, hp1.1, M.sz], ⟨_, hN, by rw [Array.size_setIfInBounds, xsz], fun p u pl hu => ?_⟩, fun p k u hk hu => ?_, fun c o c1 c2 c3 ho => ?_⟩
    · rw [Array.getElem?_setIfInBounds]
      by_cases e : q = p
      · subst e
        rw [if_pos rfl, if_pos (by rw [xsz]; exact q2)]
        rw [hu] at vq
        cases vq
        exact hy
      · rw [if_neg e]
        exact xv p u (by omega) hu
    · have km : k ∈ js := List.mem_of_getElem? hk
      by_cases e : p = q
      · subst e
        rw [hk] at jq
        cases jq
        rw [hu] at vq
        cases vq
        rw [if_pos (Nat.lt_succ_self _)]
        exact At.keep (h := p1) sn (fun o e => same.extBut _ _ (S.o1 _ jm).symm e) fun o e => same.extBut _ _ (S.o2 _ jm).symm e
      · have a0 := M.its p k u hk hu
        have e3 : (if p < q + 1 then i + 1 else i) = (if p < q then i + 1 else i) := by
          by_cases c : p < q
          · rw [if_pos c, if_pos (by omega)]
          · rw [if_neg c, if_neg (by omega)]
        rw [e3]
        have n1 : k.1 ≠ j.1 := fun zp => e (by
          have lp : p < (js.map Prod.fst).length := by
            rw [List.length_map]
            exact (List.getElem?_eq_some_iff.mp hk).1
          exact (List.getElem?_inj lp S.nd).mp (by rw [List.getElem?_map, List.getElem?_map, hk, jq]; exact congrArg some zp))
        exact At.keep a0 (fun o e => same.extBut _ _ (S.o1 k km).symm (hp1.extBut _ _ n1 e)) fun o e => same.extBut _ _ (S.o2 k km).symm (hp1.extBut _ _ (S.ap k km j jm) e)
    · exact same.extBut _ _ c2 (hp1.extBut _ _ (fun e => c3 (List.mem_map.mpr ⟨j, jm, e.symm⟩)) (M.kept c o c1 c2 c3 ho))
  · refine ⟨0, g0, tk0, by rw [List.drop_zero], Nat.zero_le _, rfl, hz1, hs0.1, ⟨xs0, hs0.extBut _ _ S.oz hO, x0, fun p v l => by omega⟩, fun p j v hj hv => ?_, fun c o c1 _ _ ho => hs0.extBut _ _ c1 ho⟩
    rw [if_neg (Nat.not_lt_zero _)]
    have jm : j ∈ js := List.mem_of_getElem? hj
    exact At.keep (at_ p j v hj hv).1 (fun o e => hs0.extBut _ _ (S.z1 j jm).symm e) fun o e => hs0.extBut _ _ (S.z2 j jm).symm e
  · rintro s' ⟨q, h, tk, er, ql, rfl, M⟩
    have qe : q = js.length := by
      have h1 := congrArg List.length er
      rw [List.length_drop, List.length_zipIdx, List.length_map] at h1
      have h1 : 0 = js.length - q := h1
      omega
    subst qe
    obtain ⟨xs, hx, xsz, xv⟩ := M.out
    refine wpAny_bind (wpAny_seqItems (s := ⟨h, g, d, tk, os⟩) hx rfl ?_)
    refine wpAny_bind (wpAny_newTuple ?_ (by show xs.toList.length ≤ sizeLine; rw [Array.length_toList, xsz]; exact Nat.le_trans few (by decide)))
    have eN : h.objs.size = hp0.objs.size := M.sz
    have zlt : zp < h.objs.size := Heap.lt_size M.zz
    show wpAny _ _ (Builtin.SmallTypes.ownedTupleHandOut (.ref zp) (.ref h.objs.size) >>= _) _ _ ⟨h.push { cls := .type "tuple", data := .seq xs }, g, d, tk, os⟩
    refine wpAny_bind ?_; unfold Builtin.SmallTypes.ownedTupleHandOut
    have w1 : IsZip (h.push { cls := .type "tuple", data := .seq xs }) zp TI TO .ellipsis := Heap.get?_push_of_some _ M.zz
    refine wpAny_bind (wpAny_setField_rec w1 (by simp) fun h1 w2 s1 => ?_)
    replace w2 : IsZip h1 zp TI TO (rawInt h.objs.size) := w2
    refine wpAny_setField_rec w2 (by simp) fun h2 w3 s2 => ?_
    replace w3 : IsZip h2 zp TI TO (rawInt h.objs.size) := w3
    replace s1 : Heap.SameBut zp (h.push { cls := .type "tuple", data := .seq xs }) h1 := s1
    replace s2 : Heap.SameBut zp h1 h2 := s2
    have up : ∀ c o, c ≠ zp → h.get? c = some o → h2.get? c = some o := fun c o cz e => s2.extBut _ _ cz (s1.extBut _ _ cz (Heap.get?_push_of_some _ e))
    have new : Tup4 h2 h.objs.size xs := s2.extBut _ _ (Nat.ne_of_gt zlt) (s1.extBut _ _ (Nat.ne_of_gt zlt) (Heap.get?_push_size _ rfl))
    have len : h2.objs.size = h.objs.size + 1 := by rw [s2.1, s1.1, Heap.size_push]
    rw [eN] at w3 new len
    refine wpAny_pure ⟨_, rfl, ?_⟩
    show Q (.ref h.objs.size) ⟨h2, g, d, tk, os⟩
    rw [eN]
    refine hQ xs h2 tk xsz (fun p v hv => xv p v (by rw [← lv]; exact (List.getElem?_eq_some_iff.mp hv).1) hv) w3 (up _ _ S.oz hx) (fun p j v hj hv => ?_) new len fun c o c1 c2 c3 ho => up c o c1 (M.kept c o c1 c2 c3 ho)
    have jm : j ∈ js := List.mem_of_getElem? hj
    have a0 := M.its p j v hj hv
    rw [if_pos (List.getElem?_eq_some_iff.mp hj).1] at a0
    exact At.keep a0 (fun o e => up _ _ (S.z1 j jm).symm e) fun o e => up _ _ (S.z2 j jm).symm e
theorem next_end {Q : Fin → Shared → Prop} (calm : A.handled = none) (S : Sep zp TI TO js) (few : js.length ≤ 4) (hz0 : IsZip s.heap zp TI TO .none) (hI : Tup4 s.heap TI (js.map fun j => Value.ref j.1).toArray)
    {j0 : Addr × Addr} {v0 : Array Value} (j0q : js[0]? = some j0) (a0 : At s.heap j0 v0 v0.size)
    (hE : ∀ (h' : Heap) (tk : Tok) (e : Addr), (∀ c o, c ≠ zp → c ≠ TO → c ∉ js.map Prod.fst → s.heap.get? c = some o → h'.get? c = some o) → (∃ o, h'.get? e = some o ∧ o.cls = .type "StopIteration") → E (.ref e) { s with heap := h', toks := tk }) :
    wpAny (model prog w) A (Builtin.«zip.__next__» ⟨[.ref zp], []⟩) Q E s := by
  obtain ⟨hp0, g, d, tk0, os⟩ := s
  have jm : j0 ∈ js := List.mem_of_getElem? j0q
  show wpAny _ _ (field (.ref zp) 2 >>= _) _ _ _
  refine wpAny_bind (wpAny_field hz0 rfl (x := .bool false) rfl ?_)
  refine wpAny_bind (wpAny_field hz0 rfl (x := .ref TI) rfl ?_)
  refine wpAny_bind (wpAny_seqItems hI rfl ?_)
  obtain ⟨rest, ejs⟩ : ∃ rest, js = j0 :: rest := by
    cases js with
    | nil => cases j0q
    | cons a b => cases j0q; exact ⟨b, rfl⟩
  have em : (js.map fun j => Value.ref j.1).toArray.isEmpty = false := by
    rw [ejs]
    simp
  simp only [em, if_false, Bool.false_eq_true]
  show wpAny _ _ (Builtin.SmallTypes.ownedTupleIsFree (.ref zp) >>= _) _ _ _
  refine wpAny_bind ?_; unfold Builtin.SmallTypes.ownedTupleIsFree
  refine wpAny_bind (wpAny_field hz0 rfl (x := .none) rfl (wpAny_pure ?_))
  simp only [if_true]
  refine wpAny_bind (wpAny_rule ?_)
  refine wpAny_bind (wpAny_field hz0 rfl (x := .ref TO) rfl ?_)
  refine wpAny_bind (wpAny_setField_rec hz0 (by simp) fun g0 hz1 hs0 => ?_)
  replace hz1 : IsZip g0 zp TI TO .ellipsis := hz1
  replace hs0 : Heap.SameBut zp hp0 g0 := hs0
  have lst : ((js.map fun j => Value.ref j.1).toArray.toList.zipIdx) = (Value.ref j0.1, 0) :: (rest.map fun j => Value.ref j.1).zipIdx 1 := by rw [ejs]; rfl
  rw [lst]
  refine wpAny_bind ?_
  rw [List.forIn_cons]
  refine wpAny_bind (wpAny_bind (wpAny_onRaise ?_))
  show wpAny _ _ (Builtin.SmallTypes.nextOf (.ref j0.1) >>= _) _ _ ⟨g0, g, d, tk0, os⟩
  refine wpAny_bind ((Draws.list (prog := prog) (w := w) calm j0.1 j0.2 (S.ap j0 jm j0 jm) v0).done ⟨g0, g, d, tk0, os⟩ _ _ (At.keep a0 (fun o e => hs0.extBut _ _ (S.z1 j0 jm).symm e) fun o e => hs0.extBut _ _ (S.z2 j0 jm).symm e) fun p e hq he => ?_)
  replace hq : Heap.ExtBut j0.1 g0 p := hq
  obtain ⟨oe, ho, hc⟩ := he
  replace ho : p.get? e = some oe := ho
  have w1 : IsZip p zp TI TO .ellipsis := hq _ _ (S.z1 j0 jm) hz1
  have nz : e ≠ zp := fun x => by
    subst x
    rw [w1] at ho
    cases ho
    simp at hc
  refine wpAny_setField_rec (s := ⟨p, g, d, tk0, os⟩) w1 (by simp) fun p2 _ s2 => ?_
  replace s2 : Heap.SameBut zp p p2 := s2
  exact hE p2 tk0 e (fun c o c1 c2 c3 x => s2.extBut _ _ c1 (hq _ _ (fun y => c3 (List.mem_map.mpr ⟨j0, jm, y.symm⟩)) (hs0.extBut _ _ c1 x))) ⟨oe, s2.extBut _ _ nz ho, hc⟩
end
section
variable {prog : Program} {w : World} {A : Around} {E : Value → Shared → Prop} {s : Shared} {zp TI TO : Addr} {js : List (Addr × Addr)} {vs : List (Array Value)} {i n : Nat}
theorem py_item {Q : Option Value → Shared → Prop} (calm : A.in1.handled = none) (S : Sep zp TI TO js) (lv : vs.length = js.length) (few : js.length ≤ 4) (hz0 : IsZip s.heap zp TI TO .none) (hI : Tup4 s.heap TI (js.map fun j => Value.ref j.1).toArray) {xs0 : Array Value} (hO : Tup4 s.heap TO xs0) (x0 : xs0.size = js.length) (ne : js ≠ [])
    (at_ : ∀ (p : Nat) (j : Addr × Addr) (v : Array Value), js[p]? = some j → vs[p]? = some v → At s.heap j v i ∧ i < v.size)
    (hQ : ∀ (xs : Array Value) (h' : Heap) (tk : Tok), xs.size = js.length → (∀ (p : Nat) (v : Array Value), vs[p]? = some v → v[i]? = xs[p]?) → IsZip h' zp TI TO (rawInt s.heap.objs.size) → Tup4 h' TO xs → (∀ (p : Nat) (j : Addr × Addr) (v : Array Value), js[p]? = some j → vs[p]? = some v → At h' j v (i + 1)) → Tup4 h' s.heap.objs.size xs → h'.objs.size = s.heap.objs.size + 1 →
      (∀ c o, c ≠ zp → c ≠ TO → c ∉ js.map Prod.fst → s.heap.get? c = some o → h'.get? c = some o) → Q (some (.ref s.heap.objs.size)) { s with heap := h', toks := tk }) :
    wpAny (model prog w) A (pyNext (.ref zp)) Q E s := by
  have ty : s.TypeIs (.ref zp) "zip" := ⟨_, hz0, rfl⟩
  unfold pyNext
  exact wpAny_bind (wpAny_attempt (wpAny_callSpecial?_slot (name := Str.ofString "__next__") ty F.slot_zip_next (wpAny_call_entry F.slot_zip_next ty F.entry_zip_next
      (next_item calm S lv few hz0 hI hO x0 ne at_ fun xs h' tk b1 b2 b3 b4 b5 b6 b7 b8 => wpAny_pure (hQ xs h' tk b1 b2 b3 b4 b5 b6 b7 b8)) (F.args_zip_next_1 _))))
theorem py_end {Q : Option Value → Shared → Prop} (calm : A.in1.handled = none) (S : Sep zp TI TO js) (few : js.length ≤ 4) (hz0 : IsZip s.heap zp TI TO .none) (hI : Tup4 s.heap TI (js.map fun j => Value.ref j.1).toArray)
    {j0 : Addr × Addr} {v0 : Array Value} (j0q : js[0]? = some j0) (a0 : At s.heap j0 v0 v0.size)
    (hQ : ∀ (h' : Heap) (tk : Tok), (∀ c o, c ≠ zp → c ≠ TO → c ∉ js.map Prod.fst → s.heap.get? c = some o → h'.get? c = some o) → Q none { s with heap := h', toks := tk }) : wpAny (model prog w) A (pyNext (.ref zp)) Q E s := by
  have ty : s.TypeIs (.ref zp) "zip" := ⟨_, hz0, rfl⟩
  unfold pyNext
  refine wpAny_bind (wpAny_attempt (wpAny_callSpecial?_slot (name := Str.ofString "__next__") ty F.slot_zip_next (wpAny_call_entry F.slot_zip_next ty F.entry_zip_next
    (next_end calm S few hz0 hI j0q a0 fun h' tk e kp ⟨o, ho, hc⟩ => ?_) (F.args_zip_next_1 _))))
  exact wpAny_bind (wpAny_isInstance (T := "StopIteration") (b := true) ⟨o, ho, hc⟩ isSubtype_stop (wpAny_pure (hQ _ _ kp)))
end
/-- four lists of one length as they stand, the items in new tuples -/
def It4 (K : PySem.W.Frag) (a b c d : Addr) : It where
  go i H := ∃ (xs ys zs ws : List V), SqL K H a xs ∧ SqL K H b ys ∧ SqL K H c zs ∧ SqL K H d ws ∧ ys.length = xs.length ∧ zs.length = xs.length ∧ ws.length = xs.length ∧ i < xs.length
  yld i H v H' := ∃ T x y z u, v = .ref T ∧ H T = none ∧ H' = upd H T (.tup [x, y, z, u]) ∧ (∀ xs, SqL K H a xs → xs[i]? = some x) ∧ (∀ ys, SqL K H b ys → ys[i]? = some y) ∧ (∀ zs, SqL K H c zs → zs[i]? = some z) ∧ ∀ ws, SqL K H d ws → ws[i]? = some u
  stop i H := ∃ (xs ys zs ws : List V), SqL K H a xs ∧ SqL K H b ys ∧ SqL K H c zs ∧ SqL K H d ws ∧ ys.length = i ∧ zs.length = i ∧ ws.length = i ∧ xs.length = i
abbrev cells4 (zp TI TO i1 i2 i3 i4 : Addr) : List Addr := [zp, TI, TO, i1, i2, i3, i4]
def Tn4 (a b c d zp TI TO i1 i2 i3 i4 : Addr) (i : Nat) (h : Heap) : Prop :=
  IsZip h zp TI TO .none ∧ Tup4 h TI #[.ref i1, .ref i2, .ref i3, .ref i4] ∧ (∃ xs : Array Value, Tup4 h TO xs ∧ xs.size = 4) ∧ h.IsListIter i1 a i ∧ h.IsListIter i2 b i ∧ h.IsListIter i3 c i ∧ h.IsListIter i4 d i
theorem turn4 {P : Program} {w : World} {K : PySem.W.Frag} {elts : List Expr} {kk : Nat} {tpos : Pos} {a b c d zp TI TO i1 i2 i3 i4 : Addr} (S : Sep zp TI TO [(i1, a), (i2, b), (i3, c), (i4, d)]) :
    Turn P w K (.Tuple elts kk tpos) (It4 K a b c d) (cells4 zp TI TO i1 i2 i3 i4) zp (Tn4 a b c d zp TI TO i1 i2 i3 i4) where
  mem := List.mem_cons_self
  obj i h st q hq := by
    obtain ⟨hz, hTI, ⟨xs, hTO, _⟩, ⟨o1, e1, _, d1⟩, ⟨o2, e2, _, d2⟩, ⟨o3, e3, _, d3⟩, ⟨o4, e4, _, d4⟩⟩ := st
    simp only [cells4, List.mem_cons, List.not_mem_nil, or_false] at hq
    rcases hq with rfl | rfl | rfl | rfl | rfl | rfl | rfl
    · exact ⟨_, hz, fun v e => nomatch e⟩
    · exact ⟨_, hTI, fun v e => nomatch e⟩
    · exact ⟨_, hTO, fun v e => nomatch e⟩
    · exact ⟨o1, e1, fun v e => by rw [d1] at e; cases e⟩
    · exact ⟨o2, e2, fun v e => by rw [d2] at e; cases e⟩
    · exact ⟨o3, e3, fun v e => by rw [d3] at e; cases e⟩
    · exact ⟨o4, e4, fun v e => by rw [d4] at e; cases e⟩
  keep i h h' st k := by
    obtain ⟨hz, hTI, ⟨xs, hTO, x4⟩, h1, h2, h3, h4⟩ := st
    exact ⟨k zp (by simp) _ hz, k TI (by simp) _ hTI, ⟨xs, k TO (by simp) _ hTO, x4⟩, h1.at fun o q => k i1 (by simp) o q, h2.at fun o q => k i2 (by simp) o q, h3.at fun o q => k i3 (by simp) o q, h4.at fun o q => k i4 (by simp) o q⟩
  item := by
    rintro X rfl rfl rfl calm i pins s σ H E I free st ⟨xs, ys, zs, ws, q1, q2, q3, q4, l2, l3, l4, lt⟩
    obtain ⟨hz, hTI, ⟨xs0, hTO, x4⟩, h1, h2, h3, h4⟩ := st
    obtain ⟨v1, r1, p1, _⟩ := I.list q1
    obtain ⟨v2, r2, p2, _⟩ := I.list q2
    obtain ⟨v3, r3, p3, _⟩ := I.list q3
    obtain ⟨v4, r4, p4, _⟩ := I.list q4
    have s1 : v1.toArray.size = xs.length := by rw [List.size_toArray, ← r1.length]
    have s2 : v2.toArray.size = ys.length := by rw [List.size_toArray, ← r2.length]
    have s3 : v3.toArray.size = zs.length := by rw [List.size_toArray, ← r3.length]
    have s4 : v4.toArray.size = ws.length := by rw [List.size_toArray, ← r4.length]
    have hh : X.A.in1.handled = none := I.ok.hd calm
    have zl : zp < s.heap.objs.size := Heap.lt_size hz
    refine py_item (vs := [v1.toArray, v2.toArray, v3.toArray, v4.toArray]) (i := i) hh S rfl (Nat.le_refl 4) hz hTI hTO x4 (by simp) (fun p j v hj hv => ?_) fun rs h' tk rsz rv zz o2 its tup sz kp => ?_
    · match p, hj, hv with
      | 0, hj, hv => cases hj; cases hv; exact ⟨⟨h1, p1.isList⟩, by omega⟩
      | 1, hj, hv => cases hj; cases hv; exact ⟨⟨h2, p2.isList⟩, by omega⟩
      | 2, hj, hv => cases hj; cases hv; exact ⟨⟨h3, p3.isList⟩, by omega⟩
      | 3, hj, hv => cases hj; cases hv; exact ⟨⟨h4, p4.isList⟩, by omega⟩
      | p + 4, hj, hv => cases hj
    obtain ⟨x1, x2, x3, x4, rfl⟩ : ∃ x1 x2 x3 x4 : Value, rs = #[x1, x2, x3, x4] := by
      obtain ⟨l⟩ := rs
      match l, rsz with
      | [x1, x2, x3, x4], _ => exact ⟨x1, x2, x3, x4, rfl⟩
    have g1 : v1.toArray[i]? = some x1 := rv 0 _ rfl
    have g2 : v2.toArray[i]? = some x2 := rv 1 _ rfl
    have g3 : v3.toArray[i]? = some x3 := rv 2 _ rfl
    have g4 : v4.toArray[i]? = some x4 := rv 3 _ rfl
    refine ⟨_, rfl, wpAny_letOwnedTupleGo_zip (s := { s with heap := h', toks := tk }) zz fun h'' z'' sb => ?_⟩
    have tup2 : h''.get? s.heap.objs.size = some { cls := .type "tuple", data := .seq #[x1, x2, x3, x4] } := (sb.2 _ (Nat.ne_of_gt zl)).trans tup
    obtain ⟨u1, e1, w1⟩ : ∃ u, xs[i]? = some u ∧ RelV u x1 := by
      have hx : xs[i]? = some xs[i] := List.getElem?_eq_getElem (by omega)
      obtain ⟨u, hu, ru⟩ := r1.get hx
      rw [← Array.getElem?_toList] at g1
      rw [show v1.toArray.toList = v1 from rfl, hu] at g1
      exact ⟨_, hx, Option.some.inj g1 ▸ ru⟩
    obtain ⟨u2, e2, w2⟩ : ∃ u, ys[i]? = some u ∧ RelV u x2 := by
      have hx : ys[i]? = some ys[i] := List.getElem?_eq_getElem (by omega)
      obtain ⟨u, hu, ru⟩ := r2.get hx
      rw [← Array.getElem?_toList] at g2
      rw [show v2.toArray.toList = v2 from rfl, hu] at g2
      exact ⟨_, hx, Option.some.inj g2 ▸ ru⟩
    obtain ⟨u3, e3, w3⟩ : ∃ u, zs[i]? = some u ∧ RelV u x3 := by
      have hx : zs[i]? = some zs[i] := List.getElem?_eq_getElem (by omega)
      obtain ⟨u, hu, ru⟩ := r3.get hx
      rw [← Array.getElem?_toList] at g3
      rw [show v3.toArray.toList = v3 from rfl, hu] at g3
      exact ⟨_, hx, Option.some.inj g3 ▸ ru⟩
    obtain ⟨u4, e4, w4⟩ : ∃ u, ws[i]? = some u ∧ RelV u x4 := by
      have hx : ws[i]? = some ws[i] := List.getElem?_eq_getElem (by omega)
      obtain ⟨u, hu, ru⟩ := r4.get hx
      rw [← Array.getElem?_toList] at g4
      rw [show v4.toArray.toList = v4 from rfl, hu] at g4
      exact ⟨_, hx, Option.some.inj g4 ▸ ru⟩
    have new : ObjOk X.prog X.w (upd H s.heap.objs.size (.tup [u1, u2, u3, u4])) h'' s.heap.objs.size (.tup [u1, u2, u3, u4]) :=
      ⟨by show 4 ≤ sizeLine; decide, [x1, x2, x3, x4], .cons w1 (.cons w2 (.cons w3 (.cons w4 .nil))), _, tup2, rfl, _, rfl⟩
    have kp2 : ∀ q o, q ∉ cells4 zp TI TO i1 i2 i3 i4 → s.heap.get? q = some o → h''.get? q = some o := fun q o nq e => by
      simp only [cells4, List.mem_cons, List.not_mem_nil, or_false, not_or] at nq
      exact (sb.2 q nq.1).trans (kp q o nq.1 nq.2.2.1 (by simp only [List.map_cons, List.map_nil, List.mem_cons, List.not_mem_nil, or_false, not_or]; exact nq.2.2.2) e)
    have I1 : Inv X pins σ (upd H s.heap.objs.size (.tup [u1, u2, u3, u4])) { s with heap := h'', toks := tk } := I.turnedNew (t' := tk) (ch := cells4 zp TI TO i1 i2 i3 i4) kp2 free (Nat.le_refl _) new
    refine ⟨.ref s.heap.objs.size, _, I1, rfl, ⟨_, u1, u2, u3, u4, rfl, I.hok.fresh (Nat.le_refl _), rfl, fun l hl => by rw [I.list_inj hl q1]; exact e1, fun l hl => by rw [I.list_inj hl q2]; exact e2, fun l hl => by rw [I.list_inj hl q3]; exact e3, fun l hl => by rw [I.list_inj hl q4]; exact e4⟩, ⟨z'', ?_, ⟨_, ?_, rsz⟩, ?_, ?_, ?_, ?_⟩, fun q hq => ?_⟩
    · refine (sb.2 _ S.iz).trans (kp _ _ S.iz S.io (fun m => ?_) hTI)
      obtain ⟨j, hj, e⟩ := List.mem_map.mp m
      exact S.ti j hj e.symm
    · exact (sb.2 _ S.oz).trans o2
    · exact (its 0 _ _ rfl rfl).1.at fun o e => (sb.2 _ (S.z1 (i1, a) (by simp)).symm).trans e
    · exact (its 1 _ _ rfl rfl).1.at fun o e => (sb.2 _ (S.z1 (i2, b) (by simp)).symm).trans e
    · exact (its 2 _ _ rfl rfl).1.at fun o e => (sb.2 _ (S.z1 (i3, c) (by simp)).symm).trans e
    · exact (its 3 _ _ rfl rfl).1.at fun o e => (sb.2 _ (S.z1 (i4, d) (by simp)).symm).trans e
    · have below : q < s.heap.objs.size := by
        simp only [cells4, List.mem_cons, List.not_mem_nil, or_false] at hq
        rcases hq with rfl | rfl | rfl | rfl | rfl | rfl | rfl
        · exact zl
        · exact Heap.lt_size hTI
        · exact Heap.lt_size hTO
        · obtain ⟨_, e, _⟩ := h1; exact Heap.lt_size e
        · obtain ⟨_, e, _⟩ := h2; exact Heap.lt_size e
        · obtain ⟨_, e, _⟩ := h3; exact Heap.lt_size e
        · obtain ⟨_, e, _⟩ := h4; exact Heap.lt_size e
      rw [upd_ne (Nat.ne_of_lt below)]
      exact (free q hq).1
  done := by
    rintro X rfl rfl rfl calm i pins s σ H E I free st ⟨xs, ys, zs, ws, q1, q2, q3, q4, l2, l3, l4, l1⟩
    obtain ⟨hz, hTI, ⟨xs0, hTO, x4⟩, h1, h2, h3, h4⟩ := st
    obtain ⟨v1, r1, p1, _⟩ := I.list q1
    have s1 : v1.toArray.size = i := by rw [List.size_toArray, ← r1.length, l1]
    have hh : X.A.in1.handled = none := I.ok.hd calm
    refine py_end (v0 := v1.toArray) hh S (Nat.le_refl 4) hz hTI rfl (by rw [s1]; exact ⟨h1, p1.isList⟩) fun h' tk kp => ⟨rfl, I.turnedL (t' := tk) (ch := cells4 zp TI TO i1 i2 i3 i4) (fun q o nq e => ?_) free⟩
    simp only [cells4, List.mem_cons, List.not_mem_nil, or_false, not_or] at nq
    exact kp q o nq.1 nq.2.2.1 (by simp only [List.map_cons, List.map_nil, List.mem_cons, List.not_mem_nil, or_false, not_or]; exact nq.2.2.2) e
  self A i s Q E st h := wpAny_pyIter_zip st.1 h
abbrev hT4 (h : Heap) (o1 o2 o3 o4 : Obj) : Heap := ((((h.push o1).push o2).push o3).push o4).push { cls := .type "tuple", data := .seq #[.ref h.objs.size, .ref (h.push o1).objs.size, .ref ((h.push o1).push o2).objs.size, .ref (((h.push o1).push o2).push o3).objs.size] }
abbrev hO4 (h : Heap) (o1 o2 o3 o4 : Obj) : Heap := (hT4 h o1 o2 o3 o4).push { cls := .type "tuple", data := .seq #[.none, .none, .none, .none] }
abbrev hZ4 (h : Heap) (o1 o2 o3 o4 : Obj) : Heap := (hO4 h o1 o2 o3 o4).push { cls := .type "zip", data := .fields #[.none, .bool false, .bool false, .ref ((((h.push o1).push o2).push o3).push o4).objs.size, .ref (hT4 h o1 o2 o3 o4).objs.size] }
theorem typeCall4 (a b c d : Value) : checkTypeCall "zip" ⟨[a, b, c, d], []⟩ = pure () := by kernel_rfl
theorem newCall4 (a b c d : Value) : checkBuiltinCall "zip.__new__" ⟨[.type "zip", a, b, c, d], []⟩ = pure () := by kernel_rfl
theorem initArgs5 (obj a b c d : Value) : argsOk "object.__init__" ⟨[obj, a, b, c, d], []⟩ := by unfold argsOk; kernel_rfl
theorem meets4 {v1 v2 v3 v4 : Value} {o1 o2 o3 o4 : Obj} {J1 J2 J3 J4 : Heap → Prop} (B1 : Begins v1 o1 J1) (B2 : Begins v2 o2 J2) (B3 : Begins v3 o3 J3) (B4 : Begins v4 o4 J4) :
    Meets (Builtin.«zip.__new__» ⟨[.type "zip", v1, v2, v3, v4], []⟩) (fun _ R s => (J1 s.heap ∧ J2 s.heap ∧ J3 s.heap ∧ J4 s.heap) ∧
      R (.ok (.ret (.ref (hO4 s.heap o1 o2 o3 o4).objs.size))) { s with heap := hZ4 s.heap o1 o2 o3 o4 }) :=
  .of_wp fun prog w A R s hh => by
    obtain ⟨h0, g, d, tk, os⟩ := s
    obtain ⟨⟨j1, j2, j3, j4⟩, hh⟩ := hh
    have hsub := sub_zip
    have q1 : ∀ {A' : Around} {E : Value → Shared → Prop} {Q : Value → Shared → Prop}, Q (.ref h0.objs.size) ⟨(h0.push o1), g, d, tk, os⟩ → wpAny (model prog w) A' (pyIter v1) Q E ⟨h0, g, d, tk, os⟩ :=
      fun q => B1.iter prog w _ _ ⟨h0, g, d, tk, os⟩ _ (B1.keeps _ _ j1 fun b o' e => e) q
    have q2 : ∀ {A' : Around} {E : Value → Shared → Prop} {Q : Value → Shared → Prop}, Q (.ref (h0.push o1).objs.size) ⟨((h0.push o1).push o2), g, d, tk, os⟩ → wpAny (model prog w) A' (pyIter v2) Q E ⟨(h0.push o1), g, d, tk, os⟩ :=
      fun q => B2.iter prog w _ _ ⟨(h0.push o1), g, d, tk, os⟩ _ (B2.keeps _ _ j2 fun b o' e => (Heap.get?_push_of_some _ e)) q
    have q3 : ∀ {A' : Around} {E : Value → Shared → Prop} {Q : Value → Shared → Prop}, Q (.ref ((h0.push o1).push o2).objs.size) ⟨(((h0.push o1).push o2).push o3), g, d, tk, os⟩ → wpAny (model prog w) A' (pyIter v3) Q E ⟨((h0.push o1).push o2), g, d, tk, os⟩ :=
      fun q => B3.iter prog w _ _ ⟨((h0.push o1).push o2), g, d, tk, os⟩ _ (B3.keeps _ _ j3 fun b o' e => (Heap.get?_push_of_some _ (Heap.get?_push_of_some _ e))) q
    have q4 : ∀ {A' : Around} {E : Value → Shared → Prop} {Q : Value → Shared → Prop}, Q (.ref (((h0.push o1).push o2).push o3).objs.size) ⟨((((h0.push o1).push o2).push o3).push o4), g, d, tk, os⟩ → wpAny (model prog w) A' (pyIter v4) Q E ⟨(((h0.push o1).push o2).push o3), g, d, tk, os⟩ :=
      fun q => B4.iter prog w _ _ ⟨(((h0.push o1).push o2).push o3), g, d, tk, os⟩ _ (B4.keeps _ _ j4 fun b o' e => (Heap.get?_push_of_some _ (Heap.get?_push_of_some _ (Heap.get?_push_of_some _ e)))) q
    wp_walk using q1, q2, q3, q4
    exact ⟨_, rfl, hh⟩
theorem begins4 {prog : Program} {w : World} {A : Around} {E : Value → Shared → Prop} {s : Shared} {v1 v2 v3 v4 : Value} {o1 o2 o3 o4 : Obj} {J1 J2 J3 J4 : Heap → Prop} {Q : Value → Shared → Prop} (B1 : Begins v1 o1 J1) (B2 : Begins v2 o2 J2) (B3 : Begins v3 o3 J3) (B4 : Begins v4 o4 J4) (j1 : J1 s.heap) (j2 : J2 s.heap) (j3 : J3 s.heap) (j4 : J4 s.heap)
    (h : ∀ h', IsZip h' (s.heap.objs.size + 6) (s.heap.objs.size + 4) (s.heap.objs.size + 5) .none → Tup4 h' (s.heap.objs.size + 4) #[.ref s.heap.objs.size, .ref (s.heap.objs.size + 1), .ref (s.heap.objs.size + 2), .ref (s.heap.objs.size + 3)] →
      Tup4 h' (s.heap.objs.size + 5) #[.none, .none, .none, .none] → h'.get? s.heap.objs.size = some o1 → h'.get? (s.heap.objs.size + 1) = some o2 → h'.get? (s.heap.objs.size + 2) = some o3 → h'.get? (s.heap.objs.size + 3) = some o4 →
      (∀ c o, s.heap.get? c = some o → h'.get? c = some o) → Q (.ref (s.heap.objs.size + 6)) { s with heap := h' }) :
    wpAny (model prog w) A (call (.type "zip") [v1, v2, v3, v4]) Q E s := by
  refine callType_new F.called_zip (by decide) (typeCall4 _ _ _ _) (newCall4 _ _ _ _) (fun obj => initArgs5 obj _ _ _ _) F.entry_zip_new (meets4 B1 B2 B3 B4) ⟨⟨j1, j2, j3, j4⟩, ?_⟩
  have k1 : (s.heap.push o1).objs.size = s.heap.objs.size + 1 := by rw [Heap.size_push]
  have k2 : ((s.heap.push o1).push o2).objs.size = s.heap.objs.size + 2 := by rw [Heap.size_push, k1]
  have k3 : (((s.heap.push o1).push o2).push o3).objs.size = s.heap.objs.size + 3 := by rw [Heap.size_push, k2]
  have k4 : ((((s.heap.push o1).push o2).push o3).push o4).objs.size = s.heap.objs.size + 4 := by rw [Heap.size_push, k3]
  have kT : (hT4 s.heap o1 o2 o3 o4).objs.size = s.heap.objs.size + 5 := by rw [Heap.size_push, k4]
  have kO : (hO4 s.heap o1 o2 o3 o4).objs.size = s.heap.objs.size + 6 := by rw [Heap.size_push, kT]
  have up : ∀ {h : Heap} {o o' : Obj} {c : Addr}, h.get? c = some o → (h.push o').get? c = some o := fun e => Heap.get?_push_of_some _ e
  have tZ : (hZ4 s.heap o1 o2 o3 o4).get? (hO4 s.heap o1 o2 o3 o4).objs.size = some { cls := .type "zip", data := .fields #[.none, .bool false, .bool false, .ref ((((s.heap.push o1).push o2).push o3).push o4).objs.size, .ref (hT4 s.heap o1 o2 o3 o4).objs.size] } := Heap.get?_push_size _ rfl
  have tO : (hZ4 s.heap o1 o2 o3 o4).get? (hT4 s.heap o1 o2 o3 o4).objs.size = some { cls := .type "tuple", data := .seq #[.none, .none, .none, .none] } := up (Heap.get?_push_size _ rfl)
  have tT : (hZ4 s.heap o1 o2 o3 o4).get? ((((s.heap.push o1).push o2).push o3).push o4).objs.size = some { cls := .type "tuple", data := .seq #[.ref s.heap.objs.size, .ref (s.heap.push o1).objs.size, .ref ((s.heap.push o1).push o2).objs.size, .ref (((s.heap.push o1).push o2).push o3).objs.size] } := up (up (Heap.get?_push_size _ rfl))
  have t1 : (hZ4 s.heap o1 o2 o3 o4).get? s.heap.objs.size = some o1 := up (up (up (up (up (up (Heap.get?_push_size _ B1.free))))))
  have t2 : (hZ4 s.heap o1 o2 o3 o4).get? (s.heap.push o1).objs.size = some o2 := up (up (up (up (up (Heap.get?_push_size _ B2.free)))))
  have t3 : (hZ4 s.heap o1 o2 o3 o4).get? ((s.heap.push o1).push o2).objs.size = some o3 := up (up (up (up (Heap.get?_push_size _ B3.free))))
  have t4 : (hZ4 s.heap o1 o2 o3 o4).get? (((s.heap.push o1).push o2).push o3).objs.size = some o4 := up (up (up (Heap.get?_push_size _ B4.free)))
  rw [kO, kT, k4] at tZ
  rw [kT] at tO
  rw [k4, k3, k2, k1] at tT
  rw [k1] at t2
  rw [k2] at t3
  rw [k3] at t4
  show _ ∧ _
  rw [kO]
  exact ⟨⟨_, tZ, rfl⟩, h _ tZ tT tO t1 t2 t3 t4 fun c o e => up (up (up (up (up (up (up e))))))⟩
def iZip4 (K : PySem.W.Frag) (ta : TA) : TI := fun σ H R => ta σ H fun vs H1 => ∃ a b c d xs ys zs ws, vs = [.ref a, .ref b, .ref c, .ref d] ∧ SqL K H1 a xs ∧ SqL K H1 b ys ∧ SqL K H1 c zs ∧ SqL K H1 d ws ∧ R (It4 K a b c d) H1
theorem pi_zip4 {X : Cx} {e e2 e3 e4 : Expr} {ta : TA} {p pos tpos : Pos} {elts : List Expr} {kk : Nat} (gl : Gl X "zip") (nm : X.mg "zip" = none) (args : PA X [e, e2, e3, e4] ta)
    (one : starEach [e, e2, e3, e4] X.env = (false, eval e X.env) :: starEach [e2, e3, e4] X.env := by rfl) (more : (backTo pos (starEach [e2, e3, e4] X.env)).any (·.1) = false := by rfl) :
    PI X (.Tuple elts kk tpos) (.Call (.Name "zip" p) [e, e2, e3, e4] [] pos) (iZip4 X.K ta) := by
  constructor
  intro pins s σ H R I had
  refine Call_ (ld_blt I gl nm PyProof.Rows.boot_zip (PyProof.Rows.callWith_type1 (thn (args.run pos pins s σ H _ I had) fun us s1 got => ?_) one more))
  obtain ⟨vs, H1, I1, rel, a, b, c, d, xs, ys, zs, ws, rfl, q1, q2, q3, q4, goal⟩ := got
  obtain ⟨u1, us, rfl, ra, rel⟩ : ∃ u us', us = u :: us' ∧ RelV (.ref a) u ∧ Vals [V.ref b, V.ref c, V.ref d] us' := by
    cases rel with
    | cons r rr => exact ⟨_, _, rfl, r, rr⟩
  obtain ⟨u2, us, rfl, rb, rel⟩ : ∃ u us', us = u :: us' ∧ RelV (.ref b) u ∧ Vals [V.ref c, V.ref d] us' := by
    cases rel with
    | cons r rr => exact ⟨_, _, rfl, r, rr⟩
  obtain ⟨u3, u4, rfl, rc, rd⟩ := vals2 rel
  cases (show u1 = Value.ref a from ra)
  cases (show u2 = Value.ref b from rb)
  cases (show u3 = Value.ref c from rc)
  cases (show u4 = Value.ref d from rd)
  obtain ⟨v1, r1, p1, _⟩ := I1.list q1
  obtain ⟨v2, r2, p2, _⟩ := I1.list q2
  obtain ⟨v3, r3, p3, _⟩ := I1.list q3
  obtain ⟨v4, r4, p4, _⟩ := I1.list q4
  have la := Nat.lt_of_lt_of_le p1.lt (Nat.le_refl _)
  have lb := Nat.lt_of_lt_of_le p2.lt (Nat.le_refl _)
  have lc := Nat.lt_of_lt_of_le p3.lt (Nat.le_refl _)
  have ld := Nat.lt_of_lt_of_le p4.lt (Nat.le_refl _)
  refine begins4 (begins_list a v1.toArray) (begins_list b v2.toArray) (begins_list c v3.toArray) (begins_list d v4.toArray) p1.isList p2.isList p3.isList p4.isList fun h' hz hTI hTO g1 g2 g3 g4 kp => wpAny_pyIter_zip hz ?_
  have I2 : Inv X pins σ H1 { s1 with heap := h' } := I1.kept (t' := s1.toks) kp
  have S : Sep (s1.heap.objs.size + 6) (s1.heap.objs.size + 4) (s1.heap.objs.size + 5) [(s1.heap.objs.size, a), (s1.heap.objs.size + 1, b), (s1.heap.objs.size + 2, c), (s1.heap.objs.size + 3, d)] := by
    have e4 : ∀ {p : Addr × Addr → Prop}, p (s1.heap.objs.size, a) → p (s1.heap.objs.size + 1, b) → p (s1.heap.objs.size + 2, c) → p (s1.heap.objs.size + 3, d) → ∀ j ∈ [(s1.heap.objs.size, a), (s1.heap.objs.size + 1, b), (s1.heap.objs.size + 2, c), (s1.heap.objs.size + 3, d)], p j := fun {p} y1 y2 y3 y4 j hj => by
      simp only [List.mem_cons, List.not_mem_nil, or_false] at hj
      rcases hj with rfl | rfl | rfl | rfl
      · exact y1
      · exact y2
      · exact y3
      · exact y4
    refine ⟨Nat.ne_of_lt (by omega), Nat.ne_of_lt (by omega), Nat.ne_of_lt (by omega), e4 (Nat.ne_of_gt (by omega)) (Nat.ne_of_gt (by omega)) (Nat.ne_of_gt (by omega)) (Nat.ne_of_gt (by omega)), e4 (Nat.ne_of_gt (by omega)) (Nat.ne_of_gt (by omega)) (Nat.ne_of_gt (by omega)) (Nat.ne_of_gt (by omega)), e4 (Nat.ne_of_gt (by omega)) (Nat.ne_of_gt (by omega)) (Nat.ne_of_gt (by omega)) (Nat.ne_of_gt (by omega)), e4 (Nat.ne_of_gt (by omega)) (Nat.ne_of_gt (by omega)) (Nat.ne_of_gt (by omega)) (Nat.ne_of_gt (by omega)), e4 (Nat.ne_of_gt (by omega)) (Nat.ne_of_gt (by omega)) (Nat.ne_of_gt (by omega)) (Nat.ne_of_gt (by omega)), ?_, ?_⟩
    · simp only [List.map_cons, List.map_nil, List.nodup_cons, List.mem_cons, List.not_mem_nil, or_false, not_or, List.nodup_nil]
      exact ⟨⟨Nat.ne_of_lt (by omega), Nat.ne_of_lt (by omega), Nat.ne_of_lt (by omega)⟩, ⟨Nat.ne_of_lt (by omega), Nat.ne_of_lt (by omega)⟩, Nat.ne_of_lt (by omega), not_false, trivial⟩
    · exact e4 (e4 (Nat.ne_of_lt (by omega)) (Nat.ne_of_lt (by omega)) (Nat.ne_of_lt (by omega)) (Nat.ne_of_lt (by omega))) (e4 (Nat.ne_of_lt (by omega)) (Nat.ne_of_lt (by omega)) (Nat.ne_of_lt (by omega)) (Nat.ne_of_lt (by omega))) (e4 (Nat.ne_of_lt (by omega)) (Nat.ne_of_lt (by omega)) (Nat.ne_of_lt (by omega)) (Nat.ne_of_lt (by omega))) (e4 (Nat.ne_of_lt (by omega)) (Nat.ne_of_lt (by omega)) (Nat.ne_of_lt (by omega)) (Nat.ne_of_lt (by omega)))
  refine ⟨s1.heap.objs.size + 6, cells4 (s1.heap.objs.size + 6) (s1.heap.objs.size + 4) (s1.heap.objs.size + 5) s1.heap.objs.size (s1.heap.objs.size + 1) (s1.heap.objs.size + 2) (s1.heap.objs.size + 3), _, _, H1, rfl, I2, turn4 S, ⟨hz, hTI, ⟨_, hTO, rfl⟩, ⟨_, g1, rfl, rfl⟩, ⟨_, g2, rfl, rfl⟩, ⟨_, g3, rfl, rfl⟩, ⟨_, g4, rfl, rfl⟩⟩, fun q hq => ?_, goal⟩
  have le : s1.heap.objs.size ≤ q := by
    simp only [cells4, List.mem_cons, List.not_mem_nil, or_false] at hq
    rcases hq with rfl | rfl | rfl | rfl | rfl | rfl | rfl
    all_goals first | exact Nat.le_refl _ | exact Nat.le_add_right _ _
  exact I1.fpOk le (I1.hok.fresh le)
/-- a new tuple of the four i-th ones -/
def YQua (xs ys zs ws : List V) : Nat → Hp → V → Hp → Prop := fun i H v H' => ∃ T x y z u, v = .ref T ∧ H T = none ∧ H' = upd H T (.tup [x, y, z, u]) ∧ xs[i]? = some x ∧ ys[i]? = some y ∧ zs[i]? = some z ∧ ws[i]? = some u
theorem walk_zip4 {K : PySem.W.Frag} {a b c d : Addr} {xs ys zs ws : List V} (l2 : ys.length = xs.length) (l3 : zs.length = xs.length) (l4 : ws.length = xs.length) : Walk (It4 K a b c d) xs.length (fun H => SqL K H a xs ∧ SqL K H b ys ∧ SqL K H c zs ∧ SqL K H d ws) (YQua xs ys zs ws) where
  goes _ _ lt q := ⟨xs, ys, zs, ws, q.1, q.2.1, q.2.2.1, q.2.2.2, l2, l3, l4, lt⟩
  stops _ q := ⟨xs, ys, zs, ws, q.1, q.2.1, q.2.2.1, q.2.2.2, l2, l3, l4, rfl⟩
  yields _ _ _ _ _ q := fun ⟨T, x, y, z, u, e1, e2, e3, e4, e5, e6, e7⟩ => ⟨T, x, y, z, u, e1, e2, e3, e4 xs q.1, e5 ys q.2.1, e6 zs q.2.2.1, e7 ws q.2.2.2⟩
end RZ4

/-! list.reverse() -/
namespace RvL
open PySem PySem.Spec PyProof.Rows L2
theorem mt_reverse {X : Cx} : MtR X "list.reverse" (fun x vs H Q => ∃ (l : Addr) (xs : List V), x = .ref l ∧ vs = [] ∧ H l = some (.lst xs) ∧ Q .non (upd H l (.lst xs.reverse))) := by
  intro pins s σ H x vs v us Q I rx rv h
  obtain ⟨l, xs, rfl, rfl, was, goal⟩ := h
  cases rx
  have none : us = [] := by
    cases rv
    rfl
  subst none
  obtain ⟨z, its, n, r, len, e⟩ := I.lstM was
  refine call_meets PySem.F.slot_list_reverse ⟨_, e, rfl⟩ PySem.F.entry_list_reverse (PySem.F.args_list_reverse_1 _) (PySem.AutoSeq1.list_reverse_list_0 l its.toArray n (by rw [List.size_toArray]; omega)) ⟨e, ?_⟩
  have back : ∀ {xs : List V} {its : List Value}, Vals xs its → Vals xs.reverse its.reverse := fun {xs its} r => by
    induction r with
    | nil => exact .nil
    | cons a _ ih => rw [List.reverse_cons, List.reverse_cons]; exact ih.append (.cons a .nil)
  refine ⟨.non, _, I.lset (its' := its.reverse) was e (by simp) (back r) ?_, rfl, goal⟩
  rw [List.length_reverse]
  exact z
/-- t.index(y), flat items, the first place -/
theorem mt_tupIndex {X : Cx} : MtR X "tuple.index" (fun x xs H Q => ∃ (p : Addr) (ys : List V) (y : V) (j : Nat) (z : V), x = .ref p ∧ xs = [y] ∧ SqT X.K H p ys ∧ flatV y = true ∧ ys.all flatV = true ∧ ys[j]? = some z ∧ eqV z y = true ∧
    (∀ (m : Nat) (z' : V), m < j → ys[m]? = some z' → eqV z' y = false) ∧ Q (.int (j : Nat)) H) := by
  intro pins s σ H x xs v us Q I rx rs h
  obtain ⟨p, ys, y, j, z, rfl, rfl, seq, fy, fall, zat, same, before, goal⟩ := h
  cases rx
  obtain ⟨u, rfl, ru⟩ := vals1 rs
  obtain ⟨its, r, pl, _⟩ := I.tuple seq
  obtain ⟨⟨cls, dd, dt, sl⟩, there, c1, n, d1⟩ := pl
  simp only at c1 d1
  subst c1
  subst d1
  have size : its.toArray.size = ys.length := by rw [List.size_toArray, ← r.length]
  have jl : j < its.toArray.size := by rw [size]; exact (List.getElem?_eq_some_iff.mp zat).1
  have item : ∀ (m : Nat) (lt : m < its.toArray.size) (z' : V), ys[m]? = some z' → eqU y (its.toArray[m]) = eqV z' y := fun m lt z' e => by
    obtain ⟨w, hw, rw'⟩ := r.get e
    have e1 : its.toArray[m] = w := by
      have := (List.getElem?_eq_some_iff.mp hw).2
      rw [← this]
      simp
    rw [e1]
    exact eqU_of rw' (flat_at fall e)
  refine call_meets PySem.F.slot_tuple_index ⟨_, there, rfl⟩ PySem.F.entry_tuple_index (PySem.F.args_tuple_index_2 _ _) (TI.tuple_indexAt p its.toArray n dd sl u (eqU y) j jl ?_ ?_)
    ⟨there, fun w hw => mem_eqAt ru fy r fall w (by simpa using hw), ⟨.int (j : Nat), H, I.tok _, ⟨_, rfl⟩, goal⟩⟩
  · rw [item j jl z zat]
    exact same
  · intro m lt mj
    have e : ys[m]? = some (ys[m]'(by omega)) := List.getElem?_eq_getElem _
    rw [item m lt _ e]
    exact before m _ mj e
end RvL

/-! tuples whose object is known (no dict): a method of such a tuple may be called -/
namespace FrT
open PySem PySem.Spec PyProof.Rows L2
/-- a tuple whose object is known -/
def Fz (H : Hp) (a : Addr) (xs : List V) : Prop := ∃ o : Obj, H a = some (.frz o (.tup xs)) ∧ o.cls = .type "tuple" ∧ o.dict = none
theorem Fz.sq {K : PySem.W.Frag} {H : Hp} {a : Addr} {xs : List V} (f : Fz H a xs) : SqT K H a xs := by
  obtain ⟨o, e, _⟩ := f
  exact .inl (.inr ⟨o, e⟩)
section
variable {X : Cx} {e : Expr} {es : List Expr} {pos : Pos}
def tTupF (t : TA) : TE := fun σ H Q => t σ H fun xs H1 => xs.length ≤ sizeLine ∧ ∀ (p : Addr) (o : Obj), H1 p = none → o.cls = .type "tuple" → o.dict = none → Q (.ref p) (upd H1 p (.frz o (.tup xs)))
theorem pe_tupF {t : TA} {kk : Nat} (items : PA X es t) : PE X (.Tuple es kk pos) (tTupF t) := by
  constructor
  intro pins s σ H Q I want
  refine wpAny_Tuple_spliced (thn (items.run pos pins s σ H _ I want) fun us s1 got => ?_)
  obtain ⟨xs, H1, I1, rel, few, goal⟩ := got
  refine ⟨by rw [← rel.length]; exact few, .ref s1.heap.objs.size, _, I1.laid (o := .frz { cls := .type "tuple", data := .seq us.toArray } (.tup xs)) (t' := s1.toks) (fun b u q => Heap.get?_push_of_some _ q) (Nat.le_refl _) (by show _ ∧ _ ∧ _; exact ⟨Heap.get?_push_size _ rfl, few, us, rel, ⟨_, Heap.get?_push_size _ rfl, rfl, _, rfl⟩⟩), rfl, goal _ { cls := .type "tuple", data := .seq us.toArray } (I1.hok.fresh (Nat.le_refl _)) rfl rfl⟩
theorem call_tupleF : CallR X (.type "tuple") (fun xs H Q => ∃ (p : Addr) (ys : List V), xs = [.ref p] ∧ SqL X.K H p ys ∧ ∀ (l : Addr) (o : Obj), H l = none → o.cls = .type "tuple" → o.dict = none → Q (.ref l) (upd H l (.frz o (.tup ys)))) := by
  intro pins s σ H xs us Q I rel want
  obtain ⟨p, ys, rfl, seq, goal⟩ := want
  obtain ⟨u, rfl, ru⟩ := vals1 rel
  cases ru
  obtain ⟨its, r, pl, few⟩ := I.list seq
  have len := r.length
  refine call_tuple_list pl.isList (fun h' kp => ?_) (by simp only [List.size_toArray]; omega)
  have I1 : Inv X pins σ H { s with heap := h' } := I.kept (t' := s.toks) kp
  exact ⟨.ref h'.objs.size, _, I1.laid (o := .frz { cls := .type "tuple", data := .seq its.toArray } (.tup ys)) (t' := s.toks) (fun b u q => Heap.get?_push_of_some _ q) (Nat.le_refl _) (by show _ ∧ _ ∧ _; exact ⟨Heap.get?_push_size _ rfl, few, its, r, IsTup.new _ _⟩), rfl, goal _ { cls := .type "tuple", data := .seq its.toArray } (I1.hok.fresh (Nat.le_refl _)) rfl rfl⟩
/-- a method of such a tuple -/
def tBMF (r : V → List V → Hp → VK → Prop) (to : TE) (t : TA) : TE := fun σ H Q => to σ H fun x H1 => (∃ p xs, x = .ref p ∧ Fz H1 p xs) ∧ t σ H1 fun ys H2 => r x ys H2 Q
theorem pe_bmF {a : Expr} {name : Str} {apos cpos : Pos} {id : String} {r : V → List V → Hp → VK → Prop} {to : TE} {t : TA} (pa : PlainAttrs "tuple") (slot : Slot "tuple" name id) (md : typeOf (.builtin id) = pure (.type "method_descriptor")) (mt : MtR X id r) (obj : PE X a to) (args : PA X (e :: es) t)
    (b1 : attributeBase a name X.env (eval a X.env) = eval a X.env := by rfl)
    (b2 : ((backTo cpos (starEach (e :: es) X.env)).all (fun x => !x.1) && (backToKw cpos (keywordEach [] X.env)).all (fun x => x.1.isSome) && decide ((e :: es).length + ([] : List Keyword).length + (if ([] : List Keyword).isEmpty then 0 else 1) < 30)) = true := by rfl)
    (b3 : (apos.endLine == cpos.line) = true := by rfl) (b4 : starEach (e :: es) X.env = (false, eval e X.env) :: starEach es X.env := by rfl) (b5 : (backTo cpos (starEach es X.env)).any (·.1) = false := by rfl) :
    PE X (.Call (.Attribute a name apos) (e :: es) [] cpos) (tBMF r to t) := by
  constructor
  intro pins s σ H Q I want
  refine wpAny_Call_method_late b1 b2 b3 rfl (thn (obj.run pins s σ H _ I want) fun v s1 got => ?_)
  obtain ⟨x, H1, I1, r1, ⟨p, xs, rfl, o, there, cls, dict⟩, goal⟩ := got
  have was : s1.heap.get? p = some o := (I1.hok p _ there).1
  cases r1
  refine ⟨"tuple", id, pa, slot, md, ⟨o, was, cls⟩, fun q eq => ?_, ?_⟩
  · cases eq
    exact ⟨o, was, dict⟩
  have go := args.run cpos pins s1 σ H1 _ I1 goal
  rw [b4] at go ⊢
  refine Calls.callWith_builtin (by show (false || (backTo cpos (starEach es X.env)).any (·.1)) = false; rw [b5]; rfl) (Calls.evalArgs_plain ?_)
  exact thn go fun us s2 ⟨vs, H2, I2, r2, q2⟩ => mt pins s2 σ H2 (.ref p) vs _ us Q I2 rfl r2 q2
end
end FrT

namespace Pv
open PySem L2
/-! ### error classes -/
def veM (M : Addr) : List Value := [.ref M, .type "ValueError", .type "Exception", .type "BaseException", .type "object"]
structure ErrK (K : PySem.W.Frag) (mg : Str → Option Value) (M C : Addr) (x : Str) : Prop where
  g : mg x = some (.ref C)
  k : PySem.W.keepIn K (.ref C) = true
  l : ∃ nm q N bs sn sub ab col dd k0 k1 k2 k3 k5, K.lookup C = some (excClassObj nm q C N bs (veM M) true sn sub ab col dd k0 k1 k2 k3 k5 "ValueError.__new__")
  sa : PySem.W.findIn K (.ref C) "__setattr__" = some (some (.builtin "object.__setattr__"))
  ga : PySem.W.findIn K (.ref C) "__getattribute__" = some (some (.builtin "BaseException.__getattribute__"))
  gg : PySem.W.findIn K (.ref C) "__getattr__" = some none
  ca : PySem.W.findIn K (.ref C) "__class__" = some (some (.builtin "object.__class__"))
structure ErrM (K : PySem.W.Frag) (mg : Str → Option Value) (M : Addr) : Prop where
  g : mg "MendError" = some (.ref M)
  l : ∃ nm q N bs bm sn sub ab col dd k0 k1 k2 k3 k5, K.lookup M = some (excClassObj nm q M N bs bm true sn sub ab col dd k0 k1 k2 k3 k5 "ValueError.__new__")
structure ErrF (K : PySem.W.Frag) (C I : Addr) (qual f : Str) (st : Stmt) : Prop where
  i : PySem.W.findIn K (.ref C) "__init__" = some (some (.ref I))
  t : PySem.W.typeIn K (.ref I) = some (.type "function")
  nf : PySem.W.findIn K (.ref C) f = some none
  fn : ∃ fd, Fun K "__init__" qual st I fd
section
variable {K : PySem.W.Frag} {mg : Str → Option Value} {M C D : Addr} {x : Str}
theorem ErrK.ty (E : ErrK K mg M C x) : PySem.W.typeIn K (.ref C) = some (.type "type") := by
  obtain ⟨nm, q, N, bs, sn, sub, ab, col, dd, k0, k1, k2, k3, k5, h⟩ := E.l
  show (K.lookup C).map (·.cls) = _
  rw [h]
  rfl
theorem ErrM.ty (E : ErrM K mg M) : PySem.W.typeIn K (.ref M) = some (.type "type") := by
  obtain ⟨nm, q, N, bs, bm, sn, sub, ab, col, dd, k0, k1, k2, k3, k5, h⟩ := E.l
  show (K.lookup M).map (·.cls) = _
  rw [h]
  rfl
theorem ErrM.cls (E : ErrM K mg M) : (PySem.W.clsIn K M).isSome = true := by
  obtain ⟨nm, q, N, bs, bm, sn, sub, ab, col, dd, k0, k1, k2, k3, k5, h⟩ := E.l
  unfold PySem.W.clsIn
  rw [h]
  rfl
theorem ErrK.mro (E : ErrK K mg M C x) (v : Value) : PySem.W.mroIn K C v = some ((Value.ref C :: veM M).contains v) := by
  obtain ⟨nm, q, N, bs, sn, sub, ab, col, dd, k0, k1, k2, k3, k5, h⟩ := E.l
  unfold PySem.W.mroIn PySem.W.clsIn
  rw [h]
  rfl
theorem ErrK.cls (E : ErrK K mg M C x) : (PySem.W.clsIn K C).isSome = true := by
  obtain ⟨nm, q, N, bs, sn, sub, ab, col, dd, k0, k1, k2, k3, k5, h⟩ := E.l
  unfold PySem.W.clsIn
  rw [h]
  rfl
theorem ErrK.hd (E : ErrK K mg M C x) : PySem.W.hasDictIn K C = true := by
  obtain ⟨nm, q, N, bs, sn, sub, ab, col, dd, k0, k1, k2, k3, k5, h⟩ := E.l
  unfold PySem.W.hasDictIn PySem.W.clsIn
  rw [h]
  rfl
theorem ErrK.sub (E : ErrK K mg M C x) : PySem.W.subIn K (.ref C) (.type "BaseException") = some true := by
  show PySem.W.mroIn K C _ = _
  rw [E.mro]
  simp [veM]
theorem ErrK.xfc (E : ErrK K mg M C x) : XfC K C := ⟨E.ga, E.gg, E.sub, E.hd⟩
theorem ErrK.oex (E : ErrK K mg M C x) : OexC K C := by
  obtain ⟨nm, q, N, bs, sn, sub, ab, col, dd, k0, k1, k2, k3, k5, h⟩ := E.l
  exact ⟨⟨nm, q, N, bs, veM M, sn, sub, ab, col, dd, k0, k1, k2, k3, k5, h, rfl⟩, E.sa, E.sub, E.ty, E.k⟩
theorem ErrK.exc (E : ErrK K mg M C x) (cn : PySem.W.specialIn K (.builtin "object.__class__") "__get__" = some (some (.builtin "getset_descriptor.__get__"))) (ct : PySem.W.takesIn K (.builtin "object.__class__") = some true) : ExcC K C :=
  ⟨E.ga, E.gg, E.sub, E.hd, E.ca, cn, ct, by rw [E.mro]; simp [veM]⟩
theorem kitCls_ref {t : Value} (h1 : (PySem.W.clsIn K D).isSome = true) (h2 : PySem.W.typeIn K (.ref D) = some (.type "type")) : PySem.W.kitCls K t (.ref D) = PySem.W.subIn K t (.ref D) := by
  show (if ((PySem.W.clsIn K D).isSome && PySem.W.typeIn K (.ref D) == some (.type "type")) = true then PySem.W.subIn K t (.ref D) else none) = _
  rw [h1, h2, if_pos (by simp)]
/-- isinstance against the class itself, its base, ValueError, another class -/
theorem kit_self : PySem.W.kitOne K (.ref C) (.ref C) = some true := by
  unfold PySem.W.kitOne
  rw [if_pos (by simp)]
theorem ErrK.kit_ne {y : Str} (E : ErrK K mg M C x) (F : ErrK K mg M D y) (h : C ≠ D) (hM : M ≠ D) : PySem.W.kitOne K (.ref C) (.ref D) = some false := by
  unfold PySem.W.kitOne
  rw [if_neg (by simp [h])]
  rw [kitCls_ref F.cls F.ty]
  show PySem.W.mroIn K C _ = _
  rw [E.mro]
  have h1 : D ≠ C := fun z => h z.symm
  have h2 : D ≠ M := fun z => hM z.symm
  simp [veM, h1, h2]
theorem ErrK.kit_base (E : ErrK K mg M C x) (F : ErrM K mg M) (h : C ≠ M) : PySem.W.kitOne K (.ref C) (.ref M) = some true := by
  unfold PySem.W.kitOne
  rw [if_neg (by simp [h])]
  rw [kitCls_ref F.cls F.ty]
  show PySem.W.mroIn K C _ = _
  rw [E.mro]
  simp [veM]
theorem ErrK.kit_ve (E : ErrK K mg M C x) : PySem.W.kitOne K (.ref C) (.type "ValueError") = some true := by
  unfold PySem.W.kitOne
  rw [if_neg (by simp)]
  unfold PySem.W.kitCls
  show (if PySem.W.kitMeta "ValueError" = true then PySem.W.mroIn K C (.type "ValueError") else none) = _
  rw [if_pos (by decide +kernel), E.mro]
  simp [veM]
theorem ErrK.exm (E : ErrK K mg M C x) : PySem.W.exmOne K (.ref C) (.ref C) = some true := by
  unfold PySem.W.exmOne
  rw [E.sub, if_pos (by simp)]
  rw [kitCls_ref E.cls E.ty]
  show PySem.W.mroIn K C _ = _
  rw [E.mro]
  simp
theorem ErrK.exm_ne {y : Str} (E : ErrK K mg M C x) (F : ErrK K mg M D y) (h : C ≠ D) (hM : M ≠ D) : PySem.W.exmOne K (.ref C) (.ref D) = some false := by
  unfold PySem.W.exmOne
  rw [F.sub, if_pos (by simp)]
  rw [kitCls_ref F.cls F.ty]
  show PySem.W.mroIn K C _ = _
  rw [E.mro]
  have h1 : D ≠ C := fun z => h z.symm
  have h2 : D ≠ M := fun z => hM z.symm
  simp [veM, h1, h2]
end
def word : Nat → Str
  | 0 => "free" | 1 => "pair" | 2 => "claim" | 3 => "hook" | 4 => "relay" | 5 => "clamp" | 6 => "trail" | _ => "wheel"
def wordsV : List V := [.str "free", .str "pair", .str "claim", .str "hook", .str "relay", .str "clamp", .str "trail", .str "wheel"]
def formsT : List (List Nat × Str) := [([0], "free"), ([1, 0], "pair"), ([1, 1], "claim"), ([1, 2, 1], "hook"), ([1, 2, 2], "relay"), ([1, 2, 1, 2], "clamp"), ([1, 2, 3, 2], "trail"), ([1, 2, 3, 0], "wheel")]
/-- a def with its promise: how it binds, too -/
def Okd (P : Program) (w : World) (K : PySem.W.Frag) (mg : Str → Option Value) (base : Heap) (CX : CXT) (k : Nat) (f : Addr) (ps : List Str) (sp : Sp) : Prop := ∃ fd, FnOk P w K mg base CX k f fd ps sp ∧ Binds K fd ps []
/-- a def called where an exception is handled, with its promise -/
def Okh (P : Program) (w : World) (K : PySem.W.Frag) (mg : Str → Option Value) (base : Heap) (CX : CXT) (k : Nat) (f : Addr) (ps : List Str) (sp : Sp) : Prop := ∃ fd, L2H.FnH P w K mg base CX k f fd ps sp ∧ Binds K fd ps []
/-! ### the text -/
def top (i : Nat) : Stmt := PySem.Challenge.pw_peermend_k29_involvement_of_records.main.body.getD i (.Pass ⟨0, 0, 0, 0⟩)
abbrev s_own : Stmt := top 9
abbrev s_check_image : Stmt := top 11
abbrev s_groups : Stmt := top 12
abbrev s_least_records : Stmt := top 13
abbrev s_pieces : Stmt := top 17
abbrev s_torn_pieces : Stmt := top 18
abbrev s_piece_of : Stmt := top 19
abbrev s_row_of : Stmt := top 20
abbrev s_involvement : Stmt := top 22
abbrev s_free_records : Stmt := top 23
abbrev s_claims : Stmt := top 24
abbrev s_law_box : Stmt := top 26
abbrev s_law_take : Stmt := top 27
abbrev s_law_shuffled : Stmt := top 28
abbrev s_law_shape : Stmt := top 29
abbrev s_law_bad_words : Stmt := top 30
abbrev s_law_forced : Stmt := top 31
abbrev s_law_menu : Stmt := top 32
abbrev s_law_listed : Stmt := top 33
abbrev s_law_built : Stmt := top 34
abbrev s_law_image : Stmt := top 35
abbrev s_law_step : Stmt := top 36
abbrev s_law_reading : Stmt := top 37
abbrev s_law_all_choices : Stmt := top 38
abbrev s_law_count : Stmt := top 39
abbrev s_law_is_number : Stmt := top 40
abbrev s_law_fault : Stmt := top 41
abbrev s_law_told : Stmt := top 42
abbrev s_law_refusals_told : Stmt := top 43
abbrev s_law_counted : Stmt := top 44
abbrev s_law_by_pieces : Stmt := top 45
abbrev s_law : Stmt := top 46
abbrev s_InvalidImage : Stmt := inClass (top 2) 0
abbrev s_NotState : Stmt := inClass (top 3) 0
abbrev s_Unrepairable : Stmt := inClass (top 4) 0
abbrev s_InvalidNumber : Stmt := inClass (top 5) 0
structure Ad where
  own : Addr
  check_image : Addr
  groups : Addr
  least_records : Addr
  pieces : Addr
  torn_pieces : Addr
  piece_of : Addr
  row_of : Addr
  involvement : Addr
  free_records : Addr
  claims : Addr
  law_box : Addr
  law_take : Addr
  law_shuffled : Addr
  law_shape : Addr
  law_bad_words : Addr
  law_forced : Addr
  law_menu : Addr
  law_listed : Addr
  law_built : Addr
  law_image : Addr
  law_step : Addr
  law_reading : Addr
  law_all_choices : Addr
  law_count : Addr
  law_is_number : Addr
  law_fault : Addr
  law_told : Addr
  law_refusals_told : Addr
  law_counted : Addr
  law_by_pieces : Addr
  law : Addr
  WHOLE : Addr
  FORMS : Addr
  MendError : Addr
  InvalidImage : Addr
  NotState : Addr
  Unrepairable : Addr
  InvalidNumber : Addr
  UnequalSizes : Addr
  InvalidKind : Addr
  InvalidChange : Addr
  i_InvalidImage : Addr
  i_NotState : Addr
  i_Unrepairable : Addr
  i_InvalidNumber : Addr
abbrev N_own : List Str := ["given"]
abbrev P_own : List Str := ["given"]
theorem sc_own : FnScope N_own P_own (defScope s_own) := ⟨rfl, rfl, rfl, by decide +kernel, rfl, by decide +kernel, by decide +kernel⟩
abbrev N_check_image : List Str := ["image", "size", "record", "name"]
abbrev P_check_image : List Str := ["image"]
theorem sc_check_image : FnScope N_check_image P_check_image (defScope s_check_image) := ⟨rfl, rfl, rfl, by decide +kernel, rfl, by decide +kernel, by decide +kernel⟩
abbrev N_groups : List Str := ["image", "found", "record", "least"]
abbrev P_groups : List Str := ["image"]
theorem sc_groups : FnScope N_groups P_groups (defScope s_groups) := ⟨rfl, rfl, rfl, by decide +kernel, rfl, by decide +kernel, by decide +kernel⟩
abbrev N_least_records : List Str := ["image", "least", "record", "name", "low", "high", "old"]
abbrev P_least_records : List Str := ["image"]
theorem sc_least_records : FnScope N_least_records P_least_records (defScope s_least_records) := ⟨rfl, rfl, rfl, by decide +kernel, rfl, by decide +kernel, by decide +kernel⟩
abbrev N_pieces : List Str := ["image", "found", "group", "piece"]
abbrev P_pieces : List Str := ["image"]
theorem sc_pieces : FnScope N_pieces P_pieces (defScope s_pieces) := ⟨rfl, rfl, rfl, by decide +kernel, rfl, by decide +kernel, by decide +kernel⟩
abbrev N_torn_pieces : List Str := ["image", "piece"]
abbrev P_torn_pieces : List Str := ["image"]
theorem sc_torn_pieces : FnScope N_torn_pieces P_torn_pieces (defScope s_torn_pieces) := ⟨rfl, rfl, rfl, by decide +kernel, rfl, by decide +kernel, by decide +kernel⟩
abbrev N_piece_of : List Str := ["image", "group", "records", "shape", "word", "record"]
abbrev P_piece_of : List Str := ["image", "group"]
theorem sc_piece_of : FnScope N_piece_of P_piece_of (defScope s_piece_of) := ⟨rfl, rfl, rfl, by decide +kernel, rfl, by decide +kernel, by decide +kernel⟩
abbrev N_row_of : List Str := ["image", "group", "shown", "tails", "here", "row", "record"]
abbrev P_row_of : List Str := ["image", "group"]
theorem sc_row_of : FnScope N_row_of P_row_of (defScope s_row_of) := ⟨rfl, rfl, rfl, by decide +kernel, rfl, by decide +kernel, by decide +kernel⟩
abbrev N_involvement : List Str := ["image", "words", "_", "records", "record"]
abbrev P_involvement : List Str := ["image"]
theorem sc_involvement : FnScope N_involvement P_involvement (defScope s_involvement) := ⟨rfl, rfl, rfl, by decide +kernel, rfl, by decide +kernel, by decide +kernel⟩
abbrev N_free_records : List Str := ["image", "records", "word"]
abbrev P_free_records : List Str := ["image"]
theorem sc_free_records : FnScope N_free_records P_free_records (defScope s_free_records) := ⟨rfl, rfl, rfl, by decide +kernel, rfl, by decide +kernel, by decide +kernel⟩
abbrev N_claims : List Str := ["torn", "_", "word"]
abbrev P_claims : List Str := ["torn"]
theorem sc_claims : FnScope N_claims P_claims (defScope s_claims) := ⟨rfl, rfl, rfl, by decide +kernel, rfl, by decide +kernel, by decide +kernel⟩
abbrev N_law_box : List Str := ["script"]
abbrev P_law_box : List Str := ["script"]
theorem sc_law_box : FnScope N_law_box P_law_box (defScope s_law_box) := ⟨rfl, rfl, rfl, by decide +kernel, rfl, by decide +kernel, by decide +kernel⟩
abbrev N_law_take : List Str := ["box", "many", "cell", "digit", "first", "second"]
abbrev P_law_take : List Str := ["box", "many"]
theorem sc_law_take : FnScope N_law_take P_law_take (defScope s_law_take) := ⟨rfl, rfl, rfl, by decide +kernel, rfl, by decide +kernel, by decide +kernel⟩
abbrev N_law_shuffled : List Str := ["box", "rows", "pool", "found", "k"]
abbrev P_law_shuffled : List Str := ["box", "rows"]
theorem sc_law_shuffled : FnScope N_law_shuffled P_law_shuffled (defScope s_law_shuffled) := ⟨rfl, rfl, rfl, by decide +kernel, rfl, by decide +kernel, by decide +kernel⟩
abbrev N_law_shape : List Str := ["word", "shapes"]
abbrev P_law_shape : List Str := ["word"]
theorem sc_law_shape : FnScope N_law_shape P_law_shape (defScope s_law_shape) := ⟨rfl, rfl, rfl, by decide +kernel, rfl, by decide +kernel, by decide +kernel⟩
abbrev N_law_bad_words : List Str := []
abbrev P_law_bad_words : List Str := []
theorem sc_law_bad_words : FnScope N_law_bad_words P_law_bad_words (defScope s_law_bad_words) := ⟨rfl, rfl, rfl, by decide +kernel, rfl, by decide +kernel, by decide +kernel⟩
abbrev N_law_forced : List Str := ["box", "many", "words", "k"]
abbrev P_law_forced : List Str := ["box", "many"]
theorem sc_law_forced : FnScope N_law_forced P_law_forced (defScope s_law_forced) := ⟨rfl, rfl, rfl, by decide +kernel, rfl, by decide +kernel, by decide +kernel⟩
abbrev N_law_menu : List Str := ["box", "way"]
abbrev P_law_menu : List Str := ["box"]
theorem sc_law_menu : FnScope N_law_menu P_law_menu (defScope s_law_menu) := ⟨rfl, rfl, rfl, by decide +kernel, rfl, by decide +kernel, by decide +kernel⟩
abbrev N_law_listed : List Str := ["word", "names", "row", "at"]
abbrev P_law_listed : List Str := ["word", "names"]
theorem sc_law_listed : FnScope N_law_listed P_law_listed (defScope s_law_listed) := ⟨rfl, rfl, rfl, by decide +kernel, rfl, by decide +kernel, by decide +kernel⟩
abbrev N_law_built : List Str := ["box", "most", "menu", "forced", "room", "rooms", "words", "k", "able", "at", "word", "names", "built", "many", "row"]
abbrev P_law_built : List Str := ["box", "most", "menu", "forced"]
theorem sc_law_built : FnScope N_law_built P_law_built (defScope s_law_built) := ⟨rfl, rfl, rfl, by decide +kernel, rfl, by decide +kernel, by decide +kernel⟩
abbrev N_law_image : List Str := ["built", "image", "piece", "shape", "k"]
abbrev P_law_image : List Str := ["built"]
theorem sc_law_image : FnScope N_law_image P_law_image (defScope s_law_image) := ⟨rfl, rfl, rfl, by decide +kernel, rfl, by decide +kernel, by decide +kernel⟩
abbrev N_law_step : List Str := ["records", "at", "row"]
abbrev P_law_step : List Str := ["records"]
theorem sc_law_step : FnScope N_law_step P_law_step (defScope s_law_step) := ⟨rfl, rfl, rfl, by decide +kernel, rfl, by decide +kernel, by decide +kernel⟩
abbrev N_law_reading : List Str := ["built", "choices", "found", "turn", "piece", "row"]
abbrev P_law_reading : List Str := ["built", "choices"]
theorem sc_law_reading : FnScope N_law_reading P_law_reading (defScope s_law_reading) := ⟨rfl, rfl, rfl, by decide +kernel, rfl, by decide +kernel, by decide +kernel⟩
abbrev N_law_all_choices : List Str := ["claims", "free", "rows", "k", "longer", "row", "pick", "one"]
abbrev P_law_all_choices : List Str := ["claims", "free"]
theorem sc_law_all_choices : FnScope N_law_all_choices P_law_all_choices (defScope s_law_all_choices) := ⟨rfl, rfl, rfl, by decide +kernel, rfl, by decide +kernel, by decide +kernel⟩
abbrev N_law_count : List Str := ["claims", "free", "total", "part", "k"]
abbrev P_law_count : List Str := ["claims", "free"]
theorem sc_law_count : FnScope N_law_count P_law_count (defScope s_law_count) := ⟨rfl, rfl, rfl, by decide +kernel, rfl, by decide +kernel, by decide +kernel⟩
abbrev N_law_is_number : List Str := ["told"]
abbrev P_law_is_number : List Str := ["told"]
theorem sc_law_is_number : FnScope N_law_is_number P_law_is_number (defScope s_law_is_number) := ⟨rfl, rfl, rfl, by decide +kernel, rfl, by decide +kernel, by decide +kernel⟩
abbrev N_law_fault : List Str := ["fault", "told", "record"]
abbrev P_law_fault : List Str := ["fault"]
theorem sc_law_fault : FnScope N_law_fault P_law_fault (defScope s_law_fault) := ⟨rfl, rfl, rfl, by decide +kernel, rfl, by decide +kernel, by decide +kernel⟩
abbrev N_law_told : List Str := ["image", "handed", "told", "fault", "word"]
abbrev P_law_told : List Str := ["image"]
theorem sc_law_told : FnScope N_law_told P_law_told (defScope s_law_told) := ⟨rfl, rfl, rfl, by decide +kernel, rfl, by decide +kernel, by decide +kernel⟩
abbrev N_law_refusals_told : List Str := ["box", "built", "image", "size", "wrong", "first", "second", "far", "odd", "piece"]
abbrev P_law_refusals_told : List Str := ["box"]
theorem sc_law_refusals_told : FnScope N_law_refusals_told P_law_refusals_told (defScope s_law_refusals_told) := ⟨rfl, rfl, rfl, by decide +kernel, rfl, by decide +kernel, by decide +kernel⟩
abbrev N_law_counted : List Str := ["built", "claims", "free", "size", "every", "counts", "choices", "step", "record", "words", "many"]
abbrev P_law_counted : List Str := ["built", "claims", "free", "size"]
theorem sc_law_counted : FnScope N_law_counted P_law_counted (defScope s_law_counted) := ⟨rfl, rfl, rfl, by decide +kernel, rfl, by decide +kernel, by decide +kernel⟩
abbrev N_law_by_pieces : List Str := ["built", "size", "words", "piece", "record"]
abbrev P_law_by_pieces : List Str := ["built", "size"]
theorem sc_law_by_pieces : FnScope N_law_by_pieces P_law_by_pieces (defScope s_law_by_pieces) := ⟨rfl, rfl, rfl, by decide +kernel, rfl, by decide +kernel, by decide +kernel⟩
abbrev N_law : List Str := ["script", "box", "way", "built", "image", "claims", "free", "due", "piece"]
abbrev P_law : List Str := ["script"]
theorem sc_law : FnScope N_law P_law (defScope s_law) := ⟨rfl, rfl, rfl, by decide +kernel, rfl, by decide +kernel, by decide +kernel⟩
abbrev N_InvalidImage : List Str := ["self", "record"]
abbrev P_InvalidImage : List Str := ["self", "record"]
theorem sc_InvalidImage : FnScope N_InvalidImage P_InvalidImage (defScope s_InvalidImage) := ⟨rfl, rfl, rfl, by decide +kernel, rfl, by decide +kernel, by decide +kernel⟩
abbrev N_NotState : List Str := ["self", "record"]
abbrev P_NotState : List Str := ["self", "record"]
theorem sc_NotState : FnScope N_NotState P_NotState (defScope s_NotState) := ⟨rfl, rfl, rfl, by decide +kernel, rfl, by decide +kernel, by decide +kernel⟩
abbrev N_Unrepairable : List Str := ["self", "group"]
abbrev P_Unrepairable : List Str := ["self", "group"]
theorem sc_Unrepairable : FnScope N_Unrepairable P_Unrepairable (defScope s_Unrepairable) := ⟨rfl, rfl, rfl, by decide +kernel, rfl, by decide +kernel, by decide +kernel⟩
abbrev N_InvalidNumber : List Str := ["self", "value"]
abbrev P_InvalidNumber : List Str := ["self", "value"]
theorem sc_InvalidNumber : FnScope N_InvalidNumber P_InvalidNumber (defScope s_InvalidNumber) := ⟨rfl, rfl, rfl, by decide +kernel, rfl, by decide +kernel, by decide +kernel⟩
structure Txt (K : PySem.W.Frag) (mg : Str → Option Value) (A : Ad) : Prop where
  g_own : mg "_own" = some (.ref A.own)
  k_own : PySem.W.keepIn K (.ref A.own) = true
  d_own : ∃ fd, Fun K "_own" "_own" s_own A.own fd
  g_check_image : mg "check_image" = some (.ref A.check_image)
  k_check_image : PySem.W.keepIn K (.ref A.check_image) = true
  d_check_image : ∃ fd, Fun K "check_image" "check_image" s_check_image A.check_image fd
  g_groups : mg "groups" = some (.ref A.groups)
  k_groups : PySem.W.keepIn K (.ref A.groups) = true
  d_groups : ∃ fd, Fun K "groups" "groups" s_groups A.groups fd
  g_least_records : mg "_least_records" = some (.ref A.least_records)
  k_least_records : PySem.W.keepIn K (.ref A.least_records) = true
  d_least_records : ∃ fd, Fun K "_least_records" "_least_records" s_least_records A.least_records fd
  g_pieces : mg "pieces" = some (.ref A.pieces)
  k_pieces : PySem.W.keepIn K (.ref A.pieces) = true
  d_pieces : ∃ fd, Fun K "pieces" "pieces" s_pieces A.pieces fd
  g_torn_pieces : mg "torn_pieces" = some (.ref A.torn_pieces)
  k_torn_pieces : PySem.W.keepIn K (.ref A.torn_pieces) = true
  d_torn_pieces : ∃ fd, Fun K "torn_pieces" "torn_pieces" s_torn_pieces A.torn_pieces fd
  g_piece_of : mg "_piece_of" = some (.ref A.piece_of)
  k_piece_of : PySem.W.keepIn K (.ref A.piece_of) = true
  d_piece_of : ∃ fd, Fun K "_piece_of" "_piece_of" s_piece_of A.piece_of fd
  g_row_of : mg "_row_of" = some (.ref A.row_of)
  k_row_of : PySem.W.keepIn K (.ref A.row_of) = true
  d_row_of : ∃ fd, Fun K "_row_of" "_row_of" s_row_of A.row_of fd
  g_involvement : mg "involvement" = some (.ref A.involvement)
  k_involvement : PySem.W.keepIn K (.ref A.involvement) = true
  d_involvement : ∃ fd, Fun K "involvement" "involvement" s_involvement A.involvement fd
  g_free_records : mg "_free_records" = some (.ref A.free_records)
  k_free_records : PySem.W.keepIn K (.ref A.free_records) = true
  d_free_records : ∃ fd, Fun K "_free_records" "_free_records" s_free_records A.free_records fd
  g_claims : mg "_claims" = some (.ref A.claims)
  k_claims : PySem.W.keepIn K (.ref A.claims) = true
  d_claims : ∃ fd, Fun K "_claims" "_claims" s_claims A.claims fd
  g_law_box : mg "_law_box" = some (.ref A.law_box)
  k_law_box : PySem.W.keepIn K (.ref A.law_box) = true
  d_law_box : ∃ fd, Fun K "_law_box" "_law_box" s_law_box A.law_box fd
  g_law_take : mg "_law_take" = some (.ref A.law_take)
  k_law_take : PySem.W.keepIn K (.ref A.law_take) = true
  d_law_take : ∃ fd, Fun K "_law_take" "_law_take" s_law_take A.law_take fd
  g_law_shuffled : mg "_law_shuffled" = some (.ref A.law_shuffled)
  k_law_shuffled : PySem.W.keepIn K (.ref A.law_shuffled) = true
  d_law_shuffled : ∃ fd, Fun K "_law_shuffled" "_law_shuffled" s_law_shuffled A.law_shuffled fd
  g_law_shape : mg "_law_shape" = some (.ref A.law_shape)
  k_law_shape : PySem.W.keepIn K (.ref A.law_shape) = true
  d_law_shape : ∃ fd, Fun K "_law_shape" "_law_shape" s_law_shape A.law_shape fd
  g_law_bad_words : mg "_law_bad_words" = some (.ref A.law_bad_words)
  k_law_bad_words : PySem.W.keepIn K (.ref A.law_bad_words) = true
  d_law_bad_words : ∃ fd, Fun K "_law_bad_words" "_law_bad_words" s_law_bad_words A.law_bad_words fd
  g_law_forced : mg "_law_forced" = some (.ref A.law_forced)
  k_law_forced : PySem.W.keepIn K (.ref A.law_forced) = true
  d_law_forced : ∃ fd, Fun K "_law_forced" "_law_forced" s_law_forced A.law_forced fd
  g_law_menu : mg "_law_menu" = some (.ref A.law_menu)
  k_law_menu : PySem.W.keepIn K (.ref A.law_menu) = true
  d_law_menu : ∃ fd, Fun K "_law_menu" "_law_menu" s_law_menu A.law_menu fd
  g_law_listed : mg "_law_listed" = some (.ref A.law_listed)
  k_law_listed : PySem.W.keepIn K (.ref A.law_listed) = true
  d_law_listed : ∃ fd, Fun K "_law_listed" "_law_listed" s_law_listed A.law_listed fd
  g_law_built : mg "_law_built" = some (.ref A.law_built)
  k_law_built : PySem.W.keepIn K (.ref A.law_built) = true
  d_law_built : ∃ fd, Fun K "_law_built" "_law_built" s_law_built A.law_built fd
  g_law_image : mg "_law_image" = some (.ref A.law_image)
  k_law_image : PySem.W.keepIn K (.ref A.law_image) = true
  d_law_image : ∃ fd, Fun K "_law_image" "_law_image" s_law_image A.law_image fd
  g_law_step : mg "_law_step" = some (.ref A.law_step)
  k_law_step : PySem.W.keepIn K (.ref A.law_step) = true
  d_law_step : ∃ fd, Fun K "_law_step" "_law_step" s_law_step A.law_step fd
  g_law_reading : mg "_law_reading" = some (.ref A.law_reading)
  k_law_reading : PySem.W.keepIn K (.ref A.law_reading) = true
  d_law_reading : ∃ fd, Fun K "_law_reading" "_law_reading" s_law_reading A.law_reading fd
  g_law_all_choices : mg "_law_all_choices" = some (.ref A.law_all_choices)
  k_law_all_choices : PySem.W.keepIn K (.ref A.law_all_choices) = true
  d_law_all_choices : ∃ fd, Fun K "_law_all_choices" "_law_all_choices" s_law_all_choices A.law_all_choices fd
  g_law_count : mg "_law_count" = some (.ref A.law_count)
  k_law_count : PySem.W.keepIn K (.ref A.law_count) = true
  d_law_count : ∃ fd, Fun K "_law_count" "_law_count" s_law_count A.law_count fd
  g_law_is_number : mg "_law_is_number" = some (.ref A.law_is_number)
  k_law_is_number : PySem.W.keepIn K (.ref A.law_is_number) = true
  d_law_is_number : ∃ fd, Fun K "_law_is_number" "_law_is_number" s_law_is_number A.law_is_number fd
  g_law_fault : mg "_law_fault" = some (.ref A.law_fault)
  k_law_fault : PySem.W.keepIn K (.ref A.law_fault) = true
  d_law_fault : ∃ fd, Fun K "_law_fault" "_law_fault" s_law_fault A.law_fault fd
  g_law_told : mg "_law_told" = some (.ref A.law_told)
  k_law_told : PySem.W.keepIn K (.ref A.law_told) = true
  d_law_told : ∃ fd, Fun K "_law_told" "_law_told" s_law_told A.law_told fd
  g_law_refusals_told : mg "_law_refusals_told" = some (.ref A.law_refusals_told)
  k_law_refusals_told : PySem.W.keepIn K (.ref A.law_refusals_told) = true
  d_law_refusals_told : ∃ fd, Fun K "_law_refusals_told" "_law_refusals_told" s_law_refusals_told A.law_refusals_told fd
  g_law_counted : mg "_law_counted" = some (.ref A.law_counted)
  k_law_counted : PySem.W.keepIn K (.ref A.law_counted) = true
  d_law_counted : ∃ fd, Fun K "_law_counted" "_law_counted" s_law_counted A.law_counted fd
  g_law_by_pieces : mg "_law_by_pieces" = some (.ref A.law_by_pieces)
  k_law_by_pieces : PySem.W.keepIn K (.ref A.law_by_pieces) = true
  d_law_by_pieces : ∃ fd, Fun K "_law_by_pieces" "_law_by_pieces" s_law_by_pieces A.law_by_pieces fd
  g_law : mg "law" = some (.ref A.law)
  k_law : PySem.W.keepIn K (.ref A.law) = true
  d_law : ∃ fd, Fun K "law" "law" s_law A.law fd
  e_MendError : ErrM K mg A.MendError
  e_InvalidImage : ErrK K mg A.MendError A.InvalidImage "InvalidImage"
  e_NotState : ErrK K mg A.MendError A.NotState "NotState"
  e_Unrepairable : ErrK K mg A.MendError A.Unrepairable "Unrepairable"
  e_InvalidNumber : ErrK K mg A.MendError A.InvalidNumber "InvalidNumber"
  e_UnequalSizes : ErrK K mg A.MendError A.UnequalSizes "UnequalSizes"
  q_UnequalSizes : PySem.W.excIn K A.UnequalSizes [.type "ValueError", .type "Exception", .type "BaseException", .type "object"] "ValueError.__new__" = true
  e_InvalidKind : ErrK K mg A.MendError A.InvalidKind "InvalidKind"
  q_InvalidKind : PySem.W.excIn K A.InvalidKind [.type "ValueError", .type "Exception", .type "BaseException", .type "object"] "ValueError.__new__" = true
  e_InvalidChange : ErrK K mg A.MendError A.InvalidChange "InvalidChange"
  q_InvalidChange : PySem.W.excIn K A.InvalidChange [.type "ValueError", .type "Exception", .type "BaseException", .type "object"] "ValueError.__new__" = true
  f_InvalidImage : ErrF K A.InvalidImage A.i_InvalidImage "InvalidImage.__init__" "record" s_InvalidImage
  f_NotState : ErrF K A.NotState A.i_NotState "NotState.__init__" "record" s_NotState
  f_Unrepairable : ErrF K A.Unrepairable A.i_Unrepairable "Unrepairable.__init__" "group" s_Unrepairable
  f_InvalidNumber : ErrF K A.InvalidNumber A.i_InvalidNumber "InvalidNumber.__init__" "value" s_InvalidNumber
  g_WHOLE : mg "_WHOLE" = some (.ref A.WHOLE)
  g_FORMS : mg "_FORMS" = some (.ref A.FORMS)
  w_WHOLE : ∀ H, SqT K H A.WHOLE [.str "free", .str "pair"]
  m_sub : PySem.W.mroIn K A.MendError (.type "BaseException") = some true
  n_ValueError : mg "ValueError" = none
  n_int : mg "int" = none
  n_bool : mg "bool" = none
  n_str : mg "str" = none
  n_list : mg "list" = none
  n_tuple : mg "tuple" = none
  n_len : mg "len" = none
  n_range : mg "range" = none
  n_enumerate : mg "enumerate" = none
  n_isinstance : mg "isinstance" = none
  n_min : mg "min" = none
  n_abs : mg "abs" = none
  n_sorted : mg "sorted" = none
  n_all : mg "all" = none
  n_any : mg "any" = none
  n_sum : mg "sum" = none
  n_zip : mg "zip" = none
  n_reversed : mg "reversed" = none
  n_max : mg "max" = none
  n_set : mg "set" = none
  cn : PySem.W.specialIn K (.builtin "object.__class__") "__get__" = some (some (.builtin "getset_descriptor.__get__"))
  ct : PySem.W.takesIn K (.builtin "object.__class__") = some true
  nd : [A.MendError, A.InvalidImage, A.NotState, A.Unrepairable, A.InvalidNumber, A.UnequalSizes, A.InvalidKind, A.InvalidChange].Nodup
end Pv

namespace Pv
open PySem L2
/-- all but what stands at b is as it was -/
def Mut (b : Addr) (H H' : Hp) : Prop := ∀ a o, a ≠ b → H a = some o → H' a = some o
theorem Mut.refl (b : Addr) (H : Hp) : Mut b H H := fun _ _ _ e => e
theorem Mut.trans {b : Addr} {H H1 H2 : Hp} (x : Mut b H H1) (y : Mut b H1 H2) : Mut b H H2 := fun a o n e => y a o n (x a o n e)
theorem Mut.upd {b : Addr} {H H1 : Hp} {o : HO} (x : Mut b H H1) : Mut b H (L2.upd H1 b o) := fun a u n e => by
  rw [upd_ne n]
  exact x a u n e
theorem Mut.new {b p : Addr} {H H1 : Hp} {o : HO} (x : Mut b H H1) (hp : H1 p = none) : Mut b H (L2.upd H1 p o) := fun a u n e => by
  have e1 := x a u n e
  rw [upd_ne (ne_of_none e1 hp)]
  exact e1
theorem Mut.free {b p : Addr} {H H1 : Hp} (x : Mut b H H1) (h : p ≠ b) (hp : H1 p = none) : H p = none := by
  cases e : H p with
  | none => rfl
  | some o =>
    rw [x p o h e] at hp
    cases hp
/-- the bag of the draws -/
def bagL (g f s : Int) : List V := [.int g, .int f, .int s]
structure BagOk (g f s : Int) : Prop where
  g0 : 0 ≤ g
  f0 : 0 ≤ f
  f1 : f < 2147483647
  s0 : 0 ≤ s
  s1 : s < 2147483647
def Bag (H : Hp) (b : Addr) : Prop := ∃ g f s : Int, H b = some (.lst (bagL g f s)) ∧ BagOk g f s
def spBag (K : PySem.W.Frag) : Sp := fun vs H Q _ => ∃ (a : Addr) (ns : List Int), vs = [.ref a] ∧ SqL K H a (ns.map V.int) ∧ ∀ b g f s, H b = none → BagOk g f s → Q (.ref b) (upd H b (.lst (bagL g f s)))
def spTake : Sp := fun vs H Q _ => ∃ (b : Addr) (n : Int), vs = [.ref b, .int n] ∧ 0 < n ∧ n < 1152921504606846976 ∧ Bag H b ∧ ∀ d H', 0 ≤ d → d < n → Bag H' b → Mut b H H' → Q (.int d) H'
/-- ints from 0 to below n -/
def Below (n : Int) (xs : List Int) : Prop := ∀ x ∈ xs, 0 ≤ x ∧ x < n
def ListI (H : Hp) (p : Addr) (xs : List Int) : Prop := H p = some (.lst (xs.map V.int))
def spOrder : Sp := fun vs H Q _ => ∃ (b : Addr) (n : Nat), vs = [.ref b, .int (n : Int)] ∧ n ≤ 64 ∧ Bag H b ∧ ∀ p xs H', H p = none → p ≠ b → xs.length = n → Below n xs → ListI H' p xs → Bag H' b → Mut b H H' → Q (.ref p) H'
def spSize : Sp := fun vs H Q _ => ∃ b : Addr, vs = [.ref b] ∧ Bag H b ∧ ∀ (d : Int) H', 0 ≤ d → d ≤ 64 → Bag H' b → Mut b H H' → Q (.int d) H'
def spEntry : Sp := fun vs H Q _ => ∃ (b : Addr) (n : Nat), vs = [.ref b, .int (n : Int)] ∧ 0 < n ∧ n ≤ 64 ∧ Bag H b ∧ ∀ (d : Int) H', Bag H' b → Mut b H H' → Q (.int d) H'
def spDrawn : Sp := fun vs H Q _ => ∃ (b : Addr) (n : Nat), vs = [.ref b, .int (n : Int)] ∧ n ≤ 64 ∧ Bag H b ∧ ∀ p xs H', H p = none → p ≠ b → xs.length = n → ListI H' p xs → Bag H' b → Mut b H H' → Q (.ref p) H'
theorem Bag.ne {H : Hp} {b p : Addr} (B : Bag H b) (h : H p = none) : p ≠ b := fun e => by
  obtain ⟨g, f, s, hb, _⟩ := B
  rw [e, hb] at h
  cases h
theorem Bag.keep {H H' : Hp} {b : Addr} (B : Bag H b) (h : ∀ o, H b = some o → H' b = some o) : Bag H' b := by
  obtain ⟨g, f, s, hb, ok⟩ := B
  exact ⟨g, f, s, h _ hb, ok⟩
theorem map_erase {α β : Type} (f : α → β) : ∀ (l : List α) (i : Nat), (l.map f).eraseIdx i = (l.eraseIdx i).map f
  | [], _ => rfl
  | _ :: _, 0 => rfl
  | a :: l, i + 1 => by
    show f a :: (l.map f).eraseIdx i = f a :: (l.eraseIdx i).map f
    rw [map_erase f l i]
theorem rgV_map (n : Nat) : rgV 0 (n : Int) = ((List.range n).map fun i : Nat => (i : Int)).map V.int := by
  unfold rgV
  have e : ((n : Int) - 0).toNat = n := by omega
  rw [e, List.map_map]
  refine List.map_congr_left fun i _ => ?_
  show V.int (0 + (i : Int)) = V.int (i : Int)
  rw [Int.zero_add]
theorem below_rg (n : Nat) : Below (n : Int) ((List.range n).map fun i : Nat => (i : Int)) := fun x hx => by
  obtain ⟨i, hi, rfl⟩ := List.mem_map.mp hx
  have := List.mem_range.mp hi
  omega
theorem ListI.sz {K : PySem.W.Frag} {H : Hp} {p : Addr} {xs : List Int} (h : ListI H p xs) : SqL K H p (xs.map V.int) := SqL.of h
theorem ix_map {xs : List Int} {j : Nat} (h : j < xs.length) : (xs.map V.int)[j]? = some (V.int xs[j]) := by
  rw [List.getElem?_map, List.getElem?_eq_getElem h]
  rfl
theorem at_map {xs : List Int} {j : Nat} (h : j < xs.length) : atI (xs.map V.int) (j : Int) = some (V.int xs[j]) := atI_nat (ix_map h)
theorem set_map {xs : List Int} {j : Nat} {v : Int} : (xs.map V.int).set j (V.int v) = (xs.set j v).map V.int := List.map_set.symm
theorem ite_b {b : Bool} {X Y : Prop} (h1 : b = true → X) (h2 : b = false → Y) : if b = true then X else Y := by
  cases b with
  | true => exact h1 rfl
  | false => exact h2 rfl
theorem int_at {ns : List Int} {i : Nat} {y : V} (h : (ns.map V.int)[i]? = some y) : ∃ z, ns[i]? = some z ∧ y = V.int z := by
  rw [List.getElem?_map] at h
  cases e : ns[i]? with
  | none =>
    rw [e] at h
    cases h
  | some z =>
    rw [e] at h
    exact ⟨z, rfl, (Option.some.inj h).symm⟩
end Pv

namespace Pm
/-- a group alone: ascending, the records of one form -/
structure Grp (g : Nat → Nat) (gp : List Nat) (b : Bk) : Prop where
  asc : gp.Pairwise (· < ·)
  perm : gp.Perm b.2
  cs : Cs g b.1 b.2
  can : Canon b
section
variable {g : Nat → Nat} {gp : List Nat} {b : Bk}
theorem Grp.nd (G : Grp g gp b) : gp.Nodup := G.asc.imp fun {a b} h => Nat.ne_of_lt h
theorem Grp.ndb (G : Grp g gp b) : b.2.Nodup := G.perm.nodup_iff.mp G.nd
theorem Grp.mem (G : Grp g gp b) {x : Nat} : x ∈ gp ↔ x ∈ b.2 := G.perm.mem_iff
theorem head_asc : ∀ {l : List Nat} {q : Nat → Bool} {x : Nat}, l.Pairwise (· < ·) → x ∈ l → q x = true → (∀ y ∈ l, y < x → q y = false) → (l.filter q).head? = some x
  | [], _, _, _, h, _, _ => by simp at h
  | a :: l, q, x, p, h, hq, hn => by
    by_cases e : a = x
    · subst e
      rw [List.filter_cons, if_pos hq]
      rfl
    · have hx : x ∈ l := (List.mem_cons.mp h).resolve_left (Ne.symm e)
      have lt := List.rel_of_pairwise_cons p hx
      rw [List.filter_cons, if_neg (by rw [hn a (List.mem_cons_self ..) lt]; decide)]
      exact head_asc p.of_cons hx hq fun y hy => hn y (List.mem_cons_of_mem _ hy)
theorem head_least {l : List Nat} {x : Nat} (p : l.Pairwise (· < ·)) (h : x ∈ l) (hn : ∀ y ∈ l, x ≤ y) : l.head? = some x := by
  have := head_asc (q := fun _ => true) p h rfl fun y hy hlt => absurd (hn y hy) (by omega)
  rw [List.filter_eq_self.mpr (fun _ _ => rfl)] at this
  exact this
theorem Grp.walks (G : Grp g gp b) : Walks g (path b) := by
  have nd := G.ndb
  have C := G.cs
  clear G
  obtain ⟨w, ms⟩ := b
  dsimp only at C nd
  unfold path
  dsimp only
  cases C
  all_goals (simp at nd ⊢)
  all_goals (refine ⟨by simp, by simp; try simp [nd], fun j hj => ?_, by simp [*]⟩)
  all_goals (rcases j with _ | _ | _ | _ | j)
  all_goals first | (simp at hj; done) | (simp [*]; done) | (simp at hj ⊢; omega) | skip
theorem Grp.left (G : Grp g gp b) : path b ++ gp.filter (fun x => !(path b).contains x) = b.2 := by
  have nd := G.ndb
  have C := G.cs
  have M : ∀ x, x ∈ gp ↔ x ∈ b.2 := fun x => G.mem
  have N := G.nd
  clear G
  by_cases h5 : b.1 = 5
  · obtain ⟨w, ms⟩ := b
    dsimp only at h5 C nd M ⊢
    subst h5
    cases C
    rename_i d a b c h1 h2 h3 h4
    unfold path
    simp at nd ⊢
    rw [filter_one (x := c) N (by rw [M]; simp) (by simp; omega) fun y hy hq => ?_]
    rw [M] at hy
    simp at hy hq
    omega
  · unfold path
    rw [if_neg h5]
    have e : gp.filter (fun x => !b.2.contains x) = [] := by
      rw [List.filter_eq_nil_iff]
      intro x hx
      have := (M x).mp hx
      simp [this]
    rw [e, List.append_nil]
theorem Grp.start (G : Grp g gp b) (T : List Nat) (hT : T = gp.filter fun x => !(gp.map g).contains x) :
    (T = [] → gp.head? = some (b.2.getD 0 0)) ∧ (T ≠ [] → T.head? = some (b.2.getD 0 0)) := by
  have nd := G.ndb
  have C := G.cs
  have K := G.can
  have M : ∀ x, x ∈ gp ↔ x ∈ b.2 := fun x => G.mem
  have S := G.asc
  clear G
  have sh : ∀ x, (gp.map g).contains x = (b.2.map g).contains x := fun x => by
    rw [Bool.eq_iff_iff, List.contains_iff_mem, List.contains_iff_mem, List.mem_map, List.mem_map]
    exact ⟨fun ⟨y, hy, e⟩ => ⟨y, (M y).mp hy, e⟩, fun ⟨y, hy, e⟩ => ⟨y, (M y).mpr hy, e⟩⟩
  have root : ∀ m0, m0 ∈ b.2 → (∀ y ∈ b.2, m0 ≤ y) → gp.head? = some m0 := fun m0 h1 h2 => head_least S ((M m0).mpr h1) fun y hy => h2 y ((M y).mp hy)
  have tail : ∀ m0 : Nat, m0 ∈ b.2 → (b.2.map g).contains m0 = false → (∀ j, j < m0 → j ∈ b.2 → (b.2.map g).contains j = true) → T.head? = some m0 := fun m0 h1 h2 h3 => by
    rw [hT]
    refine head_asc S ((M m0).mpr h1) (by rw [sh, h2]; rfl) fun y hy hlt => ?_
    rw [sh, h3 y hlt ((M y).mp hy)]
    rfl
  have none : (∀ x ∈ b.2, (b.2.map g).contains x = true) → T = [] := fun h => by
    rw [hT, List.filter_eq_nil_iff]
    intro x hx
    rw [sh, h x ((M x).mp hx)]
    decide
  obtain ⟨w, ms⟩ := b
  dsimp only at *
  clear hT sh
  cases C with
  | free a h1 =>
    have t := none (by simp [h1])
    exact ⟨fun _ => root a (by simp) (by simp), fun h => absurd t h⟩
  | pair a b h1 h2 =>
    have t := none (by simp [h1, h2])
    have := K.pair rfl
    simp at this
    exact ⟨fun _ => root a (by simp) (by simp; omega), fun h => absurd t h⟩
  | wheel a b c d h1 h2 h3 h4 =>
    have t := none (by simp [h1, h2, h3, h4])
    have hk : a = mn [a, b, c, d] := K.wheel rfl
    exact ⟨fun _ => root a (by simp) (fun y hy => by rw [hk]; exact mn_le hy), fun h => absurd t h⟩
  | claim a b h1 h2 =>
    simp at nd
    have t := tail a (by simp) (by simp [h1, h2]; omega) (fun j hj hm => by simp at hm; simp [h1, h2]; omega)
    exact ⟨fun h => (by rw [h] at t; simp at t), fun _ => t⟩
  | hook c a b h1 h2 h3 =>
    simp at nd
    have t := tail c (by simp) (by simp [h1, h2, h3]; omega) (fun j hj hm => by simp at hm; simp [h1, h2, h3]; omega)
    exact ⟨fun h => (by rw [h] at t; simp at t), fun _ => t⟩
  | relay c a b h1 h2 h3 =>
    simp at nd
    have t := tail c (by simp) (by simp [h1, h2, h3]; omega) (fun j hj hm => by simp at hm; simp [h1, h2, h3]; omega)
    exact ⟨fun h => (by rw [h] at t; simp at t), fun _ => t⟩
  | clamp d a b c h1 h2 h3 h4 =>
    simp at nd
    have kk := K.clamp rfl
    simp at kk
    have t := tail d (by simp) (by simp [h1, h2, h3, h4]; omega) (fun j hj hm => by simp at hm; simp [h1, h2, h3, h4]; omega)
    exact ⟨fun h => (by rw [h] at t; simp at t), fun _ => t⟩
  | trail d c a b h1 h2 h3 h4 =>
    simp at nd
    have t := tail d (by simp) (by simp [h1, h2, h3, h4]; omega) (fun j hj hm => by simp at hm; simp [h1, h2, h3, h4]; omega)
    exact ⟨fun h => (by rw [h] at t; simp at t), fun _ => t⟩
end
end Pm

namespace Pm
theorem nd_getD' {l : List Nat} (nd : l.Nodup) {i j : Nat} (hi : i < l.length) (hj : j < l.length) (h : l.getD i 0 = l.getD j 0) : i = j := by
  rw [List.getD_eq_getElem?_getD, List.getD_eq_getElem?_getD, List.getElem?_eq_getElem hi, List.getElem?_eq_getElem hj] at h
  exact (List.getElem_inj (h₀ := hi) (h₁ := hj) nd).mp h
/-- two walks from one record are one walk -/
theorem walks_at {g : Nat → Nat} {p q : List Nat} (P : Walks g p) (Q : Walks g q) (h : p.getD 0 0 = q.getD 0 0) : ∀ j, j < p.length → j < q.length → p.getD j 0 = q.getD j 0
  | 0, _, _ => h
  | j + 1, h1, h2 => by
    rw [← P.next j h1, ← Q.next j h2, walks_at P Q h j (by omega) (by omega)]
theorem walks_le {g : Nat → Nat} {p q : List Nat} (P : Walks g p) (Q : Walks g q) (h : p.getD 0 0 = q.getD 0 0) : q.length ≤ p.length := by
  rcases Nat.lt_or_ge p.length q.length with c | c
  · exfalso
    have hp := P.pos
    have e := Q.next (p.length - 1) (by omega)
    rw [← walks_at P Q h (p.length - 1) (by omega) (by omega)] at e
    obtain ⟨k, hk, ek⟩ := mem_getD P.back
    rw [← ek, walks_at P Q h k hk (by omega)] at e
    have := nd_getD' Q.nd (by omega) (by omega) e
    omega
  · exact c
theorem walks_eq {g : Nat → Nat} {p q : List Nat} (P : Walks g p) (Q : Walks g q) (h : p.getD 0 0 = q.getD 0 0) : p = q := by
  have l : p.length = q.length := Nat.le_antisymm (walks_le Q P h.symm) (walks_le P Q h)
  refine List.ext_getElem l fun j h1 h2 => ?_
  have e := walks_at P Q h j h1 h2
  rw [List.getD_eq_getElem?_getD, List.getD_eq_getElem?_getD, List.getElem?_eq_getElem h1, List.getElem?_eq_getElem h2] at e
  exact e
theorem path_0 {b : Bk} : (path b).getD 0 0 = b.2.getD 0 0 := by
  unfold path
  split
  · cases b.2 <;> rfl
  · rfl
/-- a group has one order of one form -/
theorem Grp.uniq {g : Nat → Nat} {gp : List Nat} {b c : Bk} (B : Grp g gp b) (C : Grp g gp c) : b.2 = c.2 := by
  have s1 := B.start _ rfl
  have s2 := C.start _ rfl
  have h0 : b.2.getD 0 0 = c.2.getD 0 0 := by
    by_cases t : (gp.filter fun x => !(gp.map g).contains x) = []
    · exact Option.some.inj ((s1.1 t).symm.trans (s2.1 t))
    · exact Option.some.inj ((s1.2 t).symm.trans (s2.2 t))
  have e := walks_eq B.walks C.walks (by rw [path_0, path_0]; exact h0)
  rw [← B.left, ← C.left, e]
/-- and one form -/
theorem Grp.form_one {g : Nat → Nat} {gp : List Nat} {b c : Bk} (B : Grp g gp b) (C : Grp g gp c) : b.1 = c.1 := by
  have e := B.uniq C
  have nd := B.ndb
  have c1 := B.cs
  have c2 := C.cs
  clear B C
  obtain ⟨w, ms⟩ := b
  obtain ⟨u, ns⟩ := c
  dsimp only at *
  subst e
  cases c1 <;> cases c2 <;> first | rfl | (simp at nd; omega)
end Pm

namespace Pm
theorem cs_of {g : Nat → Nat} {w : Nat} {ms : List Nat} (hw : w < 8) (hl : ms.length = (form w).length) (sh : ∀ k, k < ms.length → g (ms.getD k 0) = ms.getD ((form w).getD k 0) 0) : Cs g w ms := by
  rcases w with _ | _ | _ | _ | _ | _ | _ | _ | w
  · match ms, hl with
    | [a], _ => exact .free a (sh 0 (by simp))
  · match ms, hl with
    | [a, b], _ => exact .pair a b (sh 0 (by simp)) (sh 1 (by simp))
  · match ms, hl with
    | [a, b], _ => exact .claim a b (sh 0 (by simp)) (sh 1 (by simp))
  · match ms, hl with
    | [a, b, c], _ => exact .hook a b c (sh 0 (by simp)) (sh 1 (by simp)) (sh 2 (by simp))
  · match ms, hl with
    | [a, b, c], _ => exact .relay a b c (sh 0 (by simp)) (sh 1 (by simp)) (sh 2 (by simp))
  · match ms, hl with
    | [a, b, c, d], _ => exact .clamp a b c d (sh 0 (by simp)) (sh 1 (by simp)) (sh 2 (by simp)) (sh 3 (by simp))
  · match ms, hl with
    | [a, b, c, d], _ => exact .trail a b c d (sh 0 (by simp)) (sh 1 (by simp)) (sh 2 (by simp)) (sh 3 (by simp))
  · match ms, hl with
    | [a, b, c, d], _ => exact .wheel a b c d (sh 0 (by simp)) (sh 1 (by simp)) (sh 2 (by simp)) (sh 3 (by simp))
  · omega
theorem head_le {l : List Nat} {x y : Nat} (p : l.Pairwise (· < ·)) (h : l.head? = some x) (hy : y ∈ l) : x ≤ y := by
  cases l with
  | nil => cases h
  | cons a l =>
    cases Option.some.inj h
    rcases List.mem_cons.mp hy with e | hy
    · rw [e]
      exact Nat.le_refl _
    · exact Nat.le_of_lt (List.rel_of_pairwise_cons p hy)
theorem le_mn {l : List Nat} {x : Nat} (h0 : l ≠ []) (h : ∀ y ∈ l, x ≤ y) : x ≤ mn l := h _ (mn_mem h0)
/-- a row that begins where the walk begins and fits a form is the form's order -/
theorem Grp.of_row {g : Nat → Nat} {gp ms : List Nat} {w : Nat} (asc : gp.Pairwise (· < ·)) (perm : gp.Perm ms) (hw : w < 8) (hl : ms.length = (form w).length)
    (sh : ∀ k, k < ms.length → g (ms.getD k 0) = ms.getD ((form w).getD k 0) 0)
    (h1 : (gp.filter fun x => !(gp.map g).contains x) = [] → gp.head? = some (ms.getD 0 0)) (h2 : (gp.filter fun x => !(gp.map g).contains x) ≠ [] → (gp.filter fun x => !(gp.map g).contains x).head? = some (ms.getD 0 0)) : Grp g gp (w, ms) := by
  have C := cs_of hw hl sh
  have M : ∀ x, x ∈ gp ↔ x ∈ ms := fun x => perm.mem_iff
  have nd : ms.Nodup := perm.nodup_iff.mp (asc.imp fun {a b} h => Nat.ne_of_lt h)
  have ascT : (gp.filter fun x => !(gp.map g).contains x).Pairwise (· < ·) := asc.filter _
  have mT : ∀ x, x ∈ (gp.filter fun x => !(gp.map g).contains x) ↔ x ∈ ms ∧ ∀ y ∈ ms, g y ≠ x := fun x => by
    rw [List.mem_filter, M x]
    refine and_congr_right fun _ => ?_
    rw [Bool.not_eq_true', ← Bool.not_eq_true, List.contains_iff_mem, List.mem_map]
    exact ⟨fun h y hy e => h ⟨y, (M y).mpr hy, e⟩, fun h ⟨y, hy, e⟩ => h y ((M y).mp hy) e⟩
  generalize (gp.filter fun x => !(gp.map g).contains x) = T at *
  refine ⟨asc, perm, C, ?_⟩
  clear sh hl
  have none : (∀ x ∈ ms, ∃ y ∈ ms, g y = x) → T = [] := fun h => by
    match T, mT with
    | [], _ => rfl
    | t :: T, mT =>
      obtain ⟨a, b⟩ := (mT t).mp (by simp)
      obtain ⟨y, hy, e⟩ := h t a
      exact absurd e (b y hy)
  refine ⟨fun e => ?_, fun e => ?_, fun e => ?_⟩
  · simp only at e
    subst e
    cases C with
    | pair a b q1 q2 =>
      have t := none (by simp [q1, q2])
      have := head_le asc (h1 t) ((M b).mpr (by simp))
      simp at nd this
      show a < b
      omega
  · simp only at e
    subst e
    cases C with
    | clamp d a b c q1 q2 q3 q4 =>
      simp at nd
      have hc : c ∈ T := (mT c).mpr ⟨by simp, by simp [q1, q2, q3, q4]; omega⟩
      have := head_le ascT (h2 (fun z => by rw [z] at hc; simp at hc)) hc
      show d < c
      have this : d ≤ c := this
      omega
  · simp only at e
    subst e
    cases C with
    | wheel a b c d q1 q2 q3 q4 =>
      have t := none (by simp [q1, q2, q3, q4])
      have hh := h1 t
      show a = mn [a, b, c, d]
      have l1 : mn [a, b, c, d] ≤ a := mn_le (by simp)
      have l2 : a ≤ mn [a, b, c, d] := le_mn (by simp) fun y hy => head_le asc hh ((M y).mpr hy)
      omega
end Pm

namespace Pm
/-- all rows of k different records of a group -/
def ords (gp : List Nat) : Nat → List (List Nat)
  | 0 => [[]]
  | k + 1 => (ords gp k).flatMap fun row => (gp.filter fun x => !row.contains x).map fun x => row ++ [x]
theorem mem_ords {gp : List Nat} : ∀ {k : Nat} {row : List Nat}, row ∈ ords gp k ↔ row.length = k ∧ row.Nodup ∧ ∀ x ∈ row, x ∈ gp
  | 0, row => by
    unfold ords
    rw [List.mem_singleton]
    exact ⟨fun h => by subst h; exact ⟨rfl, List.nodup_nil, fun _ h => nomatch h⟩, fun h => List.length_eq_zero_iff.mp h.1⟩
  | k + 1, row => by
    unfold ords
    rw [List.mem_flatMap]
    constructor
    · rintro ⟨r, hr, h⟩
      obtain ⟨x, hx, rfl⟩ := List.mem_map.mp h
      obtain ⟨h1, h2, h3⟩ := mem_ords.mp hr
      rw [List.mem_filter] at hx
      have hn : x ∉ r := fun z => by
        have := hx.2
        rw [List.contains_iff_mem.mpr z] at this
        cases this
      refine ⟨by rw [List.length_append, h1]; rfl, ?_, fun y hy => ?_⟩
      · rw [List.nodup_append]
        exact ⟨h2, by simp, fun a ha b hb e => by simp at hb; subst hb; subst e; exact hn ha⟩
      · rcases List.mem_append.mp hy with hy | hy
        · exact h3 y hy
        · rw [List.mem_singleton.mp hy]
          exact hx.1
    · rintro ⟨h1, h2, h3⟩
      have ne : row ≠ [] := fun z => by subst z; cases h1
      have e := List.dropLast_concat_getLast ne
      have hl : row.dropLast.length = k := by rw [List.length_dropLast, h1]; rfl
      rw [← e, List.nodup_append] at h2
      have hlast : row.getLast ne ∈ gp := h3 _ (List.getLast_mem ne)
      have hni : row.getLast ne ∉ row.dropLast := fun z => h2.2.2 _ z _ (List.mem_singleton_self _) rfl
      refine ⟨row.dropLast, mem_ords.mpr ⟨hl, h2.1, fun x hx => h3 x (List.dropLast_subset row hx)⟩, ?_⟩
      refine List.mem_map.mpr ⟨row.getLast ne, ?_, e⟩
      rw [List.mem_filter]
      refine ⟨hlast, ?_⟩
      cases c : row.dropLast.contains (row.getLast ne) with
      | false => rfl
      | true => exact absurd (List.contains_iff_mem.mp c) hni
/-- as many different records of a group as it has: all of them -/
theorem perm_of_sub : ∀ {row gp : List Nat}, row.Nodup → (∀ x ∈ row, x ∈ gp) → row.length = gp.length → row.Perm gp
  | [], gp, _, _, h => by
    rw [List.length_eq_zero_iff.mp h.symm]
  | x :: row, gp, nd, sub, h => by
    have hx := sub x (List.mem_cons_self ..)
    have nd' := List.nodup_cons.mp nd
    have p := List.perm_cons_erase hx
    have ih := perm_of_sub (row := row) (gp := gp.erase x) nd'.2 (fun y hy => (List.mem_erase_of_ne (fun z => nd'.1 (by rw [← z]; exact hy))).mpr (sub y (List.mem_cons_of_mem _ hy))) (by
      rw [List.length_erase_of_mem hx]
      simp at h
      omega)
    exact (List.Perm.cons x ih).trans p.symm
end Pm

namespace Pm
/-- the labels of any image whose entries are records -/
structure LabG (ys : List Nat) (i : Nat) (L : List Nat) : Prop where
  len : L.length = ys.length
  le : ∀ x, x < ys.length → L.getD x 0 ≤ x
  idem : ∀ x, x < ys.length → L.getD (L.getD x 0) 0 = L.getD x 0
  ed : ∀ x, x < i → L.getD x 0 = L.getD (ys.getD x 0) 0
theorem labG_ok {ys : List Nat} (ok : ∀ x, x < ys.length → ys.getD x 0 < ys.length) : ∀ i, i ≤ ys.length → LabG ys i (lab ys i)
  | 0, _ => by
    refine ⟨List.length_range, fun x hx => ?_, fun x hx => ?_, fun x hx => absurd hx (Nat.not_lt_zero _)⟩
    · show (List.range ys.length).getD x 0 ≤ x
      rw [getD_range hx]
      exact Nat.le_refl _
    · show (List.range ys.length).getD ((List.range ys.length).getD x 0) 0 = (List.range ys.length).getD x 0
      rw [getD_range hx, getD_range hx]
  | i + 1, h => by
    have Q := labG_ok ok i (by omega)
    show LabG ys (i + 1) (stepL (lab ys i) i (ys.getD i 0))
    generalize lab ys i = L at Q
    have hi : i < ys.length := by omega
    have hn := ok i hi
    unfold stepL
    by_cases e : min (L.getD i 0) (L.getD (ys.getD i 0) 0) = max (L.getD i 0) (L.getD (ys.getD i 0) 0)
    · rw [if_pos e]
      refine ⟨Q.len, Q.le, Q.idem, fun x hx => ?_⟩
      by_cases c : x = i
      · subst c
        omega
      · exact Q.ed x (by omega)
    · rw [if_neg e]
      have l1 := Q.le i hi
      have l2 := Q.le _ hn
      have d1 := Q.idem i hi
      have d2 := Q.idem _ hn
      have hlo : L.getD (min (L.getD i 0) (L.getD (ys.getD i 0) 0)) 0 = min (L.getD i 0) (L.getD (ys.getD i 0) 0) := by
        rcases Nat.le_total (L.getD i 0) (L.getD (ys.getD i 0) 0) with c | c
        · rw [Nat.min_eq_left c]
          exact d1
        · rw [Nat.min_eq_right c]
          exact d2
      have hends : (L.getD i 0 = min (L.getD i 0) (L.getD (ys.getD i 0) 0) ∧ L.getD (ys.getD i 0) 0 = max (L.getD i 0) (L.getD (ys.getD i 0) 0)) ∨ (L.getD i 0 = max (L.getD i 0) (L.getD (ys.getD i 0) 0) ∧ L.getD (ys.getD i 0) 0 = min (L.getD i 0) (L.getD (ys.getD i 0) 0)) := by omega
      have hlt : min (L.getD i 0) (L.getD (ys.getD i 0) 0) < ys.length := by omega
      have lu : min (L.getD i 0) (L.getD (ys.getD i 0) 0) < max (L.getD i 0) (L.getD (ys.getD i 0) 0) := by omega
      generalize min (L.getD i 0) (L.getD (ys.getD i 0) 0) = lo at *
      generalize max (L.getD i 0) (L.getD (ys.getD i 0) 0) = up at *
      have new : ∀ x, x < ys.length → (L.map fun o => if o = up then lo else o).getD x 0 = if L.getD x 0 = up then lo else L.getD x 0 := fun x hx => getD_map (f := fun o => if o = up then lo else o) (by rw [Q.len]; exact hx)
      refine ⟨by rw [List.length_map]; exact Q.len, fun x hx => ?_, fun x hx => ?_, fun x hx => ?_⟩
      · rw [new x hx]
        have := Q.le x hx
        split <;> omega
      · rw [new x hx]
        have lx := Q.le x hx
        by_cases c : L.getD x 0 = up
        · rw [if_pos c, new lo hlt, hlo, if_neg (by omega)]
        · rw [if_neg c, new _ (by omega), Q.idem x hx, if_neg c]
      · have hx' : x < ys.length := by omega
        rw [new x hx', new _ (ok x hx')]
        by_cases c : x = i
        · subst c
          rcases hends with ⟨a, b⟩ | ⟨a, b⟩
          · rw [a, b, if_neg (by omega), if_pos rfl]
          · rw [a, b, if_pos rfl, if_neg (by omega)]
        · rw [Q.ed x (by omega)]
end Pm

namespace Pm
structure Fits (g : Nat → Nat) (row : List Nat) (w : Nat) : Prop where
  len : row.length = (form w).length
  sh : ∀ k, k < row.length → g (row.getD k 0) = row.getD ((form w).getD k 0) 0
  can : Canon (w, row)
def FormOf (g : Nat → Nat) (gp : List Nat) : Option Bk → Prop
  | none => ∀ (w : Nat) (row : List Nat), w < 8 → row.Perm gp → ¬ Fits g row w
  | some b => b.1 < 8 ∧ b.2.Perm gp ∧ Fits g b.2 b.1
/-! ### the labels of any image, its groups -/
def labF (ys : List Nat) (x : Nat) : Nat := (lab ys ys.length).getD x 0
def rootsF (ys : List Nat) : List Nat := (List.range ys.length).filter fun x => decide (labF ys x = x)
def grpF (ys : List Nat) (r : Nat) : List Nat := (List.range ys.length).filter fun y => decide (labF ys y = r)
def Rec (ys : List Nat) : Prop := ∀ x, x < ys.length → ys.getD x 0 < ys.length
section
variable {ys : List Nat}
theorem mem_grpF {r x : Nat} : x ∈ grpF ys r ↔ x < ys.length ∧ labF ys x = r := by
  unfold grpF
  rw [List.mem_filter, List.mem_range]
  simp
theorem grpF_asc (r : Nat) : (grpF ys r).Pairwise (· < ·) := List.pairwise_lt_range.filter _
theorem grpF_closed (ok : Rec ys) {r x : Nat} (h : x ∈ grpF ys r) : ys.getD x 0 ∈ grpF ys r := by
  have h := mem_grpF.mp h
  refine mem_grpF.mpr ⟨ok x h.1, ?_⟩
  rw [← h.2]
  exact ((labG_ok ok ys.length (Nat.le_refl _)).ed x h.1).symm
theorem grpF_len (r : Nat) : (grpF ys r).length ≤ ys.length := by
  have := List.length_filter_le (fun y => decide (labF ys y = r)) (List.range ys.length)
  rw [List.length_range] at this
  exact this
theorem root_mem {r : Nat} (h : r ∈ rootsF ys) : r ∈ grpF ys r := by
  unfold rootsF at h
  rw [List.mem_filter, List.mem_range] at h
  exact mem_grpF.mpr ⟨h.1, by simpa using h.2⟩
theorem root_ne {r : Nat} (h : r ∈ rootsF ys) : grpF ys r ≠ [] := fun z => by
  have := root_mem h
  rw [z] at this
  cases this
end
/-! ### the walk through any group -/
def wk (g : Nat → Nat) : Nat → Nat → List Nat → List Nat
  | 0, _, R => R
  | m + 1, h, R => if R.contains h then R else wk g m (g h) (R ++ [h])
/-- a group: closed, ascending, not empty -/
structure Gp (g : Nat → Nat) (gp : List Nat) : Prop where
  asc : gp.Pairwise (· < ·)
  cl : ∀ x ∈ gp, g x ∈ gp
  ne : gp ≠ []
def startF (g : Nat → Nat) (gp : List Nat) : Nat := match gp.filter fun x => !(gp.map g).contains x with
  | [] => gp.headD 0
  | x :: _ => x
def walkF (g : Nat → Nat) (gp : List Nat) : List Nat := wk g (gp.length + 1) (startF g gp) []
def rowF (g : Nat → Nat) (gp : List Nat) : List Nat := walkF g gp ++ gp.filter fun x => !(walkF g gp).contains x
def shapeF (g : Nat → Nat) (row : List Nat) : List Nat := row.map fun x => row.idxOf (g x)
def pieceF (g : Nat → Nat) (gp : List Nat) : Option Bk := ((List.range 8).find? fun w => decide (form w = shapeF g (rowF g gp))).map fun w => (w, rowF g gp)
section
variable {g : Nat → Nat} {gp : List Nat}
theorem Gp.nd (G : Gp g gp) : gp.Nodup := G.asc.imp fun {a b} h => Nat.ne_of_lt h
theorem Gp.start (G : Gp g gp) : startF g gp ∈ gp := by
  unfold startF
  split
  · cases gp with
    | nil => exact absurd rfl G.ne
    | cons a l => exact List.mem_cons_self ..
  · rename_i x l e
    have : x ∈ gp.filter fun x => !(gp.map g).contains x := by rw [e]; exact List.mem_cons_self ..
    exact (List.mem_filter.mp this).1
theorem nd_len : ∀ {R gp : List Nat}, R.Nodup → (∀ x ∈ R, x ∈ gp) → R.length ≤ gp.length
  | [], _, _, _ => Nat.zero_le _
  | x :: R, gp, nd, sub => by
    have nd' := List.nodup_cons.mp nd
    have hx := sub x (List.mem_cons_self ..)
    have ih := nd_len (R := R) (gp := gp.erase x) nd'.2 fun y hy => (List.mem_erase_of_ne (fun z => nd'.1 (by rw [← z]; exact hy))).mpr (sub y (List.mem_cons_of_mem _ hy))
    have := List.length_erase_of_mem hx
    have hp : 0 < gp.length := List.length_pos_of_mem hx
    show R.length + 1 ≤ gp.length
    omega
theorem nd_app {R : List Nat} {h : Nat} (nd : R.Nodup) (c : R.contains h = false) : (R ++ [h]).Nodup := by
  rw [List.nodup_append]
  refine ⟨nd, by simp, fun a ha b hb e => ?_⟩
  rw [List.mem_singleton] at hb
  rw [e, hb] at ha
  rw [List.contains_iff_mem.mpr ha] at c
  cases c
theorem Gp.wk_ok (G : Gp g gp) : ∀ (m h : Nat) (R : List Nat), R.Nodup → (∀ x ∈ R, x ∈ gp) → h ∈ gp → gp.length + 1 = m + R.length →
    (wk g m h R).Nodup ∧ (∀ x ∈ wk g m h R, x ∈ gp) ∧ ∃ S, wk g m h R = R ++ S ∧ (R = [] → S.head? = some h)
  | 0, h, R, nd, sub, hh, e => by
    have := nd_len nd sub
    omega
  | m + 1, h, R, nd, sub, hh, e => by
    unfold Pm.wk
    cases c : R.contains h with
    | true =>
      rw [if_pos rfl]
      refine ⟨nd, sub, [], (List.append_nil _).symm, fun z => ?_⟩
      rw [z] at c
      cases c
    | false =>
      rw [if_neg (by decide)]
      obtain ⟨a, b, S, h1, h2⟩ := G.wk_ok m (g h) (R ++ [h]) (nd_app nd c) (fun x hx => by
        rcases List.mem_append.mp hx with hx | hx
        · exact sub x hx
        · rw [List.mem_singleton.mp hx]
          exact hh) (G.cl h hh) (by rw [List.length_append]; show _ = m + (R.length + 1); omega)
      refine ⟨a, b, h :: S, by rw [h1, List.append_assoc]; rfl, fun _ => rfl⟩
theorem Gp.walk (G : Gp g gp) : (walkF g gp).Nodup ∧ (∀ x ∈ walkF g gp, x ∈ gp) ∧ (walkF g gp).head? = some (startF g gp) := by
  obtain ⟨a, b, S, h1, h2⟩ := G.wk_ok (gp.length + 1) (startF g gp) [] List.nodup_nil (fun _ h => nomatch h) G.start rfl
  exact ⟨a, b, by
    show (wk g (gp.length + 1) (startF g gp) []).head? = _
    rw [h1]
    exact h2 rfl⟩
theorem Gp.row_mem (G : Gp g gp) {x : Nat} : x ∈ rowF g gp ↔ x ∈ gp := by
  unfold rowF
  rw [List.mem_append, List.mem_filter]
  constructor
  · rintro (h | h)
    · exact G.walk.2.1 x h
    · exact h.1
  · intro h
    cases c : (walkF g gp).contains x with
    | true => exact Or.inl (List.contains_iff_mem.mp c)
    | false => exact Or.inr ⟨h, rfl⟩
theorem Gp.row_nd (G : Gp g gp) : (rowF g gp).Nodup := by
  unfold rowF
  rw [List.nodup_append]
  refine ⟨G.walk.1, nodup_filter _ G.nd, fun a ha b hb e => ?_⟩
  rw [e] at ha
  have := (List.mem_filter.mp hb).2
  rw [List.contains_iff_mem.mpr ha] at this
  cases this
theorem perm_of_mem {a b : List Nat} (na : a.Nodup) (nb : b.Nodup) (h : ∀ x, x ∈ a ↔ x ∈ b) : a.Perm b :=
  perm_of_sub na (fun x hx => (h x).mp hx) (Nat.le_antisymm (nd_len na fun x hx => (h x).mp hx) (nd_len nb fun x hx => (h x).mpr hx))
theorem Gp.row_perm (G : Gp g gp) : gp.Perm (rowF g gp) := perm_of_mem G.nd G.row_nd fun x => G.row_mem.symm
theorem Gp.row_len (G : Gp g gp) : (rowF g gp).length = gp.length := G.row_perm.length_eq.symm
theorem headD_of {l : List Nat} {x : Nat} (h : l.head? = some x) : l.getD 0 0 = x := by
  cases l with
  | nil => cases h
  | cons a l => exact Option.some.inj h
theorem head_app {l m : List Nat} {x : Nat} (h : l.head? = some x) : (l ++ m).head? = some x := by
  cases l with
  | nil => cases h
  | cons a l => exact h
theorem Gp.row_0 (G : Gp g gp) : (rowF g gp).getD 0 0 = startF g gp := headD_of (head_app G.walk.2.2)
theorem Gp.start_1 (G : Gp g gp) (h : (gp.filter fun x => !(gp.map g).contains x) = []) : gp.head? = some (startF g gp) := by
  unfold startF
  rw [h]
  cases gp with
  | nil => exact absurd rfl G.ne
  | cons a l => rfl
theorem Gp.start_2 (h : (gp.filter fun x => !(gp.map g).contains x) ≠ []) : (gp.filter fun x => !(gp.map g).contains x).head? = some (startF g gp) := by
  unfold startF
  cases e : gp.filter fun x => !(gp.map g).contains x with
  | nil => exact absurd e h
  | cons a l => rfl
theorem getD_take_mem {p : List Nat} {j : Nat} : ∀ {x : Nat}, x ∈ p.take j → ∃ k, k < j ∧ k < p.length ∧ p.getD k 0 = x := fun {x} h => by
  obtain ⟨k, hk, e⟩ := List.getElem_of_mem h
  rw [List.length_take] at hk
  rw [List.getElem_take] at e
  refine ⟨k, by omega, by omega, ?_⟩
  rw [List.getD_eq_getElem?_getD, List.getElem?_eq_getElem (by omega)]
  exact e
theorem walks_notin {g : Nat → Nat} {p : List Nat} (w : Walks g p) {j : Nat} (h : j < p.length) : (p.take j).contains (p.getD j 0) = false := by
  cases c : (p.take j).contains (p.getD j 0) with
  | false => rfl
  | true =>
    rw [List.contains_iff_mem] at c
    obtain ⟨k, h1, h2, e⟩ := getD_take_mem c
    rw [List.getD_eq_getElem?_getD, List.getD_eq_getElem?_getD, List.getElem?_eq_getElem h2, List.getElem?_eq_getElem h] at e
    have := (List.getElem_inj (h₀ := h2) (h₁ := h) w.nd).mp e
    omega
theorem take_one {p : List Nat} {j : Nat} (h : j < p.length) : p.take (j + 1) = p.take j ++ [p.getD j 0] := by
  rw [List.take_add_one, List.getElem?_eq_getElem h, List.getD_eq_getElem?_getD, List.getElem?_eq_getElem h]
  rfl
/-- a walk that is known is what the walk finds -/
theorem wk_of {p : List Nat} (W : Walks g p) : ∀ (m j : Nat), j ≤ p.length → p.length < m + j → wk g m (if j < p.length then p.getD j 0 else g (p.getD (p.length - 1) 0)) (p.take j) = p
  | 0, j, h1, h2 => absurd h1 (by omega)
  | m + 1, j, h1, h2 => by
    have hni := fun j h => walks_notin W (j := j) h
    unfold wk
    by_cases c : j < p.length
    · rw [if_pos c, hni j c, if_neg (by decide), ← take_one c]
      have := wk_of W m (j + 1) (by omega) (by omega)
      have e : g (p.getD j 0) = (if j + 1 < p.length then p.getD (j + 1) 0 else g (p.getD (p.length - 1) 0)) := by
        split
        · exact W.next j (by assumption)
        · rw [show p.length - 1 = j by omega]
      rw [e]
      exact this
    · rw [if_neg c, List.take_of_length_le (by omega), List.contains_iff_mem.mpr W.back, if_pos rfl]
theorem Grp.startF_eq {b : Bk} (B : Grp g gp b) (hne : gp ≠ []) : startF g gp = b.2.getD 0 0 := by
  obtain ⟨h1, h2⟩ := B.start _ rfl
  unfold startF
  cases e : gp.filter fun x => !(gp.map g).contains x with
  | nil =>
    have := h1 e
    cases gp with
    | nil => exact absurd rfl hne
    | cons a l => exact Option.some.inj this
  | cons a l =>
    have := h2 (by rw [e]; exact List.cons_ne_nil _ _)
    rw [e] at this
    exact Option.some.inj this
theorem path_le' {b : Bk} (B : Grp g gp b) : (path b).length ≤ gp.length := by
  have h := congrArg List.length B.left
  have h2 := B.perm.length_eq
  rw [List.length_append] at h
  omega
theorem Grp.rowF_eq {b : Bk} (B : Grp g gp b) (hne : gp ≠ []) : rowF g gp = b.2 := by
  have W := B.walks
  have e : walkF g gp = path b := by
    unfold walkF
    rw [B.startF_eq hne, ← path_0]
    have := wk_of W (gp.length + 1) 0 (Nat.zero_le _) (by have := path_le' B; omega)
    rw [if_pos W.pos] at this
    exact this
  unfold rowF
  rw [e]
  exact B.left
theorem idx_nd {row : List Nat} (nd : row.Nodup) {k : Nat} (h : k < row.length) : row.idxOf (row.getD k 0) = k := by
  rw [List.getD_eq_getElem?_getD, List.getElem?_eq_getElem h]
  exact nd.idxOf_getElem k h
theorem Fits.shape {row : List Nat} {w : Nat} (F : Fits g row w) (nd : row.Nodup) : shapeF g row = form w := by
  unfold shapeF
  refine List.ext_getElem (by rw [List.length_map, F.len]) fun k h1 h2 => ?_
  rw [List.length_map] at h1
  rw [List.getElem_map]
  have e := F.sh k h1
  rw [List.getD_eq_getElem?_getD, List.getElem?_eq_getElem h1] at e
  have e : g row[k] = row.getD ((form w).getD k 0) 0 := e
  rw [e, idx_nd nd (by rw [F.len]; exact form_lt w k h2)]
  rw [List.getD_eq_getElem?_getD, List.getElem?_eq_getElem h2]
  rfl
theorem idx_mem {row : List Nat} {x : Nat} (h : x ∈ row) : row.getD (row.idxOf x) 0 = x := by
  have hl := List.idxOf_lt_length_of_mem h
  rw [List.getD_eq_getElem?_getD, List.getElem?_eq_getElem hl]
  exact List.getElem_idxOf hl
theorem Gp.grp_of (G : Gp g gp) {w : Nat} (hw : w < 8) (e : shapeF g (rowF g gp) = form w) : Grp g gp (w, rowF g gp) ∧ Fits g (rowF g gp) w := by
  have hl : (rowF g gp).length = (form w).length := by
    rw [← e]
    unfold shapeF
    rw [List.length_map]
  have sh : ∀ k, k < (rowF g gp).length → g ((rowF g gp).getD k 0) = (rowF g gp).getD ((form w).getD k 0) 0 := fun k hk => by
    have h1 : (form w).getD k 0 = (rowF g gp).idxOf (g ((rowF g gp).getD k 0)) := by
      rw [← e]
      unfold shapeF
      rw [List.getD_eq_getElem?_getD, List.getElem?_map, List.getElem?_eq_getElem hk, List.getD_eq_getElem?_getD, List.getElem?_eq_getElem hk]
      rfl
    have hm : g ((rowF g gp).getD k 0) ∈ rowF g gp := G.row_mem.mpr (G.cl _ (G.row_mem.mp (getD_mem hk)))
    rw [h1, idx_mem hm]
  have B : Grp g gp (w, rowF g gp) := Grp.of_row G.asc G.row_perm hw hl sh (fun h => by rw [G.row_0]; exact G.start_1 h) (fun h => by rw [G.row_0]; exact Gp.start_2 h)
  exact ⟨B, hl, sh, B.can⟩
theorem grp_of_fits {row : List Nat} {w : Nat} (asc : gp.Pairwise (· < ·)) (hw : w < 8) (p : row.Perm gp) (F : Fits g row w) : Grp g gp (w, row) := ⟨asc, p.symm, cs_of hw F.len F.sh, F.can⟩
theorem form_inj : ∀ {w v : Nat}, w < 8 → v < 8 → form w = form v → w = v := by
  have d : ∀ w v : Fin 8, form w.val = form v.val → w = v := by decide
  intro w v hw hv h
  exact congrArg Fin.val (d ⟨w, hw⟩ ⟨v, hv⟩ h)
theorem Gp.piece_of (G : Gp g gp) {row : List Nat} {w : Nat} (hw : w < 8) (p : row.Perm gp) (F : Fits g row w) : pieceF g gp = some (w, row) := by
  have B := grp_of_fits G.asc hw p F
  have e : rowF g gp = row := B.rowF_eq G.ne
  have nd : row.Nodup := p.nodup_iff.mpr G.nd
  unfold pieceF
  rw [e, F.shape nd]
  cases h : (List.range 8).find? fun v => decide (form v = form w) with
  | none =>
    have := List.find?_eq_none.mp h w (List.mem_range.mpr hw)
    simp at this
  | some v =>
    have h1 := List.mem_range.mp (List.mem_of_find?_eq_some h)
    have h2 := List.find?_some h
    rw [form_inj h1 hw (by simpa using h2)]
    rfl
theorem Gp.formOf (G : Gp g gp) : FormOf g gp (pieceF g gp) := by
  cases h : pieceF g gp with
  | none =>
    intro w row hw hp F
    rw [G.piece_of hw hp F] at h
    cases h
  | some b =>
    unfold pieceF at h
    cases hf : (List.range 8).find? fun w => decide (form w = shapeF g (rowF g gp)) with
    | none => rw [hf] at h; cases h
    | some w =>
      rw [hf] at h
      have h := Option.some.inj h
      subst h
      have hw := List.mem_range.mp (List.mem_of_find?_eq_some hf)
      have e := List.find?_some hf
      have F := (G.grp_of hw (by simpa using (of_decide_eq_true e).symm)).2
      exact ⟨hw, G.row_perm.symm, F⟩
theorem Gp.form_one (G : Gp g gp) {o : Option Bk} (h : FormOf g gp o) : o = pieceF g gp := by
  have h2 := G.formOf
  cases o with
  | some b => exact (G.piece_of h.1 h.2.1 h.2.2).symm
  | none =>
    cases e : pieceF g gp with
    | none => rfl
    | some b =>
      rw [e] at h2
      exact absurd h2.2.2 (h b.1 b.2 h2.1 h2.2.1)
theorem Gp.grp (G : Gp g gp) {b : Bk} (h : pieceF g gp = some b) : Grp g gp b ∧ b.1 < 8 := by
  have h2 := G.formOf
  rw [h] at h2
  exact ⟨grp_of_fits G.asc h2.1 h2.2.1 h2.2.2, h2.1⟩
end
theorem gp_of {ys : List Nat} (ok : Rec ys) {r : Nat} (h : r ∈ rootsF ys) : Gp (fun x => ys.getD x 0) (grpF ys r) := ⟨grpF_asc r, fun _ hx => grpF_closed ok hx, root_ne h⟩
/-- all groups, in order; the first one that is no piece -/
def gpsF (ys : List Nat) : List (List Nat) := (rootsF ys).map (grpF ys)
def formsF (ys : List Nat) : List (Option Bk) := (gpsF ys).map (pieceF fun x => ys.getD x 0)
def badF (ys : List Nat) : Option (List Nat) := (gpsF ys).find? fun gp => (pieceF (fun x => ys.getD x 0) gp).isNone
end Pm

namespace Pv
open PySem L2 Evl Pm
def nI (xs : List Nat) : List V := xs.map fun x : Nat => V.int (x : Int)
def ListN (H : Hp) (p : Addr) (xs : List Nat) : Prop := H p = some (.lst (nI xs))
theorem nI_len (xs : List Nat) : (nI xs).length = xs.length := List.length_map ..
theorem ListN.sz {K : PySem.W.Frag} {H : Hp} {p : Addr} {xs : List Nat} (h : ListN H p xs) : SqL K H p (nI xs) := SqL.of h
theorem ListN.ex {H H1 : Hp} {a : Addr} {xs : List Nat} (e : Ex H H1) (h : ListN H a xs) : ListN H1 a xs := e a _ h
theorem nat_at {ns : List Nat} {i : Nat} {y : V} (h : (nI ns)[i]? = some y) : i < ns.length ∧ y = V.int ((ns.getD i 0 : Nat) : Int) := by
  unfold nI at h
  rw [List.getElem?_map] at h
  cases e : ns[i]? with
  | none =>
    rw [e] at h
    cases h
  | some z =>
    rw [e] at h
    refine ⟨(List.getElem?_eq_some_iff.mp e).1, ?_⟩
    rw [List.getD_eq_getElem?_getD, e]
    exact (Option.some.inj h).symm
theorem ixN_ {xs : List Nat} {j : Nat} (h : j < xs.length) : (nI xs)[j]? = some (V.int ((xs.getD j 0 : Nat) : Int)) := by
  unfold nI
  rw [List.getElem?_map, List.getD_eq_getElem?_getD, List.getElem?_eq_getElem h]
  rfl
theorem atN {xs : List Nat} {j : Nat} (h : j < xs.length) : atI (nI xs) (j : Int) = some (V.int ((xs.getD j 0 : Nat) : Int)) := atI_nat (ixN_ h)
theorem ex_new {H H1 : Hp} {p : Addr} {o : HO} (e : Ex H H1) (h : H1 p = none) : Ex H (upd H1 p o) := e.trans (Ex.new h)
theorem nI_app {xs : List Nat} {v : Nat} : nI (xs ++ [v]) = nI xs ++ [V.int (v : Int)] := by
  unfold nI
  rw [List.map_append]
  rfl
theorem acc_step {G H' : Hp} {D : Addr} {ls : List Nat} {v : Nat} (hD : G D = none) (e : Ex G H') : Ex G (upd H' D (.lst (nI ls ++ [V.int (v : Int)]))) ∧ ListN (upd H' D (.lst (nI ls ++ [V.int (v : Int)]))) D (ls ++ [v]) := by
  refine ⟨fun b o hb => ?_, ?_⟩
  · rw [upd_ne (ne_of_none hb hD)]
    exact e b o hb
  · show upd H' D _ D = _
    rw [upd_same, nI_app]
theorem take_map_succ {xs : List Nat} {j : Nat} (h : j < xs.length) (f : Nat → Nat) : (xs.take (j + 1)).map f = (xs.take j).map f ++ [f (xs.getD j 0)] := by
  rw [List.take_add_one, List.getElem?_eq_getElem h, List.map_append, List.getD_eq_getElem?_getD, List.getElem?_eq_getElem h]
  rfl
theorem take_succ {xs : List Nat} {j : Nat} (h : j < xs.length) : xs.take (j + 1) = xs.take j ++ [xs.getD j 0] := by
  rw [List.take_add_one, List.getElem?_eq_getElem h, List.getD_eq_getElem?_getD, List.getElem?_eq_getElem h]
  rfl
theorem take_filter_pos {xs : List Nat} {j : Nat} (h : j < xs.length) {q : Nat → Bool} (c : q (xs.getD j 0) = true) : (xs.take (j + 1)).filter q = (xs.take j).filter q ++ [xs.getD j 0] := by
  rw [take_succ h, List.filter_append, List.filter_cons, if_pos c]
  rfl
theorem take_filter_neg {xs : List Nat} {j : Nat} (h : j < xs.length) {q : Nat → Bool} (c : q (xs.getD j 0) = false) : (xs.take (j + 1)).filter q = (xs.take j).filter q := by
  rw [take_succ h, List.filter_append, List.filter_cons, if_neg (by rw [c]; decide)]
  exact List.append_nil _
theorem flat_nI : ∀ xs : List Nat, (nI xs).all flatV = true
  | [] => rfl
  | _ :: xs => flat_nI xs
theorem inV_nI {x : Nat} : ∀ xs : List Nat, inV (V.int (x : Int)) (nI xs) = xs.contains x
  | [] => rfl
  | y :: xs => by
    show (eqV (V.int (y : Int)) (V.int (x : Int)) || inV (V.int (x : Int)) (nI xs)) = _
    rw [inV_nI xs, List.contains_cons]
    congr 1
    show ((y : Int) == (x : Int)) = (x == y)
    rw [Bool.eq_iff_iff, beq_iff_eq, beq_iff_eq]
    omega
theorem eqV_nat {x y : Nat} : eqV (V.int (x : Int)) (V.int (y : Int)) = true ↔ x = y := by
  show ((x : Int) == (y : Int)) = true ↔ _
  rw [beq_iff_eq]
  omega
/-! ### images of any integers -/
def ListI' (H : Hp) (p : Addr) (xs : List Int) : Prop := H p = some (.lst (xs.map V.int))
def badN (xs : List Int) (k : Nat) : Bool := decide (xs.getD k 0 < 0) || decide ((xs.length : Int) ≤ xs.getD k 0)
def firstOf (p : Nat → Bool) (n : Nat) : Option Nat := (List.range n).find? p
theorem firstOf_some {p : Nat → Bool} {n i : Nat} (hi : i < n) (hp : p i = true) (h : ∀ j, j < i → p j = false) : firstOf p n = some i := by
  unfold firstOf
  rw [List.find?_range_eq_some]
  exact ⟨hp, List.mem_range.mpr hi, fun j hj => by rw [h j hj]; rfl⟩
theorem firstOf_none {p : Nat → Bool} {n : Nat} (h : ∀ j, j < n → p j = false) : firstOf p n = none := by
  unfold firstOf
  rw [List.find?_range_eq_none]
  exact fun j hj => by rw [h j hj]; rfl
theorem firstOf_no {p : Nat → Bool} {n : Nat} (h : firstOf p n = none) : ∀ j, j < n → p j = false := by
  unfold firstOf at h
  rw [List.find?_range_eq_none] at h
  intro j hj
  have := h j hj
  simpa using this
theorem firstOf_is {p : Nat → Bool} {n i : Nat} (h : firstOf p n = some i) : i < n ∧ p i = true ∧ ∀ j, j < i → p j = false := by
  unfold firstOf at h
  rw [List.find?_range_eq_some] at h
  exact ⟨List.mem_range.mp h.2.1, h.1, fun j hj => by have := h.2.2 j hj; simpa using this⟩
/-- the first entry that is no record -/
def strayI (xs : List Int) : Option Nat := firstOf (badN xs) xs.length
/-- the image as records -/
def natI (xs : List Int) : List Nat := xs.map Int.toNat
theorem natI_len {xs : List Int} : (natI xs).length = xs.length := List.length_map ..
theorem natI_at {xs : List Int} (h : strayI xs = none) {k : Nat} (hk : k < xs.length) : xs.getD k 0 = (((natI xs).getD k 0 : Nat) : Int) ∧ (natI xs).getD k 0 < xs.length := by
  have q := firstOf_no h k hk
  unfold badN at q
  rw [Bool.or_eq_false_iff] at q
  have q1 := of_decide_eq_false q.1
  have q2 := of_decide_eq_false q.2
  have e : (natI xs).getD k 0 = (xs.getD k 0).toNat := by
    unfold natI
    rw [List.getD_eq_getElem?_getD, List.getElem?_map, List.getD_eq_getElem?_getD, List.getElem?_eq_getElem hk]
    rfl
  rw [e]
  omega
theorem natI_map {xs : List Int} (h : strayI xs = none) : nI (natI xs) = xs.map V.int := by
  unfold nI natI
  rw [List.map_map]
  refine List.ext_getElem (by rw [List.length_map, List.length_map]) fun k h1 h2 => ?_
  rw [List.length_map] at h1
  rw [List.getElem_map, List.getElem_map]
  have := (natI_at h h1).1
  have e : (natI xs).getD k 0 = (xs.getD k 0).toNat := by
    unfold natI
    rw [List.getD_eq_getElem?_getD, List.getElem?_map, List.getD_eq_getElem?_getD, List.getElem?_eq_getElem h1]
    rfl
  rw [e, List.getD_eq_getElem?_getD, List.getElem?_eq_getElem h1] at this
  exact congrArg V.int this.symm
theorem natI_rec {xs : List Int} (h : strayI xs = none) : Rec (natI xs) := fun x hx => by
  rw [natI_len] at hx ⊢
  exact (natI_at h hx).2
theorem natI_at' {H : Hp} {a : Addr} {xs : List Int} (h : strayI xs = none) (hx : H a = some (.lst (xs.map V.int))) : ListN H a (natI xs) := by
  show H a = _
  rw [hx, natI_map h]
theorem ListN.int {H : Hp} {a : Addr} {ys : List Nat} (h : ListN H a ys) : ListN H a ys := h
/-! ### promises of the program -/
def gN (ys : List Nat) : Nat → Nat := fun x => ys.getD x 0
def RzI (A : Ad) (k : Nat) (H : Hp) (E : XK) : Prop := ∀ d H', Ex H H' → H' d = some (.xd [("record", .int (k : Int))]) → E (.ref A.InvalidImage) (some d) H'
def RzG (A : Ad) (gp : List Nat) (H : Hp) (E : XK) : Prop := ∀ d p H', Ex H H' → H' d = some (.xd [("group", .ref p)]) → ListN H' p gp → E (.ref A.Unrepairable) (some d) H'
theorem RzI.mono {A : Ad} {k : Nat} {H H1 : Hp} {E : XK} (e : Ex H H1) (h : RzI A k H E) : RzI A k H1 E := fun d H' e' hd => h d H' (e.trans e') hd
theorem RzG.mono {A : Ad} {gp : List Nat} {H H1 : Hp} {E : XK} (e : Ex H H1) (h : RzG A gp H E) : RzG A gp H1 E := fun d p H' e' hd hp => h d p H' (e.trans e') hd hp
def PieceAt (H : Hp) (q : Addr) (b : Bk) : Prop := ∃ t, H q = some (.tup [.str (word b.1), .ref t]) ∧ H t = some (.tup (nI b.2))
theorem PieceAt.ex {H H1 : Hp} {q : Addr} {b : Bk} (e : Ex H H1) (h : PieceAt H q b) : PieceAt H1 q b := by
  obtain ⟨t, h1, h2⟩ := h
  exact ⟨t, e _ _ h1, e _ _ h2⟩
def All2 (F : Hp → Addr → Bk → Prop) (H : Hp) (p : Addr) (bs : List Bk) : Prop := ∃ qs : List Addr, H p = some (.lst (qs.map V.ref)) ∧ qs.length = bs.length ∧ ∀ (i : Nat) (q : Addr) (b : Bk), qs[i]? = some q → bs[i]? = some b → F H q b
def spOwn : Sp := fun vs H Q _ => ∃ (l : Addr) (xs : List V), vs = [.ref l] ∧ H l = some (.lst xs) ∧ ∀ p, H p = none → Q (.ref p) (upd H p (.lst xs))
def spInit (C : Addr) (f : Str) : Sp := fun vs H Q _ => ∃ (a : Addr) (v : V), vs = [.ref a, v] ∧ H a = some (exo a C none) ∧ ∀ dx, H dx = none → dx ≠ a → Q .non (upd (upd H dx (exd dx [(f, v)])) a (exo a C (some dx)))
def spInitL (C : Addr) (f : Str) : Sp := fun vs H Q _ => ∃ (a l : Addr) (xs : List V), vs = [.ref a, .ref l] ∧ H a = some (exo a C none) ∧ H l = some (.lst xs) ∧
  ∀ p dx, H p = none → upd H p (.lst xs) dx = none → dx ≠ a → Q .non (upd (upd (upd H p (.lst xs)) dx (exd dx [(f, .ref p)])) a (exo a C (some dx)))
def spCI2 (A : Ad) : Sp := fun vs H Q E => ∃ (a : Addr) (xs : List Int), vs = [.ref a] ∧ H a = some (.lst (xs.map V.int)) ∧ xs.length ≤ 64 ∧ (strayI xs = none → ∀ H', Ex H H' → Q .non H') ∧ ∀ k, strayI xs = some k → RzI A k H E
def spLR : Sp := fun vs H Q _ => ∃ (a : Addr) (ys : List Nat), vs = [.ref a] ∧ ListN H a ys ∧ ys.length ≤ 64 ∧ (∀ i, i < ys.length → ys.getD i 0 < ys.length) ∧ ∀ p H', H p = none → Ex H H' → ListN H' p (lab ys ys.length) → Q (.ref p) H'
/-- the groups, each with its address -/
def GsAt (H H' : Hp) (p : Addr) (ys : List Nat) (gs : List (Nat × Addr)) : Prop := H' p = some (.lst (gs.map fun x => V.ref x.2)) ∧ gs.map (·.1) = rootsF ys ∧ ∀ x ∈ gs, H x.2 = none ∧ x.2 ≠ p ∧ ListN H' x.2 (grpF ys x.1)
def spGr2 (A : Ad) : Sp := fun vs H Q E => ∃ (a : Addr) (xs : List Int), vs = [.ref a] ∧ H a = some (.lst (xs.map V.int)) ∧ xs.length ≤ 64 ∧ (strayI xs = none → ∀ p gs H', H p = none → Ex H H' → GsAt H H' p (natI xs) gs → Q (.ref p) H') ∧ ∀ k, strayI xs = some k → RzI A k H E
def spRow2 : Sp := fun vs H Q _ => ∃ (a g : Addr) (ys gp : List Nat), vs = [.ref a, .ref g] ∧ ListN H a ys ∧ ys.length ≤ 64 ∧ ListN H g gp ∧ Gp (gN ys) gp ∧ (∀ x ∈ gp, x < ys.length) ∧ ∀ p H', H p = none → Ex H H' → ListN H' p (rowF (gN ys) gp) → Q (.ref p) H'
def spPO2 : Sp := fun vs H Q _ => ∃ (a g : Addr) (ys gp : List Nat), vs = [.ref a, .ref g] ∧ ListN H a ys ∧ ys.length ≤ 64 ∧ ListN H g gp ∧ Gp (gN ys) gp ∧ (∀ x ∈ gp, x < ys.length) ∧
  (pieceF (gN ys) gp = none → ∀ H', Ex H H' → Q .non H') ∧ ∀ b, pieceF (gN ys) gp = some b → ∀ p H', H p = none → Ex H H' → PieceAt H' p b → Q (.ref p) H'
/-- what an image comes to -/
def RzP (A : Ad) (xs : List Int) (H : Hp) (E : XK) : Prop := (∀ k, strayI xs = some k → RzI A k H E) ∧ (strayI xs = none → ∀ gp, badF (natI xs) = some gp → RzG A gp H E)
def spPi2 (A : Ad) : Sp := fun vs H Q E => ∃ (a : Addr) (xs : List Int), vs = [.ref a] ∧ H a = some (.lst (xs.map V.int)) ∧ xs.length ≤ 64 ∧
  (strayI xs = none → ∀ bs : List Bk, formsF (natI xs) = bs.map some → ∀ p H', H p = none → Ex H H' → All2 PieceAt H' p bs → Q (.ref p) H') ∧ RzP A xs H E
def spRep2 (A : Ad) : Sp := fun vs H Q E => ∃ (a : Addr) (xs : List Int), vs = [.ref a] ∧ H a = some (.lst (xs.map V.int)) ∧ xs.length ≤ 64 ∧
  (strayI xs = none → ∀ H', Ex H H' → Q (.bl ((formsF (natI xs)).all Option.isSome)) H') ∧ ∀ k, strayI xs = some k → RzI A k H E
/-- of an image that is refused -/
def Refused (xs : List Int) : Prop := strayI xs ≠ none ∨ badF (natI xs) ≠ none
def spRef2 (A : Ad) : Sp := fun vs H Q E => ∃ (a : Addr) (xs : List Int), vs = [.ref a] ∧ H a = some (.lst (xs.map V.int)) ∧ xs.length ≤ 64 ∧ Refused xs ∧ RzP A xs H E
/-- raise X(v), told by what stands behind -/
theorem mkO_go {C : Addr} {f : Str} {v : V} {H1 : Hp} {Q : XK} (k : ∀ d H', Ex H1 H' → H' d = some (.xd [(f, v)]) → Q (.ref C) (some d) H') (e : Addr) (he : H1 e = none) :
    spInit C f (.ref e :: ([v] ++ [])) (upd H1 e (exo e C none)) (fun v H2 => v = .non ∧ ∃ (d : Addr) (fs : List (Str × V)), H2 e = some (exo e C (some d)) ∧ H2 d = some (exd d fs) ∧ H1 d = none ∧ Q (.ref C) (some d) (upd (L2.del H2 e) d (.xd fs))) (fun _ _ _ => False) := by
  refine ⟨e, v, rfl, upd_same, fun dx hdx ne => ⟨rfl, dx, _, upd_same, (by rw [upd_ne ne, upd_same]), ?_, k dx _ ?_ upd_same⟩⟩
  · rw [upd_ne ne] at hdx
    exact hdx
  · rw [upd_ne ne] at hdx
    intro b o hb
    have n1 : b ≠ dx := ne_of_none hb hdx
    have n2 : b ≠ e := ne_of_none hb he
    rw [upd_ne n1, del_ne n2, upd_ne n2, upd_ne n1, upd_ne n2]
    exact hb
/-- raise X(l), l a list that the error copies -/
theorem mkOL_go {C l : Addr} {f : Str} {xs : List V} {H1 : Hp} {Q : XK} (hl : H1 l = some (.lst xs)) (k : ∀ d p H', Ex H1 H' → H' d = some (.xd [(f, .ref p)]) → H' p = some (.lst xs) → Q (.ref C) (some d) H') (e : Addr) (he : H1 e = none) :
    spInitL C f (.ref e :: ([.ref l] ++ [])) (upd H1 e (exo e C none)) (fun v H2 => v = .non ∧ ∃ (d : Addr) (fs : List (Str × V)), H2 e = some (exo e C (some d)) ∧ H2 d = some (exd d fs) ∧ H1 d = none ∧ Q (.ref C) (some d) (upd (L2.del H2 e) d (.xd fs))) (fun _ _ _ => False) := by
  refine ⟨e, l, xs, rfl, upd_same, (by rw [upd_ne (ne_of_none hl he)]; exact hl), fun p dx hp hdx ne => ⟨rfl, dx, _, upd_same, (by rw [upd_ne ne, upd_same]), ?_, k dx p _ ?_ upd_same ?_⟩⟩
  all_goals
    have nep : e ≠ p := ne_of_none upd_same hp
    have hp1 : H1 p = none := by
      rw [upd_ne (Ne.symm nep)] at hp
      exact hp
    have ndp : dx ≠ p := fun z => by rw [z, upd_same] at hdx; cases hdx
    have hdx1 : H1 dx = none := by
      rw [upd_ne ndp, upd_ne ne] at hdx
      exact hdx
  · exact hdx1
  · intro b o hb
    have n1 : b ≠ dx := ne_of_none hb hdx1
    have n2 : b ≠ e := ne_of_none hb he
    have n3 : b ≠ p := ne_of_none hb hp1
    rw [upd_ne n1, del_ne n2, upd_ne n2, upd_ne n1, upd_ne n3, upd_ne n2]
    exact hb
  · rw [upd_ne (Ne.symm ndp), del_ne (Ne.symm nep), upd_ne (Ne.symm nep), upd_ne (Ne.symm ndp), upd_same]
theorem strip_getD_of {xs : List Int} {k : Nat} {z : Int} (h : xs[k]? = some z) : xs.getD k 0 = z := by
  rw [List.getD_eq_getElem?_getD, h]
  rfl
theorem markV_int {xs : List Int} {i : Nat} {y : V} (h : (xs.map V.int)[i]? = some y) : ∃ z, xs[i]? = some z ∧ y = V.int z := by
  rw [List.getElem?_map] at h
  cases e : xs[i]? with
  | none => rw [e] at h; cases h
  | some z =>
    rw [e] at h
    exact ⟨z, rfl, (Option.some.inj h).symm⟩
end Pv

/-! images that are put together of pieces of fifteen shapes, the last seven of them no pieces -/
namespace Pm
def sh15 : List (List Nat) := [[0], [1, 0], [1, 1], [1, 2, 1], [1, 2, 2], [1, 2, 1, 2], [1, 2, 3, 2], [1, 2, 3, 0], [0, 0, 0], [1, 2, 0], [1, 2, 3, 3], [1, 0, 0, 0], [1, 2, 2, 2], [1, 2, 3, 4, 0], [1, 2, 3, 4, 3]]
def shp (k : Nat) : List Nat := sh15.getD k []
theorem shp_form {k : Nat} (h : k < 8) : shp k = form k := by
  have d : ∀ k : Fin 8, shp k.val = form k.val := by decide
  exact d ⟨k, h⟩
theorem shp_in {k : Nat} (h : k < 15) : ∀ j, j < (shp k).length → (shp k).getD j 0 < (shp k).length := by
  have d : ∀ k : Fin 15, ∀ j : Fin 5, j.val < (shp k.val).length → (shp k.val).getD j.val 0 < (shp k.val).length := by decide
  have l : ∀ k : Fin 15, (shp k.val).length ≤ 5 := by decide
  intro j hj
  have := l ⟨k, h⟩
  exact d ⟨k, h⟩ ⟨j, by have : (shp k).length ≤ 5 := this; omega⟩ hj
theorem shp_pos {k : Nat} (h : k < 15) : 0 < (shp k).length ∧ (shp k).length ≤ 5 := by
  have d : ∀ k : Fin 15, 0 < (shp k.val).length ∧ (shp k.val).length ≤ 5 := by decide
  exact d ⟨k, h⟩
/-- pieces of an image of n records, in the order of their least records -/
structure Bd (n : Nat) (bs : List Bk) : Prop where
  pw : ∀ b ∈ bs, b.1 < 15 ∧ b.2.length = (shp b.1).length ∧ (b.1 < 8 → Canon b)
  pm : (bs.flatMap (·.2)).Perm (List.range n)
  ord : (bs.map fun b => mn b.2).Pairwise (· < ·)
/-- the image of them -/
structure Im (ys : List Nat) (n : Nat) (bs : List Bk) : Prop where
  bd : Bd n bs
  len : ys.length = n
  sh : ∀ b ∈ bs, ∀ k, k < b.2.length → ys.getD (b.2.getD k 0) 0 = b.2.getD ((shp b.1).getD k 0) 0
/-! ### labels do not leave a set that is closed both ways -/
theorem lab_f {ys : List Nat} (ok : Rec ys) (f : Nat → Nat) (hf : ∀ x, x < ys.length → f (ys.getD x 0) = f x) : ∀ i, i ≤ ys.length → ∀ x, x < ys.length → f ((lab ys i).getD x 0) = f x
  | 0, _, x, hx => by
    show f ((List.range ys.length).getD x 0) = f x
    rw [List.getD_eq_getElem?_getD, List.getElem?_range hx]
    rfl
  | i + 1, hi, x, hx => by
    have ih := lab_f ok f hf i (by omega)
    have L := labG_ok ok i (by omega)
    have il : i < ys.length := by omega
    have e1 := ih i il
    have e2 := ih _ (ok i il)
    rw [hf i il] at e2
    show f ((stepL (lab ys i) i (ys.getD i 0)).getD x 0) = f x
    unfold stepL
    by_cases c : min ((lab ys i).getD i 0) ((lab ys i).getD (ys.getD i 0) 0) = max ((lab ys i).getD i 0) ((lab ys i).getD (ys.getD i 0) 0)
    · rw [if_pos c]
      exact ih x hx
    · rw [if_neg c]
      have xl : x < (lab ys i).length := by rw [L.len]; exact hx
      rw [List.getD_eq_getElem?_getD, List.getElem?_map, List.getElem?_eq_getElem xl]
      have ex := ih x hx
      rw [List.getD_eq_getElem?_getD, List.getElem?_eq_getElem xl] at ex
      show f (if _ then _ else _) = f x
      have ex : f (lab ys i)[x] = f x := ex
      by_cases d : (lab ys i)[x] = max ((lab ys i).getD i 0) ((lab ys i).getD (ys.getD i 0) 0)
      · rw [if_pos d]
        rw [← ex, d]
        generalize (lab ys i).getD i 0 = a at e1
        generalize (lab ys i).getD (ys.getD i 0) 0 = b at e2
        rcases Nat.le_total a b with o | o
        · rw [Nat.min_eq_left o, Nat.max_eq_right o, e1, e2]
        · rw [Nat.min_eq_right o, Nat.max_eq_left o, e1, e2]
      · rw [if_neg d]
        exact ex
/-! ### every shape hangs together -/
def itr (k : Nat) : Nat → Nat → Nat
  | 0, j => j
  | t + 1, j => itr k t ((shp k).getD j 0)
theorem shp_con {k j : Nat} (hk : k < 15) (hj : j < (shp k).length) : ∃ t, itr k t j = itr k 8 0 := by
  have d : ∀ k : Fin 15, ∀ j : Fin 5, j.val < (shp k.val).length → ∃ t : Fin 14, itr k.val t.val j.val = itr k.val 8 0 := by decide +kernel
  have l := (shp_pos hk).2
  obtain ⟨t, e⟩ := d ⟨k, hk⟩ ⟨j, by omega⟩ hj
  exact ⟨t.val, e⟩
theorem asc_ext : ∀ {l m : List Nat}, l.Pairwise (· < ·) → m.Pairwise (· < ·) → (∀ x, x ∈ l ↔ x ∈ m) → l = m
  | [], [], _, _, _ => rfl
  | [], y :: m, _, _, h => by have := (h y).2 (List.mem_cons_self ..); cases this
  | x :: l, [], _, _, h => by have := (h x).1 (List.mem_cons_self ..); cases this
  | x :: l, y :: m, hl, hm, h => by
    have hl' := List.pairwise_cons.1 hl
    have hm' := List.pairwise_cons.1 hm
    have e : x = y := by
      rcases List.mem_cons.1 ((h x).1 (List.mem_cons_self ..)) with a | a
      · exact a
      · rcases List.mem_cons.1 ((h y).2 (List.mem_cons_self ..)) with b | b
        · exact b.symm
        · have := hm'.1 x a
          have := hl'.1 y b
          omega
    subst e
    congr 1
    refine asc_ext hl'.2 hm'.2 fun z => ⟨fun hz => ?_, fun hz => ?_⟩
    · rcases List.mem_cons.1 ((h z).1 (List.mem_cons_of_mem _ hz)) with a | a
      · have := hl'.1 z hz; omega
      · exact a
    · rcases List.mem_cons.1 ((h z).2 (List.mem_cons_of_mem _ hz)) with a | a
      · have := hm'.1 z hz; omega
      · exact a
section
variable {ys : List Nat} {n : Nat} {bs : List Bk}
theorem Bd.nd (B : Bd n bs) : (bs.flatMap (·.2)).Nodup := B.pm.nodup_iff.2 List.nodup_range
theorem Bd.mem (B : Bd n bs) {x : Nat} : x < n ↔ ∃ b ∈ bs, x ∈ b.2 := by
  rw [← List.mem_range, ← B.pm.mem_iff, List.mem_flatMap]
theorem nd_mem {l : List Bk} (nd : (l.flatMap (·.2)).Nodup) {b c : Bk} (hb : b ∈ l) (hc : c ∈ l) {x : Nat} (h1 : x ∈ b.2) (h2 : x ∈ c.2) : b = c := by
  induction l with
  | nil => cases hb
  | cons a l ih =>
    rw [List.flatMap_cons] at nd
    obtain ⟨_, n2, n3⟩ := List.nodup_append.1 nd
    rcases List.mem_cons.1 hb with eb | hb <;> rcases List.mem_cons.1 hc with ec | hc
    · rw [eb, ec]
    · rw [eb] at h1
      exact absurd rfl (n3 x h1 x (List.mem_flatMap.2 ⟨c, hc, h2⟩))
    · rw [ec] at h2
      exact absurd rfl (n3 x h2 x (List.mem_flatMap.2 ⟨b, hb, h1⟩))
    · exact ih n2 hb hc
theorem nd_one {l : List Bk} (nd : (l.flatMap (·.2)).Nodup) {b : Bk} (hb : b ∈ l) : b.2.Nodup := by
  induction l with
  | nil => cases hb
  | cons a l ih =>
    rw [List.flatMap_cons] at nd
    obtain ⟨n1, n2, _⟩ := List.nodup_append.1 nd
    rcases List.mem_cons.1 hb with rfl | hb
    · exact n1
    · exact ih n2 hb
theorem Bd.uq (B : Bd n bs) {b c : Bk} (hb : b ∈ bs) (hc : c ∈ bs) {x : Nat} (h1 : x ∈ b.2) (h2 : x ∈ c.2) : b = c := nd_mem B.nd hb hc h1 h2
theorem Bd.ndb (B : Bd n bs) {b : Bk} (hb : b ∈ bs) : b.2.Nodup := nd_one B.nd hb
theorem Bd.ne (B : Bd n bs) {b : Bk} (hb : b ∈ bs) : b.2 ≠ [] := fun z => by
  obtain ⟨h1, h2, _⟩ := B.pw b hb
  have := (shp_pos h1).1
  rw [z] at h2
  have : (0 : Nat) = (shp b.1).length := h2
  omega
theorem Im.ed (I : Im ys n bs) {b : Bk} (hb : b ∈ bs) {x : Nat} (hx : x ∈ b.2) : ys.getD x 0 ∈ b.2 := by
  obtain ⟨k, hk, rfl⟩ := List.mem_iff_getElem.1 hx
  obtain ⟨h1, h2, _⟩ := I.bd.pw b hb
  have e := I.sh b hb k hk
  rw [List.getD_eq_getElem?_getD (l := b.2), List.getElem?_eq_getElem hk] at e
  have e : ys.getD b.2[k] 0 = _ := e
  rw [e]
  have := shp_in h1 k (by omega)
  rw [List.getD_eq_getElem?_getD, List.getElem?_eq_getElem (by omega)]
  exact List.getElem_mem _
theorem Im.rec_ (I : Im ys n bs) : Rec ys := fun x hx => by
  rw [I.len] at hx ⊢
  obtain ⟨b, hb, h⟩ := I.bd.mem.1 hx
  exact I.bd.mem.2 ⟨b, hb, I.ed hb h⟩
/-- the least record of the piece in which a record stands -/
def bkm (bs : List Bk) (x : Nat) : Nat := match bs.find? fun b => b.2.contains x with
  | some b => mn b.2
  | none => 0
theorem bkm_at (B : Bd n bs) {b : Bk} (hb : b ∈ bs) {x : Nat} (hx : x ∈ b.2) : bkm bs x = mn b.2 := by
  unfold bkm
  cases e : bs.find? fun b => b.2.contains x with
  | none =>
    have := List.find?_eq_none.1 e b hb
    rw [List.contains_iff_mem.2 hx] at this
    exact absurd rfl this
  | some c =>
    have h1 := List.mem_of_find?_eq_some e
    have h2 : c.2.contains x = true := List.find?_some (p := fun b : Bk => b.2.contains x) e
    rw [B.uq h1 hb (List.contains_iff_mem.1 h2) hx]
theorem Im.lab_in (I : Im ys n bs) {b : Bk} (hb : b ∈ bs) {x : Nat} (hx : x ∈ b.2) : labF ys x ∈ b.2 := by
  have xn : x < n := I.bd.mem.2 ⟨b, hb, hx⟩
  have L := labG_ok I.rec_ ys.length (Nat.le_refl _)
  have le := L.le x (by rw [I.len]; exact xn)
  have ln : labF ys x < n := Nat.lt_of_le_of_lt le xn
  obtain ⟨c, hc, h⟩ := I.bd.mem.1 ln
  have f : bkm bs (labF ys x) = bkm bs x := lab_f I.rec_ (bkm bs) (fun y hy => by
    rw [I.len] at hy
    obtain ⟨d, hd, h⟩ := I.bd.mem.1 hy
    rw [bkm_at I.bd hd h, bkm_at I.bd hd (I.ed hd h)]) ys.length (Nat.le_refl _) x (by rw [I.len]; exact xn)
  rw [bkm_at I.bd hc h, bkm_at I.bd hb hx] at f
  have := I.bd.uq hc hb (x := mn c.2) (mn_mem (I.bd.ne hc)) (by rw [f]; exact mn_mem (I.bd.ne hb))
  rw [← this]
  exact h
theorem Im.lab_ed (I : Im ys n bs) {x : Nat} (hx : x < n) : labF ys (ys.getD x 0) = labF ys x :=
  ((labG_ok I.rec_ ys.length (Nat.le_refl _)).ed x (by rw [I.len]; exact hx)).symm
theorem Im.lab_it (I : Im ys n bs) {b : Bk} (hb : b ∈ bs) : ∀ (t j : Nat), j < b.2.length → labF ys (b.2.getD (itr b.1 t j) 0) = labF ys (b.2.getD j 0)
  | 0, j, _ => rfl
  | t + 1, j, hj => by
    obtain ⟨h1, h2, _⟩ := I.bd.pw b hb
    have lt := shp_in h1 j (by omega)
    show labF ys (b.2.getD (itr b.1 t ((shp b.1).getD j 0)) 0) = _
    rw [I.lab_it hb t _ (by omega), ← I.sh b hb j hj]
    refine I.lab_ed (I.bd.mem.2 ⟨b, hb, ?_⟩)
    rw [List.getD_eq_getElem?_getD, List.getElem?_eq_getElem hj]
    exact List.getElem_mem hj
theorem Im.lab (I : Im ys n bs) {b : Bk} (hb : b ∈ bs) {x : Nat} (hx : x ∈ b.2) : labF ys x = mn b.2 := by
  obtain ⟨h1, h2, _⟩ := I.bd.pw b hb
  have key : ∀ y ∈ b.2, labF ys y = labF ys (b.2.getD (itr b.1 8 0) 0) := fun y hy => by
    obtain ⟨k, hk, rfl⟩ := List.mem_iff_getElem.1 hy
    obtain ⟨t, e⟩ := shp_con h1 (j := k) (by omega)
    rw [← e, I.lab_it hb t k hk, List.getD_eq_getElem?_getD, List.getElem?_eq_getElem hk]
    rfl
  have L := labG_ok I.rec_ ys.length (Nat.le_refl _)
  have m := mn_mem (I.bd.ne hb)
  have e : labF ys x = labF ys (mn b.2) := (key x hx).trans (key _ m).symm
  have le : labF ys (mn b.2) ≤ mn b.2 := L.le _ (by rw [I.len]; exact I.bd.mem.2 ⟨b, hb, m⟩)
  have ge := mn_le (I.lab_in hb hx)
  omega
theorem Im.roots (I : Im ys n bs) : rootsF ys = bs.map fun b => mn b.2 := by
  refine asc_ext (List.pairwise_lt_range.filter _) I.bd.ord fun x => ?_
  unfold rootsF
  rw [List.mem_filter, List.mem_range, I.len, List.mem_map]
  constructor
  · rintro ⟨h1, h2⟩
    obtain ⟨b, hb, h⟩ := I.bd.mem.1 h1
    exact ⟨b, hb, by rw [← I.lab hb h]; exact of_decide_eq_true h2⟩
  · rintro ⟨b, hb, rfl⟩
    have m := mn_mem (I.bd.ne hb)
    exact ⟨I.bd.mem.2 ⟨b, hb, m⟩, decide_eq_true (I.lab hb m)⟩
theorem Im.grp_mem (I : Im ys n bs) {b : Bk} (hb : b ∈ bs) {x : Nat} : x ∈ grpF ys (mn b.2) ↔ x ∈ b.2 := by
  rw [mem_grpF, I.len]
  constructor
  · rintro ⟨h1, h2⟩
    obtain ⟨c, hc, h⟩ := I.bd.mem.1 h1
    rw [I.lab hc h] at h2
    rw [I.bd.uq hb hc (mn_mem (I.bd.ne hb)) (by rw [← h2]; exact mn_mem (I.bd.ne hc))]
    exact h
  · intro h
    exact ⟨I.bd.mem.2 ⟨b, hb, h⟩, I.lab hb h⟩
theorem Im.gp (I : Im ys n bs) {b : Bk} (hb : b ∈ bs) : Gp (fun x => ys.getD x 0) (grpF ys (mn b.2)) ∧ b.2.Perm (grpF ys (mn b.2)) := by
  have r : mn b.2 ∈ rootsF ys := by rw [I.roots]; exact List.mem_map.2 ⟨b, hb, rfl⟩
  have G := gp_of I.rec_ r
  exact ⟨G, perm_of_mem (I.bd.ndb hb) G.nd fun x => (I.grp_mem hb).symm⟩
theorem Im.piece (I : Im ys n bs) {b : Bk} (hb : b ∈ bs) (h8 : b.1 < 8) : pieceF (fun x => ys.getD x 0) (grpF ys (mn b.2)) = some b := by
  obtain ⟨h1, h2, h3⟩ := I.bd.pw b hb
  obtain ⟨G, p⟩ := I.gp hb
  exact G.piece_of h8 p ⟨by rw [h2, shp_form h8], fun k hk => by rw [← shp_form h8]; exact I.sh b hb k hk, h3 h8⟩
/-- none of the last seven shapes is a piece in any order -/
theorem shp_bad : ∀ k : Fin 15, 8 ≤ k.val → ∀ w : Fin 8, (form w.val).length = (shp k.val).length → (ords (List.range (shp k.val).length) (shp k.val).length).all (fun L => (List.range (shp k.val).length).any fun j => decide ((shp k.val).getD (L.getD j 0) 0 ≠ L.getD ((form w.val).getD j 0) 0)) = true := by decide +kernel
theorem Im.bad (I : Im ys n bs) {b : Bk} (hb : b ∈ bs) (h8 : 8 ≤ b.1) : pieceF (fun x => ys.getD x 0) (grpF ys (mn b.2)) = none := by
  obtain ⟨h1, h2, _⟩ := I.bd.pw b hb
  obtain ⟨G, p⟩ := I.gp hb
  have F := G.formOf
  cases e : pieceF (fun x => ys.getD x 0) (grpF ys (mn b.2)) with
  | none => rfl
  | some c =>
    exfalso
    rw [e] at F
    obtain ⟨w8, pc, fl, fs, _⟩ := F
    have pp : c.2.Perm b.2 := pc.trans p.symm
    have ndb := I.bd.ndb hb
    have ndc := pp.nodup_iff.2 ndb
    have lc : c.2.length = b.2.length := pp.length_eq
    have tb := shp_bad ⟨b.1, h1⟩ h8 ⟨c.1, w8⟩ (by show (form c.1).length = (shp b.1).length; rw [← fl, lc, h2])
    have tb := List.all_eq_true.1 tb (c.2.map fun x => b.2.idxOf x) (mem_ords.2 ⟨by rw [List.length_map, lc, h2], ?_, ?_⟩)
    · obtain ⟨j, hj, hne⟩ := List.any_eq_true.1 tb
      have hj := List.mem_range.1 hj
      have hj : j < (shp b.1).length := hj
      have hne := of_decide_eq_true hne
      have jc : j < c.2.length := by omega
      have idx : ∀ {i : Nat}, i < c.2.length → (c.2.map fun x => b.2.idxOf x).getD i 0 = b.2.idxOf (c.2.getD i 0) := fun {i} hi => by
        rw [List.getD_eq_getElem?_getD, List.getElem?_map, List.getD_eq_getElem?_getD, List.getElem?_eq_getElem hi]
        rfl
      have mem : ∀ {i : Nat}, i < c.2.length → c.2.getD i 0 ∈ b.2 := fun {i} hi => by
        rw [List.getD_eq_getElem?_getD, List.getElem?_eq_getElem hi]
        exact pp.mem_iff.1 (List.getElem_mem hi)
      have fj : (form c.1).getD j 0 < c.2.length := by
        have := shp_in (k := c.1) (by omega) j (by rw [shp_form w8, ← fl]; exact jc)
        rw [shp_form w8] at this
        omega
      have e1 := fs j jc
      have hx := mem jc
      have bi : b.2.idxOf (c.2.getD j 0) < b.2.length := List.idxOf_lt_length_iff.2 hx
      have e2 := I.sh b hb _ bi
      rw [idx_mem hx] at e2
      have e1 : ys.getD (c.2.getD j 0) 0 = c.2.getD ((form c.1).getD j 0) 0 := e1
      rw [e1] at e2
      refine hne ?_
      show (shp b.1).getD ((c.2.map fun x => b.2.idxOf x).getD j 0) 0 = (c.2.map fun x => b.2.idxOf x).getD ((form c.1).getD j 0) 0
      rw [idx jc, idx fj, e2]
      have lt := shp_in h1 (b.2.idxOf (c.2.getD j 0)) (by omega)
      exact (idx_nd ndb (by omega)).symm
    · rw [List.nodup_iff_pairwise_ne, List.pairwise_map]
      refine (List.nodup_iff_pairwise_ne.1 ndc).imp_of_mem fun {x y} hx hy ne h => ne ?_
      have := congrArg (fun i => b.2.getD i 0) h
      have this : b.2.getD (b.2.idxOf x) 0 = b.2.getD (b.2.idxOf y) 0 := this
      rw [idx_mem (pp.mem_iff.1 hx), idx_mem (pp.mem_iff.1 hy)] at this
      exact this
    · intro z hz
      obtain ⟨x, hx, rfl⟩ := List.mem_map.1 hz
      rw [List.mem_range]
      have := List.idxOf_lt_length_iff.2 (pp.mem_iff.1 hx)
      show b.2.idxOf x < (shp b.1).length
      omega
theorem Im.forms (I : Im ys n bs) : formsF ys = bs.map fun b => if b.1 < 8 then some b else none := by
  unfold formsF gpsF
  rw [I.roots, List.map_map, List.map_map]
  refine List.map_congr_left fun b hb => ?_
  show pieceF _ (grpF ys (mn b.2)) = _
  by_cases h : b.1 < 8
  · rw [if_pos h]; exact I.piece hb h
  · rw [if_neg h]; exact I.bad hb (by omega)
theorem Im.good (I : Im ys n bs) (h : ∀ b ∈ bs, b.1 < 8) : formsF ys = bs.map some := by
  rw [I.forms]
  exact List.map_congr_left fun b hb => if_pos (h b hb)
theorem Im.refused (I : Im ys n bs) : badF ys = (bs.find? fun b => decide (8 ≤ b.1)).map fun b => grpF ys (mn b.2) := by
  unfold badF gpsF
  rw [I.roots, List.map_map, List.find?_map]
  have key : ∀ l : List Bk, (∀ b ∈ l, b ∈ bs) → (l.find? ((fun gp => (pieceF (fun x => ys.getD x 0) gp).isNone) ∘ (grpF ys ∘ fun b => mn b.2))) = l.find? fun b => decide (8 ≤ b.1) := by
    intro l
    induction l with
    | nil => exact fun _ => rfl
    | cons b l ih =>
      intro hl
      have hb := hl b (List.mem_cons_self ..)
      rw [List.find?_cons, List.find?_cons, ih fun c hc => hl c (List.mem_cons_of_mem _ hc)]
      have : ((fun gp => (pieceF (fun x => ys.getD x 0) gp).isNone) ∘ (grpF ys ∘ fun b => mn b.2)) b = decide (8 ≤ b.1) := by
        show (pieceF _ (grpF ys (mn b.2))).isNone = _
        by_cases h : b.1 < 8
        · rw [I.piece hb h, decide_eq_false (by omega)]; rfl
        · rw [I.bad hb (by omega), decide_eq_true (by omega)]; rfl
      rw [this]
  rw [key bs fun b h => h]
  rfl
end
end Pm

/-! sorted of rows (int, anything, anything), the ints all different -/
namespace SrtV
open PySem PyProof.Rows PySem.W SrtO
/-- a tuple of an int and two values -/
def IsRow (h : Heap) (v : Value) (x : Int) : Prop := ∃ (a : Addr) (o : Obj) (t : Tok) (y c : Value) (n : Nat), v = .ref a ∧ h.get? a = some o ∧ o.cls = .type "tuple" ∧ o.data = .seq #[.int x t, y, c] n
theorem IsRow.keeps {h h' : Heap} {v : Value} {x : Int} (p : IsRow h v x) (k : ∀ b o, h.get? b = some o → o.cls = .type "tuple" → h'.get? b = some o) : IsRow h' v x := by
  obtain ⟨a, o, t, y, c, n, e, ho, hc, hd⟩ := p
  exact ⟨a, o, t, y, c, n, e, k _ _ ho hc, hc, hd⟩
theorem row_firsts {h : Heap} : ∀ {vs : List Value}, (∀ v ∈ vs, ∃ x, IsRow h v x) → ∃ fs : List Value, PySem.W.KatTups h vs fs ∧ fs.length = vs.length ∧ ∀ f ∈ fs, ∃ x t, f = Value.int x t
  | [], _ => ⟨[], PySem.W.KatTups.nil, rfl, fun _ hm => by simp at hm⟩
  | v :: vs, hv => by
    obtain ⟨fs, h1, h2, h3⟩ := row_firsts (h := h) (vs := vs) fun w hw => hv w (List.mem_cons_of_mem _ hw)
    obtain ⟨x, a, o, t, y, c, n, e, ho, hc, hd⟩ := hv v List.mem_cons_self
    subst e
    refine ⟨.int x t :: fs, .cons ho hc hd rfl h1, by simp [h2], fun f hf => ?_⟩
    rcases List.mem_cons.mp hf with e | hf
    · exact ⟨x, t, e⟩
    · exact h3 f hf
section
variable {prog : Program} {w : World} {A : Around} {E : Value → Shared → Prop} {s : Shared}
theorem row_cmp {vs : List Value} {k : Value → Int} (hp : ∀ v ∈ vs, IsRow s.heap v (k v)) (hi : ∀ v ∈ vs, ∀ u ∈ vs, k v = k u → v = u) : Cmp prog w A s (tuples' true) (fun p => p.1 ∈ vs) (lt2 fun v u => decide (k v < k u)) := by
  intro p q hm hm'
  have h1 := hp _ hm
  have h2 := hp _ hm'
  have h3 := hi _ hm _ hm'
  show wpAny (model prog w) A (keyLt' (tuples' true) p.1 q.1) (fun r s' => s' = s ∧ r = decide (k p.1 < k q.1)) (fun _ _ => False) s
  generalize k p.1 = x at h1 h3 ⊢
  generalize k q.1 = x' at h2 h3 ⊢
  obtain ⟨a, o, t, y, c, n, e, ho, hc, hd⟩ := h1
  obtain ⟨a', o', t', y', c', n', e', ho', hc', hd'⟩ := h2
  rw [e, e'] at h3 ⊢
  refine PySem.W.kat_lt ho hd ho' hd' ?_
  show PySem.W.KatLex prog w A true (decide (3 < 3)) _ [(.int x t, .int x' t'), (y, y'), (c, c')] 0 s
  refine PySem.W.kat_cons (SeqAt.EqAt.int_int x t x' t' prog w _ _ ?_)
  refine PySem.W.kat_go (fun e1 => ?_) (fun e1 => ?_)
  · have ex : x = x' := by simpa using e1
    have ea : a = a' := Value.ref.inj (h3 ex)
    subst ea
    rw [ho] at ho'
    have eo := Option.some.inj ho'
    subst eo
    rw [hd] at hd'
    injection hd' with ed _
    have ey : y = y' := by
      have z := congrArg (fun a : Array Value => a[1]?) ed
      simpa using z
    subst ey
    have ec : c = c' := by
      have z := congrArg (fun a : Array Value => a[2]?) ed
      simpa using z
    subst ec
    refine PySem.W.kat_yes (PySem.W.kat_cons (SeqAt.EqAt.same y prog w _ _ ?_))
    refine PySem.W.kat_go (fun _ => ?_) (fun z => nomatch z)
    refine PySem.W.kat_yes (PySem.W.kat_cons (SeqAt.EqAt.same c prog w _ _ ?_))
    refine PySem.W.kat_go (fun _ => ?_) (fun z => nomatch z)
    refine PySem.W.kat_yes (PySem.W.kat_nil ⟨rfl, ?_⟩)
    rw [ex]
    exact (decide_eq_false (by omega)).symm
  · have ex : ¬ x = x' := by simpa using e1
    exact PySem.W.kat_no (oneLt_int ⟨rfl, rfl⟩)
theorem rows_sortableO {a : Addr} {vs : List Value} {k : Value → Int} (h0 : 0 < vs.length) (hp : ∀ v ∈ vs, IsRow s.heap v (k v)) (hi : ∀ v ∈ vs, ∀ u ∈ vs, k v = k u → v = u) (ha : ∀ o, s.heap.get? a = some o → o.cls ≠ .type "tuple") : SortableO prog w A s a vs fun v u => decide (k v < k u) := by
  intro h' keep
  have hp' : ∀ v ∈ vs, IsRow h' v (k v) := fun v hm => (hp v hm).keeps fun b o e c => keep b o (fun z => by subst z; exact ha o e c) e
  obtain ⟨fs, h1, h2, h3⟩ := row_firsts fun v hm => ⟨_, hp' v hm⟩
  refine ⟨tuples' true, fun Q E hq => ?_, row_cmp hp' hi⟩
  refine PySem.W.kat_kind (T := .type "int") h1 (by omega) (fun f hm => ?_) (by rfl) ?_
  · obtain ⟨x, t, rfl⟩ := h3 f hm
    exact PySem.W.Looks.now
  · have e : (Value.type "int" != Value.type "tuple") = true := by first | decide +kernel | rfl | decide
    rw [e]
    exact hq
theorem sorted_rowsO {l : Addr} {vs : List Value} {k : Value → Int} {Q : Value → Shared → Prop} (hl : s.heap.IsList l vs.toArray) (hz : vs.length ≤ sizeLine) (hp : ∀ v ∈ vs, IsRow s.heap v (k v)) (hi : ∀ v ∈ vs, ∀ u ∈ vs, k v = k u → v = u)
    (h : ∀ (h' : Heap) (d : Addr) (out : List Value), Srtd (fun v u => decide (k v < k u)) out → Stb (fun v u => decide (k v < k u)) out vs → (∀ b o, s.heap.get? b = some o → h'.get? b = some o) → s.heap.objs.size ≤ d → (∃ n, h'.get? d = some (seqObj "list" out.toArray n)) → Q (.ref d) { s with heap := h' }) :
    wpAny (model prog w) A (call (.builtin "sorted") [.ref l]) Q E s := by
  refine sorted_ord (SrtO.swo_key k) hl hz (fun h2 h₁ a ha kk => ?_) fun out hs hb => ?_
  · refine rows_sortableO (s := { s with heap := h₁ }) (by omega) (fun v hm => (hp v hm).keeps fun b o e _ => (kk b o e).2) hi fun o e => ?_
    have e' : some o = some (seqObj "list" vs.toArray 0) := e.symm.trans ha
    cases e'
    intro c
    exact absurd (Value.type.inj c) (by decide)
  · exact h _ _ out hs hb (fun b o e => sortedAll_old e) (Nat.le_succ _) (sortedAll_at s.heap vs out.toArray)
end
end SrtV
namespace L2
open PySem PySem.Spec PyProof.Rows SrtO
def rSortedV (K : PySem.W.Frag) : List V → Hp → VK → Prop := fun vs H Q => ∃ (a : Addr) (rs : List Addr) (k : Addr → Int), vs = [V.ref a] ∧ SqL K H a (rs.map V.ref) ∧ (∀ r ∈ rs, ∃ (y c : V), H r = some (.tup [.int (k r), y, c])) ∧
  (∀ r ∈ rs, ∀ r' ∈ rs, k r = k r' → r = r') ∧ ∀ (rs' : List Addr) (p : Addr), rs'.Perm rs → rs'.Pairwise (fun a b => k a ≤ k b) → H p = none → Q (.ref p) (upd H p (.lst (rs'.map V.ref)))
theorem cr_sortedV {X : Cx} : CallR X (.builtin "sorted") (rSortedV X.K) := by
  intro pins s σ H vs us Q I r h
  obtain ⟨a, rs, k, rfl, hs, hx, hi, q⟩ := h
  obtain ⟨its, rv, hl, hz⟩ := I.list hs
  obtain ⟨u, rfl, ru⟩ := vals1 r
  obtain rfl : u = Value.ref a := ru
  have ei := vals_refs_eq rv
  subst ei
  refine SrtV.sorted_rowsO (k := fun u => k (addrV u)) hl.isList (by rw [List.length_map] at *; exact hz) (fun v hv => ?_) (fun v hv u hu e => ?_) fun h' d out h1 h2 kp hd hn => ?_
  · obtain ⟨t, ht, rfl⟩ := List.mem_map.mp hv
    obtain ⟨y, c, e⟩ := hx t ht
    obtain ⟨_, its2, r2, o, ho, hc, n, hdt⟩ := (show ObjOk X.prog X.w H s.heap t (.tup [.int (k t), y, c]) from I.hok _ _ e)
    cases r2 with
    | cons a1 r2 =>
      cases r2 with
      | cons a2 r2 =>
        cases r2 with
        | cons a3 r2 =>
          cases r2
          obtain ⟨t1, rfl⟩ := a1
          exact ⟨t, o, t1, _, _, n, rfl, ho, hc, hdt⟩
  · obtain ⟨t, ht, rfl⟩ := List.mem_map.mp hv
    obtain ⟨t', ht', rfl⟩ := List.mem_map.mp hu
    rw [hi t ht t' ht' e]
  · obtain ⟨n, hn⟩ := hn
    have hp := h2.perm
    have eo : out = (out.map addrV).map Value.ref := by
      rw [List.map_map]
      have : ∀ u ∈ out, Value.ref (addrV u) = u := fun u hu => by
        obtain ⟨t, _, rfl⟩ := List.mem_map.mp (hp.mem_iff.mp hu)
        rfl
      conv => lhs; rw [← List.map_id out]
      exact List.map_congr_left fun u hu => (this u hu).symm
    have hp2 : (out.map addrV).Perm rs := by
      have z := hp.map addrV
      rw [List.map_map] at z
      have id : (rs.map (addrV ∘ Value.ref)) = rs := by
        conv => rhs; rw [← List.map_id rs]
        rfl
      rw [id] at z
      exact z
    have hs2 : (out.map addrV).Pairwise (fun a b => k a ≤ k b) := by
      rw [List.pairwise_map]
      refine List.Pairwise.imp (fun {a b} h => ?_) h1
      have := of_decide_eq_false h
      omega
    refine ⟨.ref d, upd H d (.lst ((out.map addrV).map V.ref)), I.laid (t' := s.toks) kp hd ⟨?_, out, n, ?_, hn⟩, rfl, q _ d hp2 hs2 (I.hok.fresh hd)⟩
    · rw [List.length_map, hp2.length_eq]
      rw [List.length_map] at hz
      exact hz
    · rw [eo]
      have g : ∀ l : List Addr, Vals (l.map V.ref) (l.map Value.ref) := fun l => by
        induction l with
        | nil => exact .nil
        | cons a l ih => exact .cons rfl ih
      rw [← eo]
      conv => arg 2; rw [eo]
      exact g _
end L2

namespace Pv
open PySem L2 Evl Pm
/-! ### the box of the draws -/
def Bx (H : Hp) (b c : Addr) : Prop := ∃ (ns : List Int) (d i k s : Int), H b = some (.lst [.ref c, .int d, .int i, .int k, .int s]) ∧ H c = some (.lst (ns.map V.int)) ∧ 0 ≤ d ∧ 0 ≤ i
theorem Bx.ne {H : Hp} {b c p : Addr} (B : Bx H b c) (h : H p = none) : p ≠ b ∧ p ≠ c := by
  obtain ⟨ns, d, i, k, s, h1, h2, _⟩ := B
  exact ⟨(fun e => by rw [e, h1] at h; cases h), (fun e => by rw [e, h2] at h; cases h)⟩
theorem Bx.bc {H : Hp} {b c : Addr} (B : Bx H b c) : b ≠ c := by
  obtain ⟨ns, d, i, k, s, h1, h2, _⟩ := B
  intro e
  rw [e, h2] at h1
  have h3 := HO.lst.inj (Option.some.inj h1)
  cases ns with
  | nil => cases h3
  | cons a l => cases h3
theorem Bx.keep {H H' : Hp} {b c : Addr} (B : Bx H b c) (h1 : ∀ o, H b = some o → H' b = some o) (h2 : ∀ o, H c = some o → H' c = some o) : Bx H' b c := by
  obtain ⟨ns, d, i, k, s, a1, a2, q⟩ := B
  exact ⟨ns, d, i, k, s, h1 _ a1, h2 _ a2, q⟩
theorem Bx.ex {H H' : Hp} {b c : Addr} (e : Ex H H') (B : Bx H b c) : Bx H' b c := B.keep (e b) (e c)
theorem Mut.of_ex {b : Addr} {H H1 : Hp} (e : Ex H H1) : Mut b H H1 := fun a o _ h => e a o h
theorem bx_back {b c : Addr} {H G : Hp} (B : Bx G b c) (M : Mut b H G) {a : Addr} (h : G a = none) : H a = none := by
  cases q : H a with
  | none => rfl
  | some u =>
    rw [M a u (B.ne h).1 q] at h
    cases h
theorem ifF {b : Bool} {p q : Prop} (h : b = false) (k : q) : if b = true then p else q := by
  rw [h, if_neg Bool.false_ne_true]; exact k
theorem ifT {b : Bool} {p q : Prop} (h : b = true) (k : p) : if b = true then p else q := by
  rw [h, if_pos rfl]; exact k
theorem atR {ts : List Addr} {i : Nat} {t : Addr} (h : ts[i]? = some t) : atI (ts.map V.ref) (i : Int) = some (V.ref t) := atI_nat (by rw [List.getElem?_map, h]; rfl)
theorem back_none {H H1 : Hp} {p : Addr} (e : Ex H H1) (h : H1 p = none) : H p = none := by
  cases q : H p with
  | none => rfl
  | some o =>
    rw [e p o q] at h
    cases h
theorem Mut.ext {b : Addr} {H H1 H2 : Hp} (x : Mut b H H1) (e : Ex H1 H2) : Mut b H H2 := fun a o n h => e _ _ (x a o n h)
/-! ### a display with keys that all differ -/
theorem putK_new {κ : Type} [DecidableEq κ] {kvs : List (κ × V)} {k : κ} {v : V} (h : ∀ kv ∈ kvs, kv.1 ≠ k) : putK kvs k v = kvs ++ [(k, v)] := by
  unfold putK
  rw [if_neg]
  intro z
  obtain ⟨kv, hm, e⟩ := List.any_eq_true.1 z
  exact h kv hm (of_decide_eq_true e)
theorem merge_nd : ∀ {more kvs : List (Key × V)}, ((kvs ++ more).map Prod.fst).Nodup → mergeK kvs more = kvs ++ more
  | [], kvs, _ => by rw [List.append_nil]; rfl
  | kv :: more, kvs, nd => by
    show mergeK (putK kvs kv.1 kv.2) more = _
    have nd2 := nd
    rw [List.map_append, List.map_cons] at nd2
    have n3 := (List.nodup_append.1 nd2).2.2
    rw [putK_new fun x hx e => n3 x.1 (List.mem_map.2 ⟨x, hx, rfl⟩) kv.1 (List.mem_cons_self ..) e]
    rw [merge_nd (by rw [List.append_assoc]; exact nd), List.append_assoc]
    rfl
theorem valV_at {κ : Type} [DecidableEq κ] : ∀ {kvs : List (κ × V)} {i : Nat} {kv : κ × V}, (kvs.map Prod.fst).Nodup → kvs[i]? = some kv → valV kvs kv.1 = some kv.2
  | [], _, _, _, h => by cases h
  | x :: kvs, 0, kv, _, h => by
    cases h
    exact valV_pos rfl
  | x :: kvs, i + 1, kv, nd, h => by
    rw [List.map_cons, List.nodup_cons] at nd
    have h : kvs[i]? = some kv := h
    rw [valV_neg fun e => nd.1 (by rw [e]; exact List.mem_map.2 ⟨kv, List.mem_of_getElem? h, rfl⟩)]
    exact valV_at nd.2 h
/-! ### the words -/
def w15 : List Str := ["free", "pair", "claim", "hook", "relay", "clamp", "trail", "wheel", "star", "three", "tail", "brush", "fork", "five", "long"]
def wd (k : Nat) : Str := w15.getD k ""
theorem wd_word {k : Nat} (h : k < 8) : wd k = word k := by
  have d : ∀ k : Fin 8, wd k.val = word k.val := by decide +kernel
  exact d ⟨k, h⟩
theorem wd_inj {i j : Nat} (hi : i < 15) (hj : j < 15) : wd i = wd j ↔ i = j := by
  have d : ∀ i j : Fin 15, wd i.val = wd j.val ↔ i = j := by decide +kernel
  constructor
  · intro h
    exact congrArg Fin.val ((d ⟨i, hi⟩ ⟨j, hj⟩).1 h)
  · intro h; rw [h]
theorem wd_eq {i j : Nat} (hi : i < 15) (hj : j < 15) : decide (V.str (wd i) = V.str (wd j)) = decide (i = j) := by
  rw [decide_eq_decide]
  constructor
  · intro h
    injection h with h
    exact (wd_inj hi hj).1 h
  · intro h; rw [h]
theorem shp_get (f : Nat → V) {j : Nat} (hj : j < 15) : valV (mergeK [] ((List.range 15).map fun k => ((Sum.inr (wd k) : Key), f k))) (Sum.inr (wd j)) = some (f j) := by
  have nd : (((List.range 15).map fun k => ((Sum.inr (wd k) : Key), f k)).map Prod.fst).Nodup := by
    rw [List.map_map, List.nodup_iff_pairwise_ne, List.pairwise_map]
    refine (List.nodup_iff_pairwise_ne.1 List.nodup_range).imp_of_mem fun {a b} ha hb ne e => ne ?_
    have e : (Sum.inr (wd a) : Key) = Sum.inr (wd b) := e
    injection e with e
    exact (wd_inj (List.mem_range.1 ha) (List.mem_range.1 hb)).1 e
  rw [merge_nd (by rw [List.nil_append]; exact nd), List.nil_append]
  exact valV_at (i := j) (kv := (Sum.inr (wd j), f j)) nd (by rw [List.getElem?_map, List.getElem?_range hj]; rfl)
def WsAt (H : Hp) (p : Addr) (ks : List Nat) : Prop := H p = some (.lst (ks.map fun k => V.str (wd k)))
def Pc15 (H : Hp) (q : Addr) (b : Bk) : Prop := ∃ t, H q = some (.tup [.str (wd b.1), .ref t]) ∧ H t = some (.tup (nI b.2))
theorem Pc15.ex {H H1 : Hp} {q : Addr} {b : Bk} (e : Ex H H1) (h : Pc15 H q b) : Pc15 H1 q b := by
  obtain ⟨t, a, c⟩ := h
  exact ⟨t, e _ _ a, e _ _ c⟩
def BltAt (H : Hp) (p : Addr) (bs : List Bk) : Prop := ∃ ts : List Addr, H p = some (.lst (ts.map V.ref)) ∧ ts.length = bs.length ∧ ∀ (i : Nat) (t : Addr) (b : Bk), ts[i]? = some t → bs[i]? = some b → Pc15 H t b
theorem BltAt.ex {H H1 : Hp} {p : Addr} {bs : List Bk} (e : Ex H H1) (h : BltAt H p bs) : BltAt H1 p bs := by
  obtain ⟨ts, a, l, k⟩ := h
  exact ⟨ts, e _ _ a, l, fun i t b h1 h2 => (k i t b h1 h2).ex e⟩
theorem seq_nat {d n : Nat} (h : d < n) : seqIndex? (d : Int) n = some d := by
  unfold seqIndex?
  have h0 : ¬ ((d : Int) < 0) := by omega
  have h1 : (decide (0 ≤ (d : Int)) && decide ((d : Int) < (n : Int))) = true := by
    rw [decide_eq_true (by omega), decide_eq_true (by omega)]
    rfl
  simp only [h0, if_false, h1, if_true, Int.toNat_natCast]
/-- the first place of an int in a row that has it -/
theorem first_at {xs : List Int} {z : Int} (h : z ∈ xs) : ∃ j, j < xs.length ∧ xs[j]? = some z ∧ ∀ m y, m < j → xs[m]? = some y → y ≠ z := by
  induction xs with
  | nil => cases h
  | cons x xs ih =>
    by_cases e : x = z
    · exact ⟨0, by simp, by rw [e]; rfl, fun m y hm => absurd hm (Nat.not_lt_zero m)⟩
    · obtain ⟨j, h1, h2, h3⟩ := ih (by
        rcases List.mem_cons.mp h with q | q
        · exact absurd q.symm e
        · exact q)
      refine ⟨j + 1, by rw [List.length_cons]; omega, h2, fun m y hm hy => ?_⟩
      cases m with
      | zero =>
        cases hy
        exact e
      | succ m => exact h3 m y (by omega) hy
/-! ### slices and places -/
theorem eqV_ints {x y : Int} : eqV (V.int x) (V.int y) = true ↔ x = y := by
  show (x == y) = true ↔ _
  rw [beq_iff_eq]
theorem cut_tk {xs : List V} {k : Nat} : cutV xs none (some (k : Int)) = xs.take k := by
  unfold cutV
  rw [HT.sIx_none, HT.sIx_nat, List.drop_zero, Nat.sub_zero, List.take_eq_take_iff]
  omega
theorem cut_dp {xs : List V} {k : Nat} (h : k ≤ xs.length) : cutV xs (some (k : Int)) none = xs.drop k := by
  unfold cutV
  rw [HT.sIx_none, HT.sIx_nat, Nat.min_eq_left h]
  rw [List.take_of_length_le (by rw [List.length_drop]; exact Nat.le_refl _)]
/-! ### the contracts -/
def spBox (K : PySem.W.Frag) : Sp := fun vs H Q _ => ∃ (a : Addr) (ns : List Int), vs = [.ref a] ∧ SqL K H a (ns.map V.int) ∧ ∀ b c H', H b = none → H c = none → Ex H H' → Bx H' b c → Q (.ref b) H'
def spTk : Sp := fun vs H Q _ => ∃ (b c : Addr) (n : Int), vs = [.ref b, .int n] ∧ n < 1152921504606846976 ∧ Bx H b c ∧ ∀ (d : Nat) H', ((d : Int) < n ∨ (n < 2 ∧ d = 0)) → Bx H' b c → Mut b H H' → Q (.int d) H'
def spSf : Sp := fun vs H Q _ => ∃ (b c l : Addr) (xs : List V), vs = [.ref b, .ref l] ∧ H l = some (.lst xs) ∧ xs.length ≤ 70 ∧ l ≠ b ∧ Bx H b c ∧ ∀ p ys H', H p = none → Bx H' b c → Mut b H H' → H' p = some (.lst ys) → ys.Perm xs → Q (.ref p) H'
def spShp : Sp := fun vs H Q _ => ∃ k : Nat, vs = [.str (wd k)] ∧ k < 15 ∧ ∀ p H', H p = none → Ex H H' → ListN H' p (shp k) → Q (.ref p) H'
def spBw : Sp := fun vs H Q _ => vs = [] ∧ ∀ p H', H p = none → Ex H H' → WsAt H' p [8, 9, 10, 11, 12, 13, 14] → Q (.ref p) H'
def spFcd : Sp := fun vs H Q _ => ∃ (b c : Addr) (m : Nat), vs = [.ref b, .int (m : Int)] ∧ m ≤ 2 ∧ Bx H b c ∧ ∀ p ks H', H p = none → Bx H' b c → Mut b H H' → WsAt H' p ks → (∀ k ∈ ks, 8 ≤ k ∧ k < 15) → ks.length = m → Q (.ref p) H'
def spMnu : Sp := fun vs H Q _ => ∃ b c : Addr, vs = [.ref b] ∧ Bx H b c ∧ ∀ p ks H', H p = none → Bx H' b c → Mut b H H' → WsAt H' p ks → (∀ k ∈ ks, k < 8) → ks.length ≤ 10 → Q (.ref p) H'
def spLsd : Sp := fun vs H Q _ => ∃ (k : Nat) (l : Addr) (ms : List Nat), vs = [.str (wd k), .ref l] ∧ k < 15 ∧ ListN H l ms ∧ ms.length = (shp k).length ∧ ms.Nodup ∧ ∀ t row H', Ex H H' → H' t = some (.tup (nI row)) → row.Perm ms → (k < 8 → Canon (k, row)) → Q (.ref t) H'
def spBu : Sp := fun vs H Q _ => ∃ (b c m f : Addr) (most : Nat) (ks fs : List Nat), vs = [.ref b, .int (most : Int), .ref m, .ref f] ∧ Bx H b c ∧ WsAt H m ks ∧ m ≠ b ∧ (∀ k ∈ ks, k < 8) ∧ ks.length ≤ 10 ∧ WsAt H f fs ∧ f ≠ b ∧ (∀ k ∈ fs, 8 ≤ k ∧ k < 15) ∧ fs.length ≤ 2 ∧ most + 5 * fs.length ≤ 64 ∧
  ∀ p bs n H', H p = none → Bx H' b c → Mut b H H' → BltAt H' p bs → Bd n bs → n ≤ 64 → (∀ x ∈ bs, x.1 < 8 ∨ x.1 ∈ fs) → Q (.ref p) H'
def spIm : Sp := fun vs H Q _ => ∃ (p : Addr) (bs : List Bk) (n : Nat), vs = [.ref p] ∧ BltAt H p bs ∧ Bd n bs ∧ n ≤ 64 ∧ ∀ a ys H', H a = none → Ex H H' → ListN H' a ys → Im ys n bs → Q (.ref a) H'
end Pv

namespace Pv
open PySem L2 Evl Pm
/-- a piece as the program tells it, of an image of n records -/
def Pk (n : Nat) (b : Bk) : Prop := b.1 < 8 ∧ b.2.length = (form b.1).length ∧ ∀ x ∈ b.2, x < n
def spTor9 (A : Ad) : Sp := fun vs H Q E => ∃ (a : Addr) (xs : List Int), vs = [.ref a] ∧ H a = some (.lst (xs.map V.int)) ∧ xs.length ≤ 64 ∧
  (strayI xs = none → ∀ bs : List Bk, formsF (natI xs) = bs.map some → (∀ b ∈ bs, Pk xs.length b) ∧ bs.length ≤ 64 ∧ ∀ p H', H p = none → Ex H H' → All2 PieceAt H' p (bs.filter fun b => decide (1 < b.1)) → Q (.ref p) H') ∧ RzP A xs H E
def spFr9 (A : Ad) : Sp := fun vs H Q E => ∃ (a : Addr) (xs : List Int), vs = [.ref a] ∧ H a = some (.lst (xs.map V.int)) ∧ xs.length ≤ 64 ∧
  (strayI xs = none → ∀ bs : List Bk, formsF (natI xs) = bs.map some → (∀ b ∈ bs, Pk xs.length b) ∧ bs.length ≤ 64 ∧ ∀ p H', H p = none → Ex H H' → ListN H' p ((bs.filter fun b => decide (b.1 = 0)).map fun b => b.2.getD 0 0) → Q (.ref p) H') ∧ RzP A xs H E
def spCl9 : Sp := fun vs H Q _ => ∃ (p : Addr) (bs : List Bk), vs = [.ref p] ∧ All2 PieceAt H p bs ∧ (∀ b ∈ bs, b.1 < 8) ∧ bs.length ≤ 64 ∧ ∀ H', Ex H H' → Q (.int ((bs.filter fun b => decide (b.1 = 2)).length : Int)) H'
/-- the word of a record -/
def invW (bs : List Bk) (x : Nat) : Str := if (bs.any fun b => decide (b.1 = 2)) && (bs.any fun b => decide (b.1 = 0) && decide (b.2.getD 0 0 = x)) then "sometimes" else if bs.any fun b => decide (1 < b.1) && b.2.contains x then "always" else "never"
def spInv9 (A : Ad) : Sp := fun vs H Q E => ∃ (a : Addr) (xs : List Int), vs = [.ref a] ∧ H a = some (.lst (xs.map V.int)) ∧ xs.length ≤ 64 ∧
  (strayI xs = none → ∀ bs : List Bk, formsF (natI xs) = bs.map some → (∀ b ∈ bs, Pk xs.length b) ∧ bs.length ≤ 64 ∧ ∀ p H', H p = none → Ex H H' → H' p = some (.lst ((List.range xs.length).map fun x => V.str (invW bs x))) → Q (.ref p) H') ∧ RzP A xs H E
/-- a step of the law's reading: a word and the records in some order -/
def StpAt (H : Hp) (s : Addr) (ms : List Nat) : Prop := ∃ (w : Str) (t : Addr) (row : List Nat), H s = some (.tup [.str w, .ref t]) ∧ H t = some (.tup (nI row)) ∧ row.Perm ms
def spStp : Sp := fun vs H Q _ => ∃ (l : Addr) (ms : List Nat), vs = [.ref l] ∧ ListN H l ms ∧ 2 ≤ ms.length ∧ ms.length ≤ 4 ∧ ∀ s H', H s = none → Ex H H' → StpAt H' s ms → Q (.ref s) H'
/-- how many rows of choices: the law's own sum, and its next summand -/
def cntS (c f : Nat) : Nat → Int × Int
  | 0 => (0, 1)
  | k + 1 => ((cntS c f k).1 + (cntS c f k).2, (cntS c f k).2 * ((c : Int) - (k : Int)) * (if (f : Int) - (k : Int) > 0 then (f : Int) - (k : Int) else 0) / ((k : Int) + 1))
def spCnt : Sp := fun vs H Q _ => ∃ c f : Nat, vs = [.int (c : Int), .int (f : Int)] ∧ c ≤ 64 ∧ f ≤ 64 ∧ Q (.int (cntS c f (c + 1)).1) H
/-- the words by the pieces alone -/
def bpw (k : Nat) : Str := if k = 0 then "sometimes" else if k = 1 then "never" else "always"
def spBp9 : Sp := fun vs H Q _ => ∃ (p : Addr) (bs : List Bk) (n : Nat), vs = [.ref p, .int (n : Int)] ∧ BltAt H p bs ∧ Bd n bs ∧ n ≤ 64 ∧ (∀ b ∈ bs, b.1 < 8) ∧ ∀ (wl : Addr) (f : Nat → Str) H', H wl = none → Ex H H' → H' wl = some (.lst ((List.range n).map fun x => V.str (f x))) → (∀ b ∈ bs, ∀ x ∈ b.2, f x = bpw b.1) → Q (.ref wl) H'
end Pv

namespace Pv
open PySem L2 Evl Pm
def kvG (gs : List (Nat × Addr)) : List (Key × V) := gs.map fun x => (Sum.inl (x.1 : Int), V.ref x.2)
theorem kvG_some {gs : List (Nat × Addr)} {m : Nat} {v : V} : valV (kvG gs) (Sum.inl (m : Int) : Key) = some v → ∃ a, (m, a) ∈ gs ∧ v = V.ref a := by
  induction gs with
  | nil => intro h; cases h
  | cons x gs ih =>
    intro h
    unfold valV kvG at h ih
    rw [List.map_cons] at h
    by_cases c : x.1 = m
    · rw [List.find?_cons_of_pos (by simp [c])] at h
      refine ⟨x.2, ?_, (Option.some.inj h).symm⟩
      rw [← c]
      exact List.mem_cons_self ..
    · rw [List.find?_cons_of_neg (by simp; omega)] at h
      obtain ⟨a, h1, h2⟩ := ih h
      exact ⟨a, List.mem_cons_of_mem _ h1, h2⟩
theorem kvG_none {gs : List (Nat × Addr)} {m : Nat} (h : valV (kvG gs) (Sum.inl (m : Int) : Key) = none) : ∀ x ∈ gs, x.1 ≠ m := fun x hx c => by
  unfold valV kvG at h
  rw [Option.map_eq_none_iff, List.find?_eq_none] at h
  exact h (Sum.inl (x.1 : Int), V.ref x.2) (List.mem_map.mpr ⟨x, hx, rfl⟩) (by simp [c])
theorem kvG_put {gs : List (Nat × Addr)} {m : Nat} {z : Addr} (h : ∀ x ∈ gs, x.1 ≠ m) : putK (kvG gs) (Sum.inl (m : Int) : Key) (V.ref z) = kvG (gs ++ [(m, z)]) := by
  unfold putK
  rw [if_neg]
  · unfold kvG
    rw [List.map_append]
    rfl
  · intro c
    rw [List.any_eq_true] at c
    obtain ⟨kv, h1, h2⟩ := c
    unfold kvG at h1
    obtain ⟨x, h3, rfl⟩ := List.mem_map.mp h1
    have := of_decide_eq_true h2
    injection this with this
    exact h x h3 (by omega)
structure GstF (f : Nat → Nat) (i : Nat) (H0 H : Hp) (d : Addr) (gs : List (Nat × Addr)) : Prop where
  kv : H d = some (.dK (kvG gs))
  keys : gs.map (·.1) = (List.range i).filter fun x => decide (f x = x)
  nd : (gs.map (·.2)).Nodup
  at_ : ∀ x ∈ gs, H0 x.2 = none ∧ x.2 ≠ d ∧ ListN H x.2 ((List.range i).filter fun y => decide (f y = x.1))
  mt : Mut d H0 H
section
variable {f : Nat → Nat} {i : Nat} {H0 H : Hp} {d : Addr} {gs : List (Nat × Addr)}
theorem GstF.tup (G : GstF f i H0 H d gs) {t : Addr} {o : HO} (h : H t = none) : GstF f i H0 (upd H t o) d gs := by
  refine ⟨?_, G.keys, G.nd, fun x hx => ?_, G.mt.new h⟩
  · rw [upd_ne (ne_of_none G.kv h)]
    exact G.kv
  · obtain ⟨h1, h2, h3⟩ := G.at_ x hx
    refine ⟨h1, h2, ?_⟩
    show upd H t o x.2 = _
    rw [upd_ne (ne_of_none h3 h)]
    exact h3
theorem GstF.lt (G : GstF f i H0 H d gs) {x : Nat × Addr} (hx : x ∈ gs) : x.1 < i := by
  have : x.1 ∈ gs.map (·.1) := List.mem_map.mpr ⟨x, hx, rfl⟩
  rw [G.keys] at this
  exact List.mem_range.mp (List.mem_filter.mp this).1
theorem GstF.old (G : GstF f i H0 H d gs) {a : Addr} (h : (f i, a) ∈ gs) : GstF f (i + 1) H0 (upd H a (.lst (nI ((List.range i).filter fun y => decide (f y = f i)) ++ [V.int (i : Int)]))) d gs := by
  have hlt := G.lt h
  obtain ⟨h1, h2, h3⟩ := G.at_ _ h
  have key : ∀ m, (List.range (i + 1)).filter (fun y => decide (f y = m)) = (List.range i).filter (fun y => decide (f y = m)) ++ (if f i = m then [i] else []) := fun m => by
    rw [List.range_succ, List.filter_append]
    congr 1
    by_cases c : f i = m <;> simp [c]
  refine ⟨?_, ?_, G.nd, fun x hx => ?_, fun b o hb hv => ?_⟩
  · rw [upd_ne h2.symm]
    exact G.kv
  · rw [List.range_succ, List.filter_append, G.keys]
    have : (decide (f i = i)) = false := decide_eq_false (by have : f i < i := hlt; omega)
    simp [this]
  · obtain ⟨g1, g2, g3⟩ := G.at_ x hx
    refine ⟨g1, g2, ?_⟩
    show upd H a _ x.2 = _
    rw [key]
    by_cases c : x.2 = a
    · have e : x.1 = f i := by
        obtain ⟨p, hp⟩ := List.mem_iff_getElem?.mp hx
        obtain ⟨q, hq⟩ := List.mem_iff_getElem?.mp h
        have e1 : (gs.map (·.2))[p]? = some a := by rw [List.getElem?_map, hp]; simp [c]
        have e2 : (gs.map (·.2))[q]? = some a := by rw [List.getElem?_map, hq]; rfl
        have := nd_ix G.nd e1 e2
        subst this
        rw [hp] at hq
        injection hq with hq
        rw [hq]
      rw [c, upd_same, e, if_pos rfl]
      unfold nI
      rw [List.map_append]
      rfl
    · have e : f i ≠ x.1 := fun z => c (by
        obtain ⟨p, hp⟩ := List.mem_iff_getElem?.mp hx
        obtain ⟨q, hq⟩ := List.mem_iff_getElem?.mp h
        have e1 : (gs.map (·.1))[p]? = some x.1 := by rw [List.getElem?_map, hp]; rfl
        have e2 : (gs.map (·.1))[q]? = some x.1 := by rw [List.getElem?_map, hq]; simp [z]
        have nd : (gs.map (·.1)).Nodup := by rw [G.keys]; exact nodup_filter _ List.nodup_range
        have e3 := (List.getElem?_eq_some_iff.mp e1)
        have e4 := (List.getElem?_eq_some_iff.mp e2)
        obtain ⟨l1, e3⟩ := e3
        obtain ⟨l2, e4⟩ := e4
        have := (List.getElem_inj (h₀ := l1) (h₁ := l2) nd).mp (e3.trans e4.symm)
        subst this
        rw [hp] at hq
        injection hq with hq
        rw [hq])
      rw [upd_ne c, if_neg e, List.append_nil]
      exact g3
  · have : b ≠ a := fun z => by
      rw [z, h1] at hv
      cases hv
    rw [upd_ne this]
    exact G.mt b o hb hv
theorem GstF.fresh (G : GstF f i H0 H d gs) (hle : ∀ x, x ≤ i → f x ≤ x) (hroot : f (f i) = f i) {z : Addr} (h : ∀ x ∈ gs, x.1 ≠ f i) (hz : H z = none) :
    f i = i ∧ GstF f (i + 1) H0 (upd (upd (upd H z (.lst [])) d (.dK (kvG (gs ++ [(i, z)])))) z (.lst ([] ++ [V.int (i : Int)]))) d (gs ++ [(i, z)]) := by
  have hi : f i = i := by
    have h1 := hle i (Nat.le_refl _)
    by_cases c : f i = i
    · exact c
    · exfalso
      have : f i ∈ gs.map (·.1) := by
        rw [G.keys, List.mem_filter, List.mem_range]
        exact ⟨by omega, by simpa using hroot⟩
      obtain ⟨x, hx, e⟩ := List.mem_map.mp this
      exact h x hx e
  have hdz : z ≠ d := fun e => by
    rw [e, G.kv] at hz
    cases hz
  have key : ∀ m, (List.range (i + 1)).filter (fun y => decide (f y = m)) = (List.range i).filter (fun y => decide (f y = m)) ++ (if f i = m then [i] else []) := fun m => by
    rw [List.range_succ, List.filter_append]
    congr 1
    by_cases c : f i = m <;> simp [c]
  have ne : ∀ x ∈ gs, x.2 ≠ z := fun x hx e => by
    have := (G.at_ x hx).2.2
    rw [e] at this
    rw [show H z = _ from this] at hz
    cases hz
  refine ⟨hi, ?_, ?_, ?_, fun x hx => ?_, fun b o hb hv => ?_⟩
  · rw [upd_ne hdz.symm, upd_same]
  · rw [List.map_append, G.keys, List.range_succ, List.filter_append]
    simp [hi]
  · rw [List.map_append, List.nodup_append]
    refine ⟨G.nd, by simp, fun a ha b hb => ?_⟩
    obtain ⟨x, hx, rfl⟩ := List.mem_map.mp ha
    simp at hb
    rw [hb]
    exact ne x hx
  · rcases List.mem_append.mp hx with hx | hx
    · obtain ⟨g1, g2, g3⟩ := G.at_ x hx
      refine ⟨g1, g2, ?_⟩
      show upd _ z _ x.2 = _
      rw [upd_ne (ne x hx), upd_ne g2, upd_ne (ne x hx), key, if_neg (by rw [hi]; have := G.lt hx; omega), List.append_nil]
      exact g3
    · simp at hx
      subst hx
      refine ⟨G.mt.free hdz hz, hdz, ?_⟩
      show upd _ z _ z = _
      rw [upd_same, key, if_pos hi]
      have : (List.range i).filter (fun y => decide (f y = i)) = [] := by
        rw [List.filter_eq_nil_iff]
        intro y hy
        have h1 := List.mem_range.mp hy
        have h2 := hle y (by omega)
        simp
        omega
      rw [this]
      rfl
  · have e := G.mt b o hb hv
    have n : b ≠ z := fun q => by
      rw [q, hz] at e
      cases e
    rw [upd_ne n, upd_ne hb, upd_ne n]
    exact e
end
end Pv

namespace Pv
open PySem L2 Evl Pm
theorem PieceAt.updL {H : Hp} {q f : Addr} {b : Bk} {xs : List V} {o : HO} (h : PieceAt H q b) (hf : H f = some (.lst xs)) : PieceAt (upd H f o) q b := by
  obtain ⟨t, h1, h2⟩ := h
  refine ⟨t, ?_, ?_⟩
  · rw [upd_ne (fun z => by rw [z, hf] at h1; cases h1)]
    exact h1
  · rw [upd_ne (fun z => by rw [z, hf] at h2; cases h2)]
    exact h2
theorem All2.ex {H H1 : Hp} {p : Addr} {bs : List Bk} (e : Ex H H1) (h : All2 PieceAt H p bs) : All2 PieceAt H1 p bs := by
  obtain ⟨qs, h1, h2, h3⟩ := h
  exact ⟨qs, e _ _ h1, h2, fun j q b x y => (h3 j q b x y).ex e⟩
theorem All2.nil {H : Hp} {p : Addr} (h : H p = some (.lst [])) : All2 PieceAt H p [] := ⟨[], h, rfl, fun j q b h => by simp at h⟩
theorem All2.app {H : Hp} {p q : Addr} {cs : List Bk} {b : Bk} (h : All2 PieceAt H p cs) (hq : PieceAt H q b) : ∃ qs : List Addr, H p = some (.lst (qs.map V.ref)) ∧ qs.length = cs.length ∧ All2 PieceAt (upd H p (.lst (qs.map V.ref ++ [V.ref q]))) p (cs ++ [b]) := by
  obtain ⟨qs, h1, h2, h3⟩ := h
  refine ⟨qs, h1, h2, qs ++ [q], by rw [upd_same, List.map_append]; rfl, by rw [List.length_append, List.length_append, h2]; rfl, fun j r c hr hc => ?_⟩
  rcases Nat.lt_or_ge j qs.length with hj | hj
  · rw [List.getElem?_append_left hj] at hr
    rw [List.getElem?_append_left (by omega)] at hc
    exact (h3 j r c hr hc).updL h1
  · rw [List.getElem?_append_right hj] at hr
    rw [List.getElem?_append_right (by omega)] at hc
    have : j - qs.length = 0 := by
      by_cases z : j - qs.length = 0
      · exact z
      · rw [List.getElem?_eq_none (by simp; omega)] at hr
        cases hr
    rw [this] at hr
    rw [← h2, this] at hc
    cases hr
    cases hc
    exact hq.updL h1
section
variable {ys : List Nat} {gs : List (Nat × Addr)}
theorem gs_root (h : gs.map (·.1) = rootsF ys) {i : Nat} {x : Nat × Addr} (hx : gs[i]? = some x) : (rootsF ys)[i]? = some x.1 ∧ x.1 ∈ rootsF ys := by
  have e : (rootsF ys)[i]? = some x.1 := by rw [← h, List.getElem?_map, hx]; rfl
  exact ⟨e, List.mem_of_getElem? e⟩
theorem gs_forms (h : gs.map (·.1) = rootsF ys) {i : Nat} {x : Nat × Addr} (hx : gs[i]? = some x) : (gpsF ys)[i]? = some (grpF ys x.1) ∧ (formsF ys)[i]? = some (pieceF (gN ys) (grpF ys x.1)) := by
  obtain ⟨e, _⟩ := gs_root h hx
  have e2 : (gpsF ys)[i]? = some (grpF ys x.1) := by
    unfold gpsF
    rw [List.getElem?_map, e]
    rfl
  refine ⟨e2, ?_⟩
  unfold formsF
  rw [List.getElem?_map, e2]
  rfl
theorem forms_len (h : gs.map (·.1) = rootsF ys) : gs.length = (formsF ys).length := by
  unfold formsF gpsF
  rw [List.length_map, List.length_map, ← h, List.length_map]
theorem roots_len (ys : List Nat) : (rootsF ys).length ≤ ys.length := by
  have := List.length_filter_le (fun x => decide (labF ys x = x)) (List.range ys.length)
  rw [List.length_range] at this
  exact this
theorem gs_len (h : gs.map (·.1) = rootsF ys) : gs.length ≤ ys.length := by
  have := roots_len ys
  rw [← h, List.length_map] at this
  exact this
/-- the first group that is no piece -/
theorem bad_first {i : Nat} {gp : List Nat} (hg : (gpsF ys)[i]? = some gp) (hn : pieceF (gN ys) gp = none) {cs : List Bk} (hc : (formsF ys).take i = cs.map some) : badF ys = some gp := by
  unfold badF
  obtain ⟨hi, he⟩ := List.getElem?_eq_some_iff.mp hg
  rw [List.find?_eq_some_iff_getElem]
  refine ⟨?_, i, hi, he, fun j hj => ?_⟩
  · show (pieceF (gN ys) gp).isNone = true
    rw [hn]
    rfl
  · have hjl : j < (gpsF ys).length := by omega
    have e1 : (formsF ys)[j]? = some (pieceF (gN ys) (gpsF ys)[j]) := by
      unfold formsF
      rw [List.getElem?_map, List.getElem?_eq_getElem hjl]
      rfl
    have e2 : ((formsF ys).take i)[j]? = some (pieceF (gN ys) (gpsF ys)[j]) := by
      rw [List.getElem?_take_of_lt hj]
      exact e1
    rw [hc, List.getElem?_map] at e2
    cases h : cs[j]? with
    | none => rw [h] at e2; cases e2
    | some b =>
      rw [h] at e2
      have e2 : some b = pieceF (gN ys) (gpsF ys)[j] := Option.some.inj e2
      show (!(pieceF (gN ys) (gpsF ys)[j]).isNone) = true
      rw [← e2]
      rfl
theorem mem_gps {gp : List Nat} (h : gp ∈ gpsF ys) : ∃ r, r ∈ rootsF ys ∧ gp = grpF ys r := by
  unfold gpsF at h
  obtain ⟨r, hr, e⟩ := List.mem_map.mp h
  exact ⟨r, hr, e.symm⟩
theorem bad_none (h : badF ys = none) : ∃ bs : List Bk, formsF ys = bs.map some := by
  unfold badF at h
  have h := List.find?_eq_none.mp h
  unfold formsF
  have g : ∀ l : List (List Nat), (∀ gp ∈ l, ¬ (pieceF (fun x => ys.getD x 0) gp).isNone = true) → ∃ bs : List Bk, l.map (pieceF fun x => ys.getD x 0) = bs.map some := fun l => by
    induction l with
    | nil => intro _; exact ⟨[], rfl⟩
    | cons a l ih =>
      intro hl
      obtain ⟨bs, e⟩ := ih fun gp hg => hl gp (List.mem_cons_of_mem _ hg)
      have h1 := hl a (List.mem_cons_self ..)
      cases c : pieceF (fun x => ys.getD x 0) a with
      | none => rw [c] at h1; exact absurd rfl h1
      | some b => exact ⟨b :: bs, by rw [List.map_cons, List.map_cons, c, e]⟩
  exact g _ h
end
end Pv

namespace Pv
/-- how many rows of choices there are for c claims and f free records -/
def Nr : Nat → Nat → Nat
  | 0, _ => 1
  | c + 1, f => Nr c f + f * Nr c (f - 1)
def chs : Nat → Nat → Nat
  | _, 0 => 1
  | 0, _ + 1 => 0
  | c + 1, k + 1 => chs c k + chs c (k + 1)
def ffl : Nat → Nat → Nat
  | _, 0 => 1
  | f, k + 1 => f * ffl (f - 1) k
theorem chs_big : ∀ {c k : Nat}, c < k → chs c k = 0
  | 0, k + 1, _ => rfl
  | c + 1, k + 1, h => by
    show chs c k + chs c (k + 1) = 0
    rw [chs_big (show c < k by omega), chs_big (show c < k + 1 by omega)]
theorem chs_zero (c : Nat) : chs c 0 = 1 := by cases c <;> rfl
theorem chs_step : ∀ (c k : Nat), chs c (k + 1) * (k + 1) = chs c k * (c - k)
  | 0, k => by
    show 0 * (k + 1) = chs 0 k * (0 - k)
    rw [Nat.zero_mul, Nat.zero_sub, Nat.mul_zero]
  | c + 1, 0 => by
    show (chs c 0 + chs c 1) * 1 = chs (c + 1) 0 * (c + 1)
    have h := chs_step c 0
    rw [chs_zero] at h ⊢
    rw [chs_zero]
    have h : chs c 1 * (0 + 1) = 1 * (c - 0) := h
    omega
  | c + 1, j + 1 => by
    show (chs c (j + 1) + chs c (j + 2)) * (j + 2) = (chs c j + chs c (j + 1)) * (c + 1 - (j + 1))
    have h1 := chs_step c j
    have h2 := chs_step c (j + 1)
    have h2 : chs c (j + 2) * (j + 2) = chs c (j + 1) * (c - (j + 1)) := h2
    rw [Nat.add_mul, h2, Nat.add_mul, show c + 1 - (j + 1) = c - j by omega, ← h1, ← Nat.mul_add, ← Nat.mul_add]
    by_cases e : j + 1 ≤ c
    · congr 1
      omega
    · rw [chs_big (show c < j + 1 by omega), Nat.zero_mul, Nat.zero_mul]
theorem ffl_step : ∀ (k f : Nat), ffl f (k + 1) = ffl f k * (f - k)
  | 0, f => by
    show f * 1 = 1 * f
    omega
  | k + 1, f => by
    show f * ffl (f - 1) (k + 1) = f * ffl (f - 1) k * (f - (k + 1))
    rw [ffl_step k (f - 1), show f - 1 - k = f - (k + 1) by omega, Nat.mul_assoc]
/-- the sum up to k -/
def sumT (c f : Nat) : Nat → Nat
  | 0 => 0
  | k + 1 => sumT c f k + chs c k * ffl f k
theorem sumT_step (c f : Nat) : ∀ k, sumT (c + 1) f (k + 1) = sumT c f (k + 1) + f * sumT c (f - 1) k
  | 0 => by
    show 0 + chs (c + 1) 0 * 1 = 0 + chs c 0 * 1 + f * 0
    rw [chs_zero, chs_zero]
    omega
  | k + 1 => by
    have h := sumT_step c f k
    show sumT (c + 1) f (k + 1) + (chs c k + chs c (k + 1)) * (f * ffl (f - 1) k) = sumT c f (k + 1) + chs c (k + 1) * (f * ffl (f - 1) k) + f * (sumT c (f - 1) k + chs c k * ffl (f - 1) k)
    rw [h, Nat.add_mul, Nat.mul_add, Nat.mul_left_comm f (chs c k)]
    omega
theorem nr_sum : ∀ (c f : Nat), Nr c f = sumT c f (c + 1)
  | 0, f => by
    show 1 = 0 + chs 0 0 * 1
    rfl
  | c + 1, f => by
    rw [sumT_step c f (c + 1)]
    show Nr c f + f * Nr c (f - 1) = _
    rw [nr_sum c f, nr_sum c (f - 1)]
    show sumT c f (c + 1) + _ = sumT c f (c + 1) + chs c (c + 1) * ffl f (c + 1) + _
    rw [chs_big (Nat.lt_succ_self c), Nat.zero_mul]
    rfl
theorem cnt_is (c f : Nat) : ∀ k, k ≤ c + 1 → cntS c f k = (((sumT c f k : Nat) : Int), ((chs c k * ffl f k : Nat) : Int))
  | 0, _ => by
    refine Prod.ext rfl ?_
    show (1 : Int) = ((chs c 0 * 1 : Nat) : Int)
    rw [chs_zero]
    rfl
  | k + 1, h => by
    have ih := cnt_is c f k (by omega)
    unfold cntS
    rw [ih]
    refine Prod.ext ?_ ?_
    · show ((sumT c f k : Nat) : Int) + ((chs c k * ffl f k : Nat) : Int) = ((sumT c f k + chs c k * ffl f k : Nat) : Int)
      omega
    · show ((chs c k * ffl f k : Nat) : Int) * ((c : Int) - (k : Int)) * (if (f : Int) - (k : Int) > 0 then (f : Int) - (k : Int) else 0) / ((k : Int) + 1) = ((chs c (k + 1) * ffl f (k + 1) : Nat) : Int)
      have e1 : (c : Int) - (k : Int) = ((c - k : Nat) : Int) := by omega
      have e2 : (if (f : Int) - (k : Int) > 0 then (f : Int) - (k : Int) else 0) = ((f - k : Nat) : Int) := by split <;> omega
      rw [e1, e2, ← Int.natCast_mul, ← Int.natCast_mul]
      have e3 : chs c k * ffl f k * (c - k) * (f - k) = chs c (k + 1) * ffl f (k + 1) * (k + 1) := by
        rw [ffl_step, Nat.mul_right_comm (chs c k), ← chs_step]
        ac_rfl
      rw [e3, Int.natCast_mul, Int.natCast_succ]
      exact Int.mul_ediv_cancel _ (by omega)
/-- the law's count is the number of rows -/
theorem cnt_nr (c f : Nat) : (cntS c f (c + 1)).1 = (Nr c f : Int) := by
  rw [cnt_is c f (c + 1) (Nat.le_refl _), nr_sum]
theorem nr_pos : ∀ c f, 0 < Nr c f
  | 0, _ => Nat.one_pos
  | c + 1, f => by
    have := nr_pos c f
    show 0 < Nr c f + f * Nr c (f - 1)
    omega
end Pv

namespace Pv
/-- the free records that a row of choices has not -/
def left (fs : List Nat) (row : List Int) : List Nat := fs.filter fun x => !row.contains (x : Int)
/-- all rows of k choices -/
def allC (fs : List Nat) : Nat → List (List Int)
  | 0 => [[]]
  | k + 1 => (allC fs k).flatMap fun row => ((-1 : Int) :: (left fs row).map fun x : Nat => (x : Int)).map fun x => row ++ [x]
theorem left_none (fs : List Nat) (row : List Int) : left fs (row ++ [-1]) = left fs row := by
  unfold left
  refine List.filter_congr fun x _ => ?_
  congr 1
  rw [Bool.eq_iff_iff, List.contains_iff_mem, List.contains_iff_mem, List.mem_append]
  constructor
  · rintro (h | h)
    · exact h
    · have := List.mem_singleton.1 h
      omega
  · exact .inl
theorem left_one {fs : List Nat} (nd : fs.Nodup) {row : List Int} {x : Nat} (h : x ∈ left fs row) : (left fs (row ++ [(x : Int)])).length = (left fs row).length - 1 := by
  have e : left fs (row ++ [(x : Int)]) = (left fs row).filter fun y => !decide (y = x) := by
    unfold left
    rw [List.filter_filter]
    refine List.filter_congr fun y _ => ?_
    rw [Bool.eq_iff_iff]
    simp only [Bool.not_eq_true', Bool.and_eq_true, decide_eq_false_iff_not]
    rw [← Bool.not_eq_true, ← Bool.not_eq_true, List.contains_iff_mem, List.contains_iff_mem, List.mem_append, List.mem_singleton]
    constructor
    · intro h
      exact ⟨fun e => h (.inr (by rw [e])), fun m => h (.inl m)⟩
    · rintro ⟨h1, h2⟩ (h | h)
      · exact h2 h
      · exact h1 (Int.ofNat.inj h)
  have nl : (left fs row).Nodup := nd.sublist (List.filter_sublist ..)
  rw [e]
  clear e
  generalize left fs row = l at h nl
  induction l with
  | nil => cases h
  | cons a l ih =>
    obtain ⟨n1, n2⟩ := List.nodup_cons.1 nl
    by_cases e : a = x
    · subst e
      have : (l.filter fun y => !decide (y = a)) = l := List.filter_eq_self.2 fun y hy => by
        rw [decide_eq_false (fun z => n1 (by rw [← z]; exact hy))]
        rfl
      rw [List.filter_cons, if_neg (by simp), this]
      rfl
    · have hx : x ∈ l := (List.mem_cons.1 h).resolve_left (Ne.symm e)
      rw [List.filter_cons, if_pos (by simp [e]), List.length_cons, ih hx n2]
      have := List.length_pos_of_mem hx
      rw [List.length_cons]
      omega
theorem sum_flat {α : Type} (g : α → Nat) (h : α → List α) (m : α → Nat) (H : ∀ a, ((h a).map g).sum = m a) : ∀ l : List α, ((l.flatMap h).map g).sum = (l.map m).sum
  | [] => rfl
  | a :: l => by
    rw [List.flatMap_cons, List.map_append, List.sum_append, List.map_cons, List.sum_cons, H a, sum_flat g h m H l]
theorem sum_const {α : Type} {g : α → Nat} {z : Nat} : ∀ {l : List α}, (∀ a ∈ l, g a = z) → (l.map g).sum = l.length * z
  | [], _ => by rw [List.length_nil, Nat.zero_mul]; rfl
  | a :: l, h => by
    rw [List.map_cons, List.sum_cons, h a (List.mem_cons_self ..), sum_const fun x hx => h x (List.mem_cons_of_mem _ hx), List.length_cons, Nat.succ_mul, Nat.add_comm]
/-- over all rows of k choices, the rows that each leads to -/
theorem all_sum {fs : List Nat} (nd : fs.Nodup) (c : Nat) : ∀ k, k ≤ c → ((allC fs k).map fun row => Nr (c - k) (left fs row).length).sum = Nr c fs.length
  | 0, _ => by
    show Nr (c - 0) (left fs []).length + 0 = _
    have : left fs [] = fs := List.filter_eq_self.2 fun x _ => rfl
    rw [this]
    rfl
  | k + 1, h => by
    rw [← all_sum nd c k (by omega)]
    refine sum_flat _ _ _ (fun row => ?_) (allC fs k)
    rw [List.map_map, List.map_cons, List.sum_cons, List.map_map]
    rw [sum_const (z := Nr (c - (k + 1)) ((left fs row).length - 1)) fun x hx => ?_]
    · show Nr (c - (k + 1)) (left fs (row ++ [-1])).length + _ = _
      rw [left_none, show c - k = (c - (k + 1)) + 1 by omega]
      rfl
    · show Nr (c - (k + 1)) (left fs (row ++ [(x : Int)])).length = _
      rw [left_one nd hx]
theorem len_sum {α : Type} {g : α → Nat} : ∀ {l : List α}, (∀ a, 0 < g a) → l.length ≤ (l.map g).sum
  | [], _ => Nat.le_refl _
  | a :: l, h => by
    have := h a
    have := len_sum (l := l) h
    rw [List.map_cons, List.sum_cons, List.length_cons]
    omega
/-- so no list of rows on the way is longer than the law's count -/
theorem all_len {fs : List Nat} (nd : fs.Nodup) {c k : Nat} (h : k ≤ c) : (allC fs k).length ≤ Nr c fs.length := by
  rw [← all_sum nd c k h]
  exact len_sum fun row => nr_pos _ _
end Pv

namespace Pv
open PySem L2 Evl Pm
def RwI (H : Hp) (p : Addr) (rows : List (List Int)) : Prop := ∃ qs : List Addr, H p = some (.lst (qs.map V.ref)) ∧ qs.length = rows.length ∧ ∀ (i : Nat) (q : Addr) (r : List Int), qs[i]? = some q → rows[i]? = some r → H q = some (.lst (r.map V.int))
def spAc : Sp := fun vs H Q _ => ∃ (c : Nat) (fl : Addr) (fs : List Nat), vs = [.int (c : Int), .ref fl] ∧ ListN H fl fs ∧ fs.Nodup ∧ fs.length ≤ 64 ∧ c ≤ 64 ∧ Nr c fs.length ≤ 300 ∧ ∀ p H', H p = none → Ex H H' → RwI H' p (allC fs c) → Q (.ref p) H'
theorem RwI.ex {H H1 : Hp} {p : Addr} {rows : List (List Int)} (e : Ex H H1) (h : RwI H p rows) : RwI H1 p rows := by
  obtain ⟨qs, a, l, k⟩ := h
  exact ⟨qs, e _ _ a, l, fun i q r h1 h2 => e _ _ (k i q r h1 h2)⟩
theorem RwI.app {H H1 : Hp} {p q : Addr} {rows : List (List Int)} {r : List Int} {qs : List Addr} (hp : H1 p = some (.lst ((qs ++ [q]).map V.ref))) (l : qs.length = rows.length)
    (k : ∀ (i : Nat) (q : Addr) (r : List Int), qs[i]? = some q → rows[i]? = some r → H q = some (.lst (r.map V.int))) (e : ∀ (a : Addr) (xs : List V), (∃ i : Nat, qs[i]? = some a) → H a = some (.lst xs) → H1 a = some (.lst xs)) (hq : H1 q = some (.lst (r.map V.int))) : RwI H1 p (rows ++ [r]) := by
  refine ⟨qs ++ [q], hp, by rw [List.length_append, List.length_append, l]; rfl, fun i t x h1 h2 => ?_⟩
  by_cases hi : i < qs.length
  · rw [List.getElem?_append_left hi] at h1
    rw [List.getElem?_append_left (by rw [← l]; exact hi)] at h2
    exact e t _ ⟨i, h1⟩ (k i t x h1 h2)
  · have a2 : i < (qs ++ [q]).length := (List.getElem?_eq_some_iff.mp h1).1
    rw [List.length_append] at a2
    have a3 : i = qs.length := by have : ([q] : List Addr).length = 1 := rfl; omega
    rw [a3, List.getElem?_append_right (Nat.le_refl _), Nat.sub_self] at h1
    rw [a3, l, List.getElem?_append_right (Nat.le_refl _), Nat.sub_self] at h2
    cases h1
    cases h2
    exact hq
end Pv

namespace Pv
open PySem L2 Evl Pm
/-- the records of a claim's step: its own two and the picked one -/
def pkd (z : Option Int) : List Nat := match z with
  | some z => if 0 ≤ z then [z.toNat] else []
  | none => []
/-- the steps of a reading: each one's records -/
def rdS : List Bk → List Int → List (List Nat)
  | [], _ => []
  | b :: bs, row => if b.1 = 2 then (b.2 ++ pkd row.head?) :: rdS bs row.tail else if 1 < b.1 then b.2 :: rdS bs row else rdS bs row
def clN (bs : List Bk) : Nat := (bs.filter fun b => decide (b.1 = 2)).length
def frL (bs : List Bk) : List Nat := (bs.filter fun b => decide (b.1 = 0)).map fun b => b.2.getD 0 0
def toL (bs : List Bk) : List Nat := (bs.filter fun b => decide (1 < b.1)).flatMap (·.2)
theorem rd_count (x : Nat) : ∀ (bs : List Bk) (row : List Int), row.length = clN bs → (rdS bs row).flatten.count x = (toL bs).count x + row.count (x : Int)
  | [], row, h => by
    have : row = [] := List.eq_nil_of_length_eq_zero h
    subst this
    rfl
  | b :: bs, row, h => by
    unfold rdS
    by_cases c : b.1 = 2
    · rw [if_pos c]
      have e1 : clN (b :: bs) = clN bs + 1 := by
        unfold clN
        rw [List.filter_cons, if_pos (by rw [decide_eq_true c])]
        rfl
      have e2 : toL (b :: bs) = b.2 ++ toL bs := by
        unfold toL
        rw [List.filter_cons, if_pos (by rw [decide_eq_true (by omega)])]
        rfl
      cases row with
      | nil => rw [e1] at h; cases h
      | cons z row =>
      rw [e2, List.flatten_cons, List.count_append, List.count_append, List.count_append, show (z :: row).tail = row from rfl, rd_count x bs row (by rw [e1] at h; exact Nat.succ.inj h), List.count_cons]
      have e3 : (pkd (z :: row).head?).count x = if z == (x : Int) then 1 else 0 := by
        show (if 0 ≤ z then [z.toNat] else []).count x = _
        by_cases d : 0 ≤ z
        · rw [if_pos d, List.count_cons, List.count_nil, Nat.zero_add]
          have : (z.toNat == x) = (z == (x : Int)) := by
            rw [Bool.eq_iff_iff, beq_iff_eq, beq_iff_eq]
            omega
          rw [this]
        · rw [if_neg d, List.count_nil, if_neg]
          rw [beq_iff_eq]
          omega
      rw [e3]
      omega
    · rw [if_neg c]
      have e1 : clN (b :: bs) = clN bs := by
        unfold clN
        rw [List.filter_cons, if_neg (by rw [decide_eq_false c]; exact Bool.false_ne_true)]
      by_cases d : 1 < b.1
      · have e2 : toL (b :: bs) = b.2 ++ toL bs := by
          unfold toL
          rw [List.filter_cons, if_pos (by rw [decide_eq_true d])]
          rfl
        rw [if_pos d, e2, List.flatten_cons, List.count_append, List.count_append, rd_count x bs row (by rw [← e1]; exact h)]
        omega
      · have e2 : toL (b :: bs) = toL bs := by
          unfold toL
          rw [List.filter_cons, if_neg (by rw [decide_eq_false d]; exact Bool.false_ne_true)]
        rw [if_neg d, e2]
        exact rd_count x bs row (by rw [← e1]; exact h)
/-! ### rows of choices -/
theorem all_mem {fs : List Nat} : ∀ {k : Nat} {row : List Int}, row ∈ allC fs k → row.length = k ∧ (∀ z ∈ row, z = -1 ∨ ∃ x ∈ fs, z = (x : Int)) ∧ ∀ x : Nat, row.count (x : Int) ≤ 1
  | 0, row, h => by
    cases List.mem_singleton.1 h
    exact ⟨rfl, (fun z hz => by cases hz), fun x => Nat.zero_le _⟩
  | k + 1, row, h => by
    obtain ⟨r, hr, h⟩ := List.mem_flatMap.1 h
    obtain ⟨z, hz, rfl⟩ := List.mem_map.1 h
    obtain ⟨l, m, c⟩ := all_mem hr
    refine ⟨by rw [List.length_append, l]; rfl, fun y hy => ?_, fun x => ?_⟩
    · rcases List.mem_append.1 hy with hy | hy
      · exact m y hy
      · rw [List.mem_singleton.1 hy]
        rcases List.mem_cons.1 hz with e | hz
        · exact .inl e
        · obtain ⟨x, hx, rfl⟩ := List.mem_map.1 hz
          exact .inr ⟨x, (List.mem_filter.1 hx).1, rfl⟩
    · rw [List.count_append, List.count_cons, List.count_nil]
      by_cases e : z = (x : Int)
      · rcases List.mem_cons.1 hz with e2 | hz
        · omega
        · obtain ⟨y, hy, ey⟩ := List.mem_map.1 hz
          have hy2 := (List.mem_filter.1 hy).2
          have : y = x := by omega
          subst this
          have n : (y : Int) ∉ r := fun q => by
            rw [List.contains_iff_mem.2 q] at hy2
            cases hy2
          rw [List.count_eq_zero_of_not_mem n]
          split <;> omega
      · rw [if_neg (by rw [beq_iff_eq]; exact e)]
        exact c x
theorem all_rep (fs : List Nat) : ∀ k, List.replicate k (-1 : Int) ∈ allC fs k
  | 0 => List.mem_singleton.2 rfl
  | k + 1 => by
    refine List.mem_flatMap.2 ⟨_, all_rep fs k, List.mem_map.2 ⟨-1, List.mem_cons_self .., ?_⟩⟩
    rw [List.replicate_succ']
theorem all_one {fs : List Nat} {x : Nat} (hx : x ∈ fs) : ∀ k, ∃ row ∈ allC fs (k + 1), row.count (x : Int) = 1
  | 0 => by
    refine ⟨[] ++ [(x : Int)], List.mem_flatMap.2 ⟨[], List.mem_singleton.2 rfl, List.mem_map.2 ⟨(x : Int), List.mem_cons_of_mem _ (List.mem_map.2 ⟨x, List.mem_filter.2 ⟨hx, rfl⟩, rfl⟩), rfl⟩⟩, ?_⟩
    rw [List.nil_append, List.count_cons, List.count_nil, if_pos (by rw [beq_iff_eq])]
  | k + 1 => by
    obtain ⟨row, hr, c⟩ := all_one hx k
    refine ⟨row ++ [-1], List.mem_flatMap.2 ⟨row, hr, List.mem_map.2 ⟨-1, List.mem_cons_self .., rfl⟩⟩, ?_⟩
    rw [List.count_append, c, List.count_cons, List.count_nil, if_neg (by rw [beq_iff_eq]; omega)]
/-- how often a record is in the readings, over all rows -/
def totC (bs : List Bk) (rows : List (List Int)) (x : Nat) : Nat := (rows.map fun row => (rdS bs row).flatten.count x).sum
def cntW (m l : Nat) : Str := if m = 0 then "never" else if m = l then "always" else "sometimes"
theorem sum_le1 {α : Type} {g : α → Nat} : ∀ {l : List α}, (∀ a ∈ l, g a ≤ 1) → (l.map g).sum ≤ l.length ∧ ((∃ a ∈ l, g a = 0) → (l.map g).sum < l.length) ∧ ((∃ a ∈ l, g a = 1) → 0 < (l.map g).sum)
  | [], _ => ⟨Nat.le_refl _, (fun ⟨_, h, _⟩ => by cases h), (fun ⟨_, h, _⟩ => by cases h)⟩
  | a :: l, h => by
    obtain ⟨i1, i2, i3⟩ := sum_le1 fun b hb => h b (List.mem_cons_of_mem _ hb)
    have ha := h a (List.mem_cons_self ..)
    rw [List.map_cons, List.sum_cons, List.length_cons]
    refine ⟨by omega, ?_, ?_⟩
    · rintro ⟨b, hb, e⟩
      rcases List.mem_cons.1 hb with rfl | hb
      · omega
      · have := i2 ⟨b, hb, e⟩
        omega
    · rintro ⟨b, hb, e⟩
      rcases List.mem_cons.1 hb with rfl | hb
      · omega
      · have := i3 ⟨b, hb, e⟩
        omega
section
variable {n : Nat} {bs : List Bk}
theorem _root_.Pm.Bd.free_one (B : Bd n bs) {b : Bk} (hb : b ∈ bs) (h : b.1 = 0) : ∃ x, b.2 = [x] := by
  obtain ⟨_, l, _⟩ := B.pw b hb
  rw [h] at l
  exact List.length_eq_one_iff.1 l
theorem _root_.Pm.Bd.fr_mem (B : Bd n bs) {x : Nat} : x ∈ frL bs ↔ ∃ b ∈ bs, b.1 = 0 ∧ x ∈ b.2 := by
  unfold frL
  rw [List.mem_map]
  constructor
  · rintro ⟨b, hb, rfl⟩
    obtain ⟨h1, h2⟩ := List.mem_filter.1 hb
    have h2 := of_decide_eq_true h2
    obtain ⟨y, e⟩ := B.free_one h1 h2
    exact ⟨b, h1, h2, by rw [e]; exact List.mem_singleton.2 rfl⟩
  · rintro ⟨b, hb, h, hx⟩
    obtain ⟨y, e⟩ := B.free_one hb h
    rw [e] at hx
    refine ⟨b, List.mem_filter.2 ⟨hb, decide_eq_true h⟩, ?_⟩
    rw [e, List.mem_singleton.1 hx]
    rfl
theorem filter_flat {p : Bk → Bool} : ∀ (bs : List Bk), ((bs.filter p).flatMap (·.2)).Sublist (bs.flatMap (·.2))
  | [] => List.Sublist.refl _
  | b :: bs => by
    rw [List.filter_cons, List.flatMap_cons]
    cases p b
    · exact (filter_flat bs).trans (List.sublist_append_right _ _)
    · rw [if_pos rfl, List.flatMap_cons]
      exact List.Sublist.append (List.Sublist.refl _) (filter_flat bs)
theorem _root_.Pm.Bd.to_count (B : Bd n bs) {b : Bk} (hb : b ∈ bs) {x : Nat} (hx : x ∈ b.2) : (toL bs).count x = if 1 < b.1 then 1 else 0 := by
  have nd : (toL bs).Nodup := (filter_flat bs).nodup B.nd
  by_cases h : 1 < b.1
  · rw [if_pos h]
    exact nd.count.trans (if_pos (List.mem_flatMap.2 ⟨b, List.mem_filter.2 ⟨hb, decide_eq_true h⟩, hx⟩))
  · rw [if_neg h]
    refine List.count_eq_zero_of_not_mem fun q => ?_
    obtain ⟨c, hc, h2⟩ := List.mem_flatMap.1 q
    obtain ⟨h3, h4⟩ := List.mem_filter.1 hc
    rw [B.uq hb h3 hx h2] at h
    exact h (of_decide_eq_true h4)
theorem _root_.Pm.Bd.fr_nd (B : Bd n bs) : (frL bs).Nodup := by
  have key : ∀ l : List Bk, (∀ b ∈ l, b ∈ bs) → (l.flatMap (·.2)).Nodup → ((l.filter fun b => decide (b.1 = 0)).map fun b => b.2.getD 0 0).Nodup := by
    intro l
    induction l with
    | nil => intro _ _; exact List.nodup_nil
    | cons b l ih =>
      intro hl nd
      rw [List.flatMap_cons] at nd
      obtain ⟨_, n2, n3⟩ := List.nodup_append.1 nd
      have ih := ih (fun c hc => hl c (List.mem_cons_of_mem _ hc)) n2
      rw [List.filter_cons]
      by_cases c : b.1 = 0
      · rw [if_pos (by rw [decide_eq_true c]), List.map_cons, List.nodup_cons]
        refine ⟨fun q => ?_, ih⟩
        obtain ⟨d, hd, e⟩ := List.mem_map.1 q
        obtain ⟨h1, h2⟩ := List.mem_filter.1 hd
        obtain ⟨y, ey⟩ := B.free_one (hl b (List.mem_cons_self ..)) c
        obtain ⟨z, ez⟩ := B.free_one (hl d (List.mem_cons_of_mem _ h1)) (of_decide_eq_true h2)
        rw [ey, ez] at e
        have e : z = y := e
        exact n3 y (by rw [ey]; exact List.mem_singleton.2 rfl) y (List.mem_flatMap.2 ⟨d, h1, by rw [ez, e]; exact List.mem_singleton.2 rfl⟩) rfl
      · rw [if_neg (by rw [decide_eq_false c]; exact Bool.false_ne_true)]
        exact ih
  exact key bs (fun _ h => h) B.nd
theorem _root_.Pm.Bd.flat_len (B : Bd n bs) : (bs.flatMap (·.2)).length = n := by
  rw [B.pm.length_eq, List.length_range]
theorem _root_.Pm.Bd.many (B : Bd n bs) : bs.length ≤ n := by
  rw [← B.flat_len]
  have key : ∀ l : List Bk, (∀ b ∈ l, b.2 ≠ []) → l.length ≤ (l.flatMap (·.2)).length := by
    intro l
    induction l with
    | nil => intro _; exact Nat.le_refl _
    | cons b l ih =>
      intro h
      have := ih fun c hc => h c (List.mem_cons_of_mem _ hc)
      have := List.length_pos_iff.2 (h b (List.mem_cons_self ..))
      rw [List.flatMap_cons, List.length_append, List.length_cons]
      omega
  exact key bs fun b hb => B.ne hb
/-- the counted words are those of the def -/
theorem cnt_inv (B : Bd n bs) (ok : ∀ b ∈ bs, b.1 < 8) {x : Nat} (hx : x < n) : cntW (totC bs (allC (frL bs) (clN bs)) x) (allC (frL bs) (clN bs)).length = invW bs x := by
  obtain ⟨b, hb, hm⟩ := B.mem.1 hx
  have tc := B.to_count hb hm
  have e1 : totC bs (allC (frL bs) (clN bs)) x = ((allC (frL bs) (clN bs)).map fun row => (if 1 < b.1 then 1 else 0) + row.count (x : Int)).sum := by
    unfold totC
    congr 1
    refine List.map_congr_left fun row hr => ?_
    rw [rd_count x bs row (all_mem hr).1, tc]
  have pos : 0 < (allC (frL bs) (clN bs)).length := List.length_pos_of_mem (all_rep (frL bs) (clN bs))
  have noFree : b.1 ≠ 0 → x ∉ frL bs := fun h q => by
    obtain ⟨c, hc, h0, h2⟩ := B.fr_mem.1 q
    rw [B.uq hc hb h2 hm] at h0
    exact h h0
  have noC : x ∉ frL bs → ∀ row ∈ allC (frL bs) (clN bs), row.count (x : Int) = 0 := fun h row hr => List.count_eq_zero_of_not_mem fun q => by
    rcases (all_mem hr).2.1 _ q with e | ⟨y, hy, e⟩
    · omega
    · have : y = x := by omega
      rw [this] at hy
      exact h hy
  have anyF : (bs.any fun c => decide (c.1 = 0) && decide (c.2.getD 0 0 = x)) = decide (b.1 = 0) := by
    rw [Bool.eq_iff_iff, List.any_eq_true, decide_eq_true_iff]
    constructor
    · rintro ⟨c, hc, h⟩
      rw [Bool.and_eq_true, decide_eq_true_iff, decide_eq_true_iff] at h
      obtain ⟨y, ey⟩ := B.free_one hc h.1
      have : x ∈ c.2 := by
        rw [ey] at h ⊢
        exact List.mem_singleton.2 h.2.symm
      rw [← B.uq hc hb this hm]
      exact h.1
    · intro h
      refine ⟨b, hb, ?_⟩
      obtain ⟨y, ey⟩ := B.free_one hb h
      rw [Bool.and_eq_true, decide_eq_true_iff, decide_eq_true_iff]
      refine ⟨h, ?_⟩
      rw [ey] at hm ⊢
      exact (List.mem_singleton.1 hm).symm
  have anyT : (bs.any fun c => decide (1 < c.1) && c.2.contains x) = decide (1 < b.1) := by
    rw [Bool.eq_iff_iff, List.any_eq_true, decide_eq_true_iff]
    constructor
    · rintro ⟨c, hc, h⟩
      rw [Bool.and_eq_true, decide_eq_true_iff, List.contains_iff_mem] at h
      rw [← B.uq hc hb h.2 hm]
      exact h.1
    · intro h
      exact ⟨b, hb, by rw [Bool.and_eq_true, decide_eq_true_iff, List.contains_iff_mem]; exact ⟨h, hm⟩⟩
  have anyC : (bs.any fun c => decide (c.1 = 2)) = decide (0 < clN bs) := by
    rw [Bool.eq_iff_iff, List.any_eq_true, decide_eq_true_iff]
    constructor
    · rintro ⟨c, hc, h⟩
      exact List.length_pos_of_mem (List.mem_filter.2 ⟨hc, h⟩)
    · intro h
      obtain ⟨c, hc⟩ := List.exists_mem_of_length_pos h
      obtain ⟨h1, h2⟩ := List.mem_filter.1 hc
      exact ⟨c, h1, h2⟩
  unfold invW
  rw [anyF, anyT, anyC, e1]
  by_cases c0 : b.1 = 0
  · rw [if_neg (show ¬ 1 < b.1 by omega), decide_eq_true c0, Bool.and_true, decide_eq_false (show ¬ 1 < b.1 by omega)]
    have le1 : ∀ row ∈ allC (frL bs) (clN bs), 0 + row.count (x : Int) ≤ 1 := fun row hr => by rw [Nat.zero_add]; exact (all_mem hr).2.2 x
    obtain ⟨s1, s2, s3⟩ := sum_le1 le1
    by_cases cc : 0 < clN bs
    · rw [if_pos (decide_eq_true cc)]
      have xf := B.fr_mem.2 ⟨b, hb, c0, hm⟩
      obtain ⟨k, ek⟩ : ∃ k, clN bs = k + 1 := ⟨clN bs - 1, by omega⟩
      have p3 := s3 (by
        rw [ek]
        obtain ⟨row, hr, e⟩ := all_one xf k
        exact ⟨row, hr, by rw [Nat.zero_add]; exact e⟩)
      have p2 := s2 ⟨_, all_rep _ _, by
        rw [Nat.zero_add]
        exact List.count_eq_zero_of_not_mem fun q => by
          have := (List.mem_replicate.1 q).2
          omega⟩
      unfold cntW
      rw [if_neg (by omega), if_neg (by omega)]
    · rw [if_neg (by rw [decide_eq_false cc]; exact Bool.false_ne_true), if_neg Bool.false_ne_true]
      have z : clN bs = 0 := by omega
      rw [z]
      rfl
  · rw [decide_eq_false c0, Bool.and_false, if_neg Bool.false_ne_true]
    have nf := noC (noFree c0)
    by_cases c1 : 1 < b.1
    · rw [if_pos c1, if_pos (decide_eq_true c1)]
      have : ((allC (frL bs) (clN bs)).map fun row => 1 + row.count (x : Int)).sum = (allC (frL bs) (clN bs)).length * 1 := sum_const fun row hr => by rw [nf row hr]
      rw [this, Nat.mul_one]
      unfold cntW
      rw [if_neg (by omega), if_pos rfl]
    · rw [if_neg c1, if_neg (by rw [decide_eq_false c1]; exact Bool.false_ne_true)]
      have : ((allC (frL bs) (clN bs)).map fun row => 0 + row.count (x : Int)).sum = (allC (frL bs) (clN bs)).length * 0 := sum_const fun row hr => by rw [nf row hr]
      rw [this, Nat.mul_zero]
      rfl
/-- the words by the pieces are those of the def, where there is a claim -/
theorem bp_inv (B : Bd n bs) (ok : ∀ b ∈ bs, b.1 < 8) (cl : 0 < clN bs) {b : Bk} (hb : b ∈ bs) {x : Nat} (hm : x ∈ b.2) : bpw b.1 = invW bs x := by
  have hx : x < n := B.mem.2 ⟨b, hb, hm⟩
  have anyC : (bs.any fun c => decide (c.1 = 2)) = true := by
    obtain ⟨c, hc⟩ := List.exists_mem_of_length_pos cl
    obtain ⟨h1, h2⟩ := List.mem_filter.1 hc
    exact List.any_eq_true.2 ⟨c, h1, h2⟩
  have anyF : (bs.any fun c => decide (c.1 = 0) && decide (c.2.getD 0 0 = x)) = decide (b.1 = 0) := by
    rw [Bool.eq_iff_iff, List.any_eq_true, decide_eq_true_iff]
    constructor
    · rintro ⟨c, hc, h⟩
      rw [Bool.and_eq_true, decide_eq_true_iff, decide_eq_true_iff] at h
      obtain ⟨y, ey⟩ := B.free_one hc h.1
      have : x ∈ c.2 := by
        rw [ey] at h ⊢
        exact List.mem_singleton.2 h.2.symm
      rw [← B.uq hc hb this hm]
      exact h.1
    · intro h
      refine ⟨b, hb, ?_⟩
      obtain ⟨y, ey⟩ := B.free_one hb h
      rw [Bool.and_eq_true, decide_eq_true_iff, decide_eq_true_iff]
      refine ⟨h, ?_⟩
      rw [ey] at hm ⊢
      exact (List.mem_singleton.1 hm).symm
  have anyT : (bs.any fun c => decide (1 < c.1) && c.2.contains x) = decide (1 < b.1) := by
    rw [Bool.eq_iff_iff, List.any_eq_true, decide_eq_true_iff]
    constructor
    · rintro ⟨c, hc, h⟩
      rw [Bool.and_eq_true, decide_eq_true_iff, List.contains_iff_mem] at h
      rw [← B.uq hc hb h.2 hm]
      exact h.1
    · intro h
      exact ⟨b, hb, by rw [Bool.and_eq_true, decide_eq_true_iff, List.contains_iff_mem]; exact ⟨h, hm⟩⟩
  unfold invW bpw
  rw [anyF, anyT, anyC, Bool.true_and]
  by_cases c0 : b.1 = 0
  · rw [if_pos c0, if_pos (decide_eq_true c0)]
  · rw [if_neg c0, decide_eq_false c0]
    by_cases c1 : b.1 = 1
    · rw [if_pos c1, decide_eq_false (show ¬ 1 < b.1 by omega)]
      rfl
    · rw [if_neg c1, decide_eq_true (show 1 < b.1 by omega)]
      rfl
end
end Pv

/-! what a def is told of the handled exception: its fields, and isinstance with a tuple of classes -/
namespace HotE
open PySem PySem.Spec PyProof.Rows L2 L2H
section
variable {X : Cx} {a C : Addr} {cls : Value} {d : Option Addr} {e : Expr} {te : TE} {pos : Pos} {n : Str}
theorem pe_xfP (T : XfC X.K C) (hno : PySem.W.findIn X.K (.ref C) n = some none) (hot : HotP X a cls d) (he : PE X e te) (hb : attributeBase e n X.env (eval e X.env) = eval e X.env := by rfl) : PE X (.Attribute e n pos) (tXf a cls d C n te) := by
  constructor
  intro pins s σ H Q I had
  refine attr_of hb (thn (he.run pins s σ H _ I had) ?_)
  rintro u s1 ⟨v, H1, I1, rel, rfl, rfl, dd, fs, w, rfl, hx, hl, q⟩
  cases (show u = Value.ref a from rel)
  obtain ⟨o, ⟨_, vs, hv, _⟩, inp, zc1, zc2⟩ := hot
  have here : s1.heap.get? a = some o := (I1.pin (a, o) (List.mem_append_left _ inp)).1
  have nc : PySem.W.notCls o = true := by
    unfold PySem.W.notCls
    rw [show o.data = .fields vs from hv]
  have hy : ObjOk X.prog X.w H1 s1.heap dd (.xd fs) := I1.hok dd _ hx
  obtain ⟨mA, hns, hr⟩ := hy
  obtain ⟨od, ho, look⟩ := lookIn_ns hns
  have hr1 := hr n
  rw [hl] at hr1
  obtain ⟨z, hz, rz⟩ := RelO.some_of hr1
  have J : PySem.W.InstAt s1.heap a o C (some od) := ⟨here, zc1, nc, by rw [zc2]; exact ho⟩
  exact PySem.HandSPX.exc_get I1.kIn J T.ga T.gg T.exC (PySem.W.findObj_own T.hdC hno rfl (by rw [look, hz])) (handed_of rz) ⟨w, H1, I1.kept (t' := s1.toks + 1) fun _ _ z => z, rz, q⟩
end
/-- the promise of isinstance(e, (C, D, ..)) -/
def rIsPT (K : PySem.W.Frag) (a : Addr) (cls : Value) (d : Option Addr) : List V → Hp → VK → Prop := fun xs H Q => ∃ (C tp : Addr) (cs : List V) (us : List Value) (b : Bool), xs = [.ref a, .ref tp] ∧ cls = .ref C ∧ (d = none ∨ ∃ dd fs, d = some dd ∧ H dd = some (.xd fs)) ∧ ExcC K C ∧ H tp = some (.tup cs) ∧ Paired ClsV cs us ∧ PySem.W.kitAny K (.ref C) us = some b ∧ Q (.bl b) H
theorem call_isPT {X : Cx} {K : PySem.W.Frag} {a : Addr} {cls : Value} {d : Option Addr} (hK : X.K = K) (hot : HotP X a cls d) : CallR X (.builtin "isinstance") (rIsPT K a cls d) := by
  subst hK
  rintro pins s σ H _ us Q I rel ⟨C, tp, cs, ws, b, rfl, rfl, kind, D, htp, pr, ans, goal⟩
  obtain ⟨u1, u2, rfl, r1, r2⟩ := vals2 rel
  cases (show u1 = Value.ref a from r1)
  cases (show u2 = Value.ref tp from r2)
  obtain ⟨o, ⟨_, vs, hv, _⟩, inp, zc1, zc2⟩ := hot
  have here : s.heap.get? a = some o := (I.pin (a, o) (List.mem_append_left _ inp)).1
  have nc : PySem.W.notCls o = true := by
    unfold PySem.W.notCls
    rw [show o.data = .fields vs from hv]
  have ht := I.hok tp _ htp
  have hy : ObjOk X.prog X.w H s.heap tp (.tup cs) := ht
  obtain ⟨_, zs, vz, ot, h1, h2, nn, h3⟩ := hy
  cases ClsV.all pr vz
  obtain ⟨oc, od, odt, osl⟩ := ot
  cases (show oc = Value.type "tuple" from h2)
  cases (show odt = Data.seq ws.toArray nn from h3)
  rcases kind with rfl | ⟨dd, fs, rfl, there⟩
  · have J : PySem.W.InstAt s.heap a o C none := ⟨here, zc1, nc, by rw [zc2]; trivial⟩
    exact PySem.W.kia_tup (kitX_err D) I.kIn J h1 ans (fun z => nomatch z) fun tk => ⟨.bl b, H, I.kept (t' := tk) fun _ _ z => z, rfl, goal⟩
  · have hx : ObjOk X.prog X.w H s.heap dd (.xd fs) := I.hok dd _ there
    obtain ⟨mA, hns, _⟩ := hx
    obtain ⟨od2, ho, _⟩ := lookIn_ns hns
    have J : PySem.W.InstAt s.heap a o C (some od2) := ⟨here, zc1, nc, by rw [zc2]; exact ho⟩
    exact PySem.W.kia_tup (kitX_err D) I.kIn J h1 ans (fun z => nomatch z) fun tk => ⟨.bl b, H, I.kept (t' := tk) fun _ _ z => z, rfl, goal⟩
end HotE

/-! a walk over a list, and a list display with for, where an exception is handled -/
namespace HotL
open PySem PySem.Spec PyProof.Rows L2 L2H
theorem next_list_end_hot {prog : Program} {w : World} {A : Around} {E : Value → Shared → Prop} {s : Shared} {it l x1 : Addr} {i : Nat} {items : Array Value} {Q : Option Value → Shared → Prop}
    (hot : HotX.HotAt A x1 s.heap) (hi : s.heap.IsListIter it l i) (hl : s.heap.IsList l items) (hn : items[i]? = none) (ne : x1 ≠ it)
    (goal : ∀ h' : Heap, Heap.ExtBut it s.heap h' → Q none { s with heap := h' }) : wpAny (model prog w) A (pyNext (Value.ref it)) Q E s := by
  obtain ⟨oi, hi1, hi2, hi3⟩ := id hi
  obtain ⟨ol, hl1, hl2, nl, hl3⟩ := hl
  obtain ⟨ha, ox, vs, hx, hxd, hv2⟩ := hot
  unfold pyNext
  refine wpAny_bind (wpAny_attempt (wpAny_callSpecial?_slot hi.typeIs slot_listiter_next ?_))
  refine wpAny_call_entry slot_listiter_next hi.typeIs entry_listiter_next ?_
  unfold PySem.Builtin.«list_iterator.__next__»
  show wpAny _ _ (do
    let l ← field (Value.ref it) 0
    _) _ _ _
  refine wpAny_bind (wpAny_field hi1 hi3 (i := 0) rfl ?_)
  refine wpAny_bind (wpAny_field hi1 hi3 (i := 1) rfl ?_)
  refine wpAny_bind (wpAny_seqItems hl1 hl3 ?_)
  dsimp only
  rw [Int.toNat_natCast, hn]
  refine wpAny_bind (wpAny_rule ?_)
  refine wpAny_bind (wpAny_setField hi1 hi3 (show 0 < 2 by decide) ?_)
  unfold PySem.Builtin.SmallTypes.stopIteration
  refine wpAny_bind ?_
  unfold PySem.newExc
  refine wpAny_bind (show wpAny _ _ (newObj (Value.type "tuple") (Data.seq (#[] : Array Value) 0)) _ _ _ from ?_)
  refine wpAny_newObj_type ?_ (show (0 : Nat) ≤ sizeLine by decide)
  refine wpAny_bind (show wpAny _ _ (pure Value.none) _ _ _ from wpAny_pure ?_)
  refine wpAny_newObj_type ?_ (sizeOk_excFields _ _ _ _ _ _ _ _)
  have k1 : ∀ (b : Addr) (o : Obj), b ≠ it → s.heap.get? b = some o → (s.heap.update it (Obj.mapFields fun x => x.setIfInBounds 0 Value.none)).get? b = some o := fun b o h z => PySem.Heap.SameBut.extBut (PySem.Heap.SameBut.update s.heap it _) b o h z
  generalize s.heap.update it (Obj.mapFields fun x => x.setIfInBounds 0 Value.none) = h1 at k1 ⊢
  have k2 : ∀ (b : Addr) (o : Obj), h1.get? b = some o → (h1.push ({ cls := .type "tuple", data := .seq #[] } : Obj)).get? b = some o := fun b o z => Heap.get?_push_of_some _ z
  dsimp only
  generalize h1.push ({ cls := .type "tuple", data := .seq #[] } : Obj) = h2 at k2 ⊢
  have k3 : ∀ (b : Addr) (o : Obj), h2.get? b = some o → b < h2.objs.size := fun b o z => Heap.lt_size z
  have hx3 : h2.get? x1 = some ox := k2 _ _ (k1 _ _ ne hx)
  have sz : h2.objs.size ≠ x1 := fun e => by have := k3 _ _ hx3; rw [← e] at this; exact Nat.lt_irrefl _ this
  have k4 : ∀ (o9 : Obj) (b : Addr) (o : Obj), h2.get? b = some o → (h2.push o9).get? b = some o := fun o9 b o z => Heap.get?_push_of_some o9 z
  refine HotX.raiseNew_hot (x1 := x1) (vs := (#[Value.ref h1.objs.size, Value.none, Value.none, Value.none, Value.bool false, Value.none] ++ ownMembersOf (Value.type "StopIteration") [])) ⟨ha, ox, vs, k4 _ _ _ hx3, hxd, hv2⟩ (Ne.symm sz) (Heap.get?_push_size _ rfl) rfl (Nat.lt_of_lt_of_le (show 2 < 6 by decide) (by rw [Array.size_append]; exact Nat.le_add_right _ _)) ?_
  refine wpAny_bind (wpAny_isInstance (b := true) (T := "StopIteration") ⟨_, Heap.get?_update_self _ (Heap.get?_push_size _ rfl) rfl, rfl⟩ isSubtype_stop ?_)
  rw [if_pos rfl]
  refine wpAny_pure (goal _ fun b o h z => ?_)
  refine PySem.Heap.SameBut.extBut (PySem.Heap.SameBut.update _ _ _) b o ?_ (k4 _ _ _ (k2 _ _ (k1 _ _ h z)))
  exact fun e => by have := k3 _ _ (k2 _ _ (k1 _ _ h z)); rw [e] at this; exact Nat.lt_irrefl _ this
theorem turn_listH {P : Program} {w : World} {K : PySem.W.Frag} {tg : Expr} (a it : Addr) : TurnH P w K tg (Itl K a) [it] it (fun i h => h.IsListIter it a i) where
  mem := List.mem_singleton.2 rfl
  obj i h t b hb := by
    cases List.mem_singleton.1 hb
    obtain ⟨o, h1, h2, h3⟩ := t
    exact ⟨o, h1, fun v e => by rw [h3] at e; cases e⟩
  keep i h h' t k := by
    obtain ⟨o, h1, h2⟩ := t
    exact ⟨o, k it (List.mem_singleton.2 rfl) o h1, h2⟩
  item X hP hw hK hc i pins s σ H E I fp t go := by
    subst hP hw hK
    obtain ⟨xs, x, sq, hx⟩ := go
    obtain ⟨its, vs, pl, _⟩ := I.list sq
    obtain ⟨u, hu, ru⟩ := Vals.get vs hx
    refine wpAny_pyNext_list_item t pl.isList (by rw [List.getElem?_toArray]; exact hu) fun h' t2 sb => ?_
    obtain ⟨f1, f2, f3, f4, f5, f6⟩ := fp it (List.mem_singleton.2 rfl)
    have I2 := I.turned (t' := s.toks) (it := it) (h' := h') (fun b o n z => PySem.Heap.SameBut.extBut sb b o n z) f1 f2 f4 f5 f6
    refine ⟨u, rfl, ?_⟩
    obtain ⟨o, h1, h2, h3⟩ := id t2
    refine go_of h1 h2 h3 (by decide) ⟨x, H, I2, ru, ⟨rfl, fun ys sy => ?_⟩, t2, fun b hb => ?_⟩
    · rw [I.list_inj sy sq]
      exact hx
    · rw [List.mem_singleton.1 hb]
      exact f1
  done X hP hw hK hc i pins s σ H E I fp t go := by
    subst hP hw hK
    obtain ⟨xs, sq, le⟩ := go
    obtain ⟨its, vs, pl, _⟩ := I.list sq
    obtain ⟨f1, f2, f3, f4, f5, f6⟩ := fp it (List.mem_singleton.2 rfl)
    obtain ⟨p, ⟨hh, ws, hd, h2⟩, mem⟩ := hc
    have pin := I.pin p (List.mem_append_left _ mem)
    refine next_list_end_hot (x1 := p.1) (items := its.toArray) ⟨hh, p.2, ws, pin.1, hd, h2⟩ t pl.isList ?_ (f6 p (List.mem_append_left _ mem)) fun h' ex => ⟨rfl, I.turned (t' := s.toks) (it := it) ex f1 f2 f4 f5 f6⟩
    rw [List.getElem?_toArray, List.getElem?_eq_none_iff, ← vs.length]
    exact le
  self A i s Q E t q := wpAny_pyIter_listiter t q
theorem pi_listH {X : Cx} {tg l : Expr} {tl : TE} (hl : PE X l tl) : PIH X tg l (iList X.K tl) := by
  constructor
  intro pins s σ H R I had
  refine thn (hl.run pins s σ H _ I had) ?_
  rintro u s1 ⟨v, H1, I1, rel, a, rfl, ⟨xs, sq⟩, r⟩
  cases (show u = Value.ref a from rel)
  obtain ⟨its, vs, pl, _⟩ := I1.list sq
  refine wpAny_pyIter_list pl.isList ?_
  refine ⟨s1.heap.objs.size, [s1.heap.objs.size], fun i h => h.IsListIter s1.heap.objs.size a i, Itl X.K a, H1, rfl, I1.kept (t' := s1.toks) (fun b o z => Heap.get?_push_of_some _ z), turn_listH a _, ⟨_, Heap.get?_push_size _ rfl, rfl, rfl⟩, fun b hb => ?_, r⟩
  rw [List.mem_singleton.1 hb]
  exact I1.fpOk (Nat.le_refl _) (I1.hok.fresh (Nat.le_refl _))
/-- the block of a display with for, which bears the handled exception -/
@[reducible] def blkH (X : Cx) (s : Shared) (H : Hp) (scope : Scope) (cenv : Env) (fp : List Addr) : Cx := { X.blk s H scope cenv fp with pn := X.pn }
theorem okH {X : Cx} {s : Shared} {H : Hp} {scope : Scope} {cenv : Env} {fp : List Addr} (B : (X.blk s H scope cenv fp).Ok) : (blkH X s H scope cenv fp).Ok :=
  ⟨B.mod, B.kind, B.glob, B.blt, B.above, B.inj, B.has, B.cab, B.hd, B.frames, B.stk, B.exf, B.bs, B.bsz, B.noex, B.exfs, B.funs, B.frf⟩
theorem invH {X : Cx} {s s4 : Shared} {H0 H : Hp} {scope : Scope} {cenv : Env} {fp : List Addr} {σ : L2.St} (B : Inv (X.blk s H0 scope cenv fp) [] σ H s4)
    (hp : ∀ p : Addr × Obj, p ∈ X.pn → s4.heap.get? p.1 = some p.2 ∧ H p.1 = none ∧ p.1 ≠ cenv.locals ∧ ¬ p.1 ∈ frs X.stack ∧ ∀ v : Option Value, p.2.data ≠ .cell v) : Inv (blkH X s H0 scope cenv fp) [] σ H s4 :=
  ⟨okH B.ok, B.os, B.bare, B.base, B.loc, B.cell, B.free, B.freeC, fun p hm => by rw [List.append_nil] at hm; exact hp p hm, B.hok, B.len⟩
theorem pe_lcH {X : Cx} {elt tg iter : Expr} {ifs : List Expr} {scope : Scope} {own : List (Str × Nat)} {pos : Pos} {wi : TI} {g : TG} {tt : TT} {te : TE}
    (hot : HotC X) (nd : X.N.Nodup) (hi : PIH X tg iter wi) (bo : BlkOk X.N X.env.scope scope own)
    (hg : ∀ (s : Shared) (H : Hp) (C : Addr) (cl : List (Str × Addr)) (fp : List Addr), PG (blkH X s H scope (compEnvC scope cl C X.env) fp) tg g)
    (ht : ∀ (s : Shared) (H : Hp) (C : Addr) (cl : List (Str × Addr)) (fp : List Addr), PTs (blkH X s H scope (compEnvC scope cl C X.env) fp) ifs tt)
    (he : ∀ (s : Shared) (H : Hp) (C : Addr) (cl : List (Str × Addr)) (fp : List Addr), PE (blkH X s H scope (compEnvC scope cl C X.env) fp) elt te)
    (hf : ∀ x : Value, foldedSetIterable iter X.env x = pure x := by intro; rfl) :
    PE X (.ListComp elt [{ target := tg, iter := iter, ifs := ifs, is_async := 0 }] scope pos) (tLc wi g tt te (own.map (·.2))) := by
  constructor
  intro pins s σ H Q I had
  rw [eval_ListComp]
  have free : ∀ y : Str × NameKind, y ∈ scope.names → y.2 = .free → ∃ c, List.lookup y.1 X.env.cells = some c := fun y hy hk => by
    rcases bo.free y hy hk with h | h
    · exact I.ok.has y.1 (Or.inl h)
    · exact I.ok.has y.1 (Or.inr h)
  refine wpAny_comprehension_free (g := { target := tg, iter := iter, ifs := ifs, is_async := 0 }) (gs := []) rfl hf (closure_ok free) bo.kind (fun x hx hk => by rw [bo.uniq x hx, hk]) ?_
  refine thn (hi.run pins s σ H _ I had) fun v s1 h1 => thn h1 ?_
  rintro itv s2 ⟨it, fp, tn, J, H1, rfl, I1, TH, t0, fpk, had2⟩
  refine wpAny_newObj_type ?_ (show (0 : Nat) ≤ sizeLine by decide)
  have hD : H1 s2.heap.objs.size = none := I1.hok.fresh (Nat.le_refl _)
  obtain ⟨W, ⟨m0, w0⟩, step⟩ := had2 s2.heap.objs.size hD
  have I2 : Inv X pins σ (upd H1 s2.heap.objs.size (.lst [])) { s2 with heap := s2.heap.push ({ cls := .type "list", data := .seq #[] } : Obj) } :=
    I1.laid (t' := s2.toks) (fun b o z => Heap.get?_push_of_some _ z) (Nat.le_refl _) ⟨Nat.zero_le _, [], 0, .nil, Heap.get?_push_size _ rfl⟩
  have fp2 : ∀ b : Addr, b ∈ fp → FpOk X pins (upd H1 s2.heap.objs.size (.lst [])) b ∧ b < (s2.heap.push ({ cls := .type "list", data := .seq #[] } : Obj)).objs.size := fun b hb => by
    obtain ⟨o, ho, _⟩ := TH.obj 0 _ t0 b hb
    have lt := Heap.lt_size ho
    obtain ⟨f1, f2⟩ := fpk b hb
    exact ⟨⟨by rw [upd_ne (Nat.ne_of_lt lt)]; exact f1, f2⟩, by rw [Heap.size_push]; exact Nat.lt_succ_of_lt lt⟩
  have t2 : tn 0 (s2.heap.push ({ cls := .type "list", data := .seq #[] } : Obj)) := TH.keep 0 _ _ t0 fun b hb o z => Heap.get?_push_of_some _ z
  have I2 : Inv X pins σ (upd H1 s2.heap.objs.size (.lst [])) { heap := s2.heap.push ({ cls := .type "list", data := .seq #[] } : Obj), gens := s2.gens, drawn := s2.drawn, toks := s2.toks, os := s2.os } := I2
  generalize s2.heap.objs.size = D at *
  generalize hs3 : ({ heap := s2.heap.push ({ cls := .type "list", data := .seq #[] } : Obj), gens := s2.gens, drawn := s2.drawn, toks := s2.toks, os := s2.os } : Shared) = s3 at I2
  have hh3 : s2.heap.push ({ cls := .type "list", data := .seq #[] } : Obj) = s3.heap := by rw [← hs3]
  rw [hh3] at fp2 t2
  generalize upd H1 D (.lst []) = H2 at I2 fp2 w0
  refine newEnv_comp ?_
  have B0 := block_start (own := own) (fp := fp) I2 bo nd fp2
  have B1 := invH B0 fun p hp => by
    obtain ⟨p1, p2, p3, p4, p5⟩ := I2.pin p (List.mem_append_left _ hp)
    refine ⟨pushCells_keeps _ _ _ _ (Heap.get?_push_of_some _ p1), p2, fun e => ?_, fun z => (List.mem_cons.mp (I2.stkSub p.1 z)).elim p3 p4, p5⟩
    have := Heap.lt_size p1
    rw [show p.1 = s3.heap.objs.size from e] at this
    exact Nat.lt_irrefl _ this
  have hotB : HotC (blkH X s3 H2 scope (compEnvC scope (cellsFrom (s3.heap.objs.size + 1) scope.names (cloFrom X.env.cells scope.names [])) s3.heap.objs.size X.env) fp) := hot
  have t4 : tn 0 (pushCells (s3.heap.push ({ cls := .type "dict", data := .dict #[] } : Obj)) scope.names) := TH.keep 0 _ _ t2 fun b hb o z => pushCells_keeps _ _ _ _ (Heap.get?_push_of_some _ z)
  have fok : ∀ (H' : Hp) (b : Addr), b ∈ fp → H' b = none → FpOk (blkH X s3 H2 scope (compEnvC scope (cellsFrom (s3.heap.objs.size + 1) scope.names (cloFrom X.env.cells scope.names [])) s3.heap.objs.size X.env) fp) [] H' b := fun H' b hb hn => by
    obtain ⟨e1, e2⟩ := B1.ok.exf b hb
    refine ⟨hn, e1, B1.ok.exfs b hb, Or.inl hb, fun x c h => e2 x c h, fun p hp => ?_⟩
    rw [List.append_nil] at hp
    exact (fp2 b hb).1.2.2.2.2.2 p (List.mem_append_left _ hp)
  have Hg := hg s3 H2 s3.heap.objs.size (cellsFrom (s3.heap.objs.size + 1) scope.names (cloFrom X.env.cells scope.names [])) fp
  have Ht := ht s3 H2 s3.heap.objs.size (cellsFrom (s3.heap.objs.size + 1) scope.names (cloFrom X.env.cells scope.names [])) fp
  have He := he s3 H2 s3.heap.objs.size (cellsFrom (s3.heap.objs.size + 1) scope.names (cloFrom X.env.cells scope.names [])) fp
  have loop : ∀ (R : Result → Shared → Prop), (∀ (H' : Hp) (s' : Shared), Inv (blkH X s3 H2 scope (compEnvC scope (cellsFrom (s3.heap.objs.size + 1) scope.names (cloFrom X.env.cells scope.names [])) s3.heap.objs.size X.env) fp) [] (wipe σ (own.map (·.2))) H' s' → Q (.ref D) H' → R (.ok .next) s') →
      codeAny (model X.prog X.w) X.A (.compLoop (.ListComp elt [{ target := tg, iter := iter, ifs := ifs, is_async := 0 }] scope pos) 0 (.ref it) (.ref D) (compEnvC scope (cellsFrom (s3.heap.objs.size + 1) scope.names (cloFrom X.env.cells scope.names [])) s3.heap.objs.size X.env)) R
        { heap := pushCells (s3.heap.push ({ cls := .type "dict", data := .dict #[] } : Obj)) scope.names, gens := s3.gens, drawn := s3.drawn, toks := s3.toks, os := s3.os } := fun R hR => by
    generalize compEnvC scope (cellsFrom (s3.heap.objs.size + 1) scope.names (cloFrom X.env.cells scope.names [])) s3.heap.objs.size X.env = env4 at *
    refine compLoop_any (fun n s => ∃ (i : Nat) (H' : Hp), Inv (blkH X s3 H2 scope env4 fp) [] (wipe σ (own.map (·.2))) H' s ∧ tn i s.heap ∧ (∀ b ∈ fp, H' b = none) ∧ W i n H') ?_ m0 ⟨0, H2, B1, t4, fun b hb => (fp2 b hb).1.1, w0⟩
    rintro n s5 ⟨i, H5, I5, t5, f5, w5⟩
    rcases step i n H5 w5 with ⟨st, q⟩ | ⟨go, Nx, nx, body⟩
    · refine thnF (TH.done (blkH X s3 H2 scope env4 fp) rfl rfl rfl hotB i [] s5 _ H5 _ I5 (fun b hb => fok H5 b hb (f5 b hb)) t5 st) ?_
      rintro r s6 ⟨rfl, I6⟩
      exact hR H5 s6 I6 q
    · refine thnF (TH.item (blkH X s3 H2 scope env4 fp) rfl rfl rfl hotB i [] s5 _ H5 _ I5 (fun b hb => fok H5 b hb (f5 b hb)) t5 go) ?_
      rintro r s6 ⟨u, rfl, h6⟩
      refine thnF h6 ?_
      rintro _ s7 ⟨x, H7, I7, rx, y7, t7, f7⟩
      have I8 := I7.pinned (fp := fp) (fun b hb => fok H7 b hb (f7 b hb)) (fun b hb => TH.obj _ _ t7 b hb)
      refine thnF (Hg.run _ s7 _ H7 x u _ I8 rx (body x H7 y7)) ?_
      rintro _ s8 ⟨σ8, H8, I9, ew, h8⟩
      refine thnF (Ht.run _ s8 σ8 H8 _ I9 h8) ?_
      rintro ok s9 ⟨H9, I10, h9⟩
      have back : ∀ (H' : Hp) (s' : Shared), Inv (blkH X s3 H2 scope env4 fp) ([] ++ pinsAt fp s7.heap) σ8 H' s' → Inv (blkH X s3 H2 scope env4 fp) [] (wipe σ (own.map (·.2))) H' s' ∧ tn (i + 1) s'.heap ∧ ∀ b ∈ fp, H' b = none := fun H' s' I' => by
        refine ⟨I'.unpinned.weak ?_ ?_, ?_, ?_⟩
        · rw [← ew, wipe_length]
        · intro j z hz
          rw [← ew] at hz
          exact (wipe_some hz).1
        · refine TH.keep (i + 1) _ _ t7 fun b hb o z => ?_
          exact (I'.pin (b, o) (List.mem_append_right _ (mem_pinsAt hb z))).1
        · intro b hb
          obtain ⟨o, ho, _⟩ := TH.obj _ _ t7 b hb
          exact (I'.pin (b, o) (List.mem_append_right _ (mem_pinsAt hb ho))).2.1
      cases ok with
      | false =>
        rw [if_neg Bool.false_ne_true] at h9 ⊢
        obtain ⟨m', lt, w'⟩ := nx H9 h9
        obtain ⟨j1, j2, j3⟩ := back H9 s9 I10
        exact ⟨m', lt, i + 1, H9, j1, j2, j3, w'⟩
      | true =>
        rw [if_pos rfl] at h9 ⊢
        refine thnF (He.run _ s9 σ8 H9 _ I10 h9) ?_
        rintro u2 s10 ⟨y, H10, I11, ry, acc, ha, hl, hn⟩
        refine app_ok (X := blkH X s3 H2 scope env4 fp) I11 ha hl ry fun s11 I12 => ?_
        obtain ⟨m', lt, w'⟩ := nx _ hn
        obtain ⟨j1, j2, j3⟩ := back _ s11 I12
        exact ⟨m', lt, i + 1, _, j1, j2, j3, w'⟩
  have fin : ∀ (H' : Hp) (s' : Shared), Inv (blkH X s3 H2 scope (compEnvC scope (cellsFrom (s3.heap.objs.size + 1) scope.names (cloFrom X.env.cells scope.names [])) s3.heap.objs.size X.env) fp) [] (wipe σ (own.map (·.2))) H' s' → Q (.ref D) H' →
      compPost (model X.prog X.w) X.A X.xe none (EP X pins σ Q) (.ref D) s3.heap.objs.size (.ok .next) s' := fun H' s' I' q => by
    have I9 : Inv X pins σ H' s' := I2.call' I'.os I'.base I'.hok I'.bare fun b hb => by
      obtain ⟨_, g2, g3, g4, g5, g6⟩ := (fp2 b hb).1
      exact ⟨g4, g2, g5, g6⟩
    have hC : H' s3.heap.objs.size = none := I'.free
    obtain ⟨m, ns, _⟩ := I'.loc
    obtain ⟨_, f1, f2, f4, f5, f6⟩ := I2.fpOk (H' := H') (b := s3.heap.objs.size) (Nat.le_refl _) hC
    exact ⟨m, ns, fun h' sb => ⟨.ref D, H', I9.turned (t' := s'.toks) (it := s3.heap.objs.size) (fun b o n z => PySem.Heap.SameBut.extBut sb b o n z) hC f1 f4 f5 f6, rfl, q⟩⟩
  refine codeAny_compStart_list (loop _ fun H' s' I' q => fin H' s' I' q) (TH.self _ 0 _ _ _ t4 (loop _ fun H' s' I' q => fin H' s' I' q))
end HotL

namespace Pv
open PySem L2 Evl Pm
def Oke (P : Program) (w : World) (K : PySem.W.Frag) (mg : Str → Option Value) (base : Heap) (k : Nat) (f : Addr) (ps : List Str) (sp : HotE.SpE) : Prop := ∃ fd, HotE.FnE P w K mg base CX0 k f fd ps sp ∧ Binds K fd ps []
/-- what is told of a refusal: one word and a record, or a group -/
def TlI (H : Hp) (r : Addr) (k : Nat) : Prop := ∃ t : Addr, H r = some (.lst [.ref t]) ∧ H t = some (.tup [.str "image", .int (k : Int)])
def TlG (H : Hp) (r : Addr) (gp : List Nat) : Prop := ∃ t g : Addr, H r = some (.lst [.ref t]) ∧ H t = some (.tup [.str "group", .ref g]) ∧ ListN H g gp
def TlW (H : Hp) (r : Addr) (xs : List Int) (bs : List Bk) : Prop := ∃ t u p h : Addr, H r = some (.lst [.ref t, .ref u]) ∧ H t = some (.tup [.str "words", .ref p]) ∧ H u = some (.tup [.str "kept", .ref h]) ∧
  H p = some (.lst ((List.range xs.length).map fun x => V.str (invW bs x))) ∧ H h = some (.lst (xs.map V.int))
def seFa (A : Ad) : HotE.SpE := fun a c d vs H Q _ => vs = [.ref a] ∧ ((∃ (k : Nat) (dd : Addr), c = .ref A.InvalidImage ∧ d = some dd ∧ H dd = some (.xd [("record", .int (k : Int))]) ∧ ∀ r H', H r = none → Ex H H' → TlI H' r k → Q (.ref r) H') ∨
  (∃ (gp : List Nat) (g dd : Addr), c = .ref A.Unrepairable ∧ d = some dd ∧ H dd = some (.xd [("group", .ref g)]) ∧ ListN H g gp ∧ ∀ r H', H r = none → Ex H H' → TlG H' r gp → Q (.ref r) H'))
def spTo9 : Sp := fun vs H Q _ => ∃ (a : Addr) (xs : List Int), vs = [.ref a] ∧ H a = some (.lst (xs.map V.int)) ∧ xs.length ≤ 64 ∧
  (∀ k, strayI xs = some k → ∀ r H', H r = none → Ex H H' → TlI H' r k → Q (.ref r) H') ∧
  (strayI xs = none → (∀ gp, badF (natI xs) = some gp → ∀ r H', H r = none → Ex H H' → TlG H' r gp → Q (.ref r) H') ∧
    ∀ bs : List Bk, formsF (natI xs) = bs.map some → (∀ b ∈ bs, Pk xs.length b) ∧ bs.length ≤ 64 ∧ ∀ r H', H r = none → Ex H H' → TlW H' r xs bs → Q (.ref r) H')
/-- a reading: its steps -/
def RdA (H : Hp) (p : Addr) (ss : List (List Nat)) : Prop := ∃ ts : List Addr, H p = some (.lst (ts.map V.ref)) ∧ ts.length = ss.length ∧ ∀ (i : Nat) (t : Addr) (ms : List Nat), ts[i]? = some t → ss[i]? = some ms → StpAt H t ms
theorem StpAt.ex {H H1 : Hp} {s : Addr} {ms : List Nat} (e : Ex H H1) (h : StpAt H s ms) : StpAt H1 s ms := by
  obtain ⟨w, t, row, a, b, c⟩ := h
  exact ⟨w, t, row, e _ _ a, e _ _ b, c⟩
theorem RdA.ex {H H1 : Hp} {p : Addr} {ss : List (List Nat)} (e : Ex H H1) (h : RdA H p ss) : RdA H1 p ss := by
  obtain ⟨ts, a, l, k⟩ := h
  exact ⟨ts, e _ _ a, l, fun i t ms h1 h2 => (k i t ms h1 h2).ex e⟩
def spRd9 : Sp := fun vs H Q _ => ∃ (p cl : Addr) (bs : List Bk) (row : List Int) (n : Nat), vs = [.ref p, .ref cl] ∧ BltAt H p bs ∧ Bd n bs ∧ n ≤ 64 ∧ (∀ b ∈ bs, b.1 < 8) ∧ H cl = some (.lst (row.map V.int)) ∧ row.length = clN bs ∧ ∀ r H', H r = none → Ex H H' → RdA H' r (rdS bs row) → Q (.ref r) H'
def spCd9 : Sp := fun vs H Q _ => ∃ (p fl : Addr) (bs : List Bk) (n : Nat), vs = [.ref p, .int (clN bs : Int), .ref fl, .int (n : Int)] ∧ BltAt H p bs ∧ Bd n bs ∧ n ≤ 64 ∧ (∀ b ∈ bs, b.1 < 8) ∧ ListN H fl (frL bs) ∧ Nr (clN bs) (frL bs).length ≤ 300 ∧
  ∀ wl H', H wl = none → Ex H H' → H' wl = some (.lst ((List.range n).map fun x => V.str (invW bs x))) → Q (.ref wl) H'
def spRt9 : Sp := fun vs H Q _ => ∃ b c : Addr, vs = [.ref b] ∧ Bx H b c ∧ ∀ H', Q (.bl true) H'
end Pv

namespace DaS
open PySem PySem.Spec PyProof.Rows PySem.W PySem.Calls L2
theorem cr_sortTK {X : Cx} {K : PySem.W.Frag} (h : X.K = K) (room : X.A.units + 64 < cLine) : CallR X (.builtin "sorted") (rSortT K) := h ▸ cr_sortT room
end DaS
namespace L2
open PySem PySem.Spec PyProof.Rows
theorem op_inK {X : Cx} {K : PySem.W.Frag} (h : X.K = K) : OpR X (compareOp .In) (rIn K false) := by
  subst h
  exact op_in_seq
end L2
namespace Pv
open PySem L2 Evl Pm PySem.W
/-! ### what is told, as data -/
def Lay (n : Nat) (d : PyData) : Prop := PyData.canLay0 d = true ∧ PyData.depth d ≤ n ∧ PyData.plain d = true
def LayA (n : Nat) (ds : List PyData) : Prop := PyData.canLayAll0 ds = true ∧ PyData.depthAll ds ≤ n ∧ PyData.plainAll ds = true
theorem LayA.nil {n : Nat} : LayA n [] := ⟨rfl, Nat.zero_le _, rfl⟩
theorem LayA.cons {n : Nat} {d : PyData} {ds : List PyData} (h : Lay n d) (t : LayA n ds) : LayA n (d :: ds) := by
  obtain ⟨a1, a2, a3⟩ := h
  obtain ⟨b1, b2, b3⟩ := t
  refine ⟨?_, ?_, ?_⟩
  · simp only [PyData.canLayAll0, a1, b1]
    rfl
  · simp only [PyData.depthAll]
    omega
  · simp only [PyData.plainAll, a3, b3]
    rfl
theorem LayA.map {α : Type} {f : α → PyData} {n : Nat} : ∀ {cs : List α}, (∀ c ∈ cs, Lay n (f c)) → LayA n (cs.map f)
  | [], _ => .nil
  | c :: cs, h => .cons (h c (List.mem_cons_self ..)) (LayA.map fun d hd => h d (List.mem_cons_of_mem _ hd))
theorem LayA.list {n : Nat} {ds : List PyData} (h : LayA n ds) : Lay (n + 1) (.list ds) := by
  obtain ⟨a, b, c⟩ := h
  refine ⟨?_, ?_, ?_⟩
  · simp only [PyData.canLay0, a]
  · simp only [PyData.depth]
    omega
  · simp only [PyData.plain, c]
theorem LayA.tuple {n : Nat} {ds : List PyData} (h : LayA n ds) : Lay (n + 1) (.tuple ds) := by
  obtain ⟨a, b, c⟩ := h
  refine ⟨?_, ?_, ?_⟩
  · simp only [PyData.canLay0, a]
  · simp only [PyData.depth]
    omega
  · simp only [PyData.plain, c]
theorem Lay.int {n : Nat} (i : Int) : Lay (n + 1) (.int i) := ⟨rfl, by simp only [PyData.depth]; omega, rfl⟩
theorem Lay.str {n : Nat} {s : Str} (h : PyData.strOk s = true) : Lay (n + 1) (.str s) := ⟨by simp only [PyData.canLay0, h], by simp only [PyData.depth]; omega, rfl⟩
theorem Lay.shaped {n : Nat} {d : PyData} (h : Lay n d) (hn : n ≤ 60) : SeqAt.shaped d = true := by
  unfold SeqAt.shaped
  rw [h.1, decide_eq_true (by have := h.2.1; omega)]
  rfl
theorem Lay.refl {n : Nat} {d : PyData} (h : Lay n d) : PyData.eqv d d = true := PySem.SeqAt.eqv_refl_plain _ h.2.2
def dL (xs : List Int) : PyData := .list (xs.map PyData.int)
theorem lay_L (xs : List Int) : Lay 2 (dL xs) := LayA.list (LayA.map fun x _ => Lay.int x)
def dS (ws : List Str) : PyData := .list (ws.map PyData.str)
def iwS : List Str := ["never", "always", "sometimes"]
theorem iw_ok : iwS.all PyData.strOk = true := by decide +kernel
theorem lay_S {ws : List Str} (h : ∀ w ∈ ws, w ∈ iwS) : Lay 2 (dS ws) := LayA.list (LayA.map fun w hw => Lay.str (List.all_eq_true.mp iw_ok _ (h w hw)))
theorem inv_iw (bs : List Bk) (x : Nat) : invW bs x ∈ iwS := by
  unfold invW
  split
  · decide +kernel
  · split <;> decide +kernel
theorem dpAll_L {K : PySem.W.Frag} {H : Hp} : ∀ xs : List Int, DpAll K H (xs.map V.int) (xs.map PyData.int)
  | [] => .nil
  | x :: xs => .cons (.int x) (dpAll_L xs)
theorem dp_L {K : PySem.W.Frag} {H : Hp} {a : Addr} {xs : List Int} (h : H a = some (.lst (xs.map V.int))) : Dp K H (.ref a) (dL xs) := .lst (SqL.of h) (dpAll_L xs)
theorem dpAll_S {K : PySem.W.Frag} {H : Hp} : ∀ xs : List Str, DpAll K H (xs.map V.str) (xs.map PyData.str)
  | [] => .nil
  | x :: xs => .cons (.str x) (dpAll_S xs)
theorem dp_S {K : PySem.W.Frag} {H : Hp} {a : Addr} {xs : List Str} (h : H a = some (.lst (xs.map V.str))) : Dp K H (.ref a) (dS xs) := .lst (SqL.of h) (dpAll_S xs)
theorem nI_int (xs : List Nat) : nI xs = (xs.map fun x : Nat => (x : Int)).map V.int := by
  unfold nI
  rw [List.map_map]
  rfl
def tgI (k : Nat) : PyData := .list [.tuple [.str "image", .int (k : Int)]]
def tgG (gp : List Nat) : PyData := .list [.tuple [.str "group", dL (gp.map fun x : Nat => (x : Int))]]
def tgW (ws : List Str) (xs : List Int) : PyData := .list [.tuple [.str "words", dS ws], .tuple [.str "kept", dL xs]]
theorem ok4 : (["image", "group", "words", "kept"] : List Str).all PyData.strOk = true := by decide +kernel
theorem lay_tI (k : Nat) : Lay 6 (tgI k) := LayA.list (.cons (LayA.tuple (.cons (Lay.str (List.all_eq_true.mp ok4 _ (by decide +kernel))) (.cons (Lay.int _) .nil))) .nil)
theorem Lay.mono {n m : Nat} {d : PyData} (h : Lay n d) (l : n ≤ m) : Lay m d := ⟨h.1, Nat.le_trans h.2.1 l, h.2.2⟩
theorem lay_tG (gp : List Nat) : Lay 6 (tgG gp) := LayA.list (.cons (LayA.tuple (.cons (Lay.str (List.all_eq_true.mp ok4 _ (by decide +kernel))) (.cons ((lay_L _).mono (by decide)) .nil))) .nil)
theorem lay_tW {ws : List Str} (xs : List Int) (h : ∀ w ∈ ws, w ∈ iwS) : Lay 6 (tgW ws xs) := LayA.list (.cons (LayA.tuple (.cons (Lay.str (List.all_eq_true.mp ok4 _ (by decide +kernel))) (.cons ((lay_S h).mono (by decide)) .nil))) (.cons (LayA.tuple (.cons (Lay.str (List.all_eq_true.mp ok4 _ (by decide +kernel))) (.cons ((lay_L _).mono (by decide)) .nil))) .nil))
section
variable {K : PySem.W.Frag} {H : Hp}
theorem dp_tI {r t : Addr} {k : Nat} (h : H r = some (.lst [.ref t])) (h1 : H t = some (.tup [.str "image", .int (k : Int)])) : Dp K H (.ref r) (tgI k) := .lst (SqL.of h) (.cons (.tup (SqT.of h1) (.cons (.str _) (.cons (.int _) .nil))) .nil)
theorem dp_tG {r t g : Addr} {gp : List Nat} (h : H r = some (.lst [.ref t])) (h1 : H t = some (.tup [.str "group", .ref g])) (h2 : ListN H g gp) : Dp K H (.ref r) (tgG gp) :=
  .lst (SqL.of h) (.cons (.tup (SqT.of h1) (.cons (.str _) (.cons (dp_L (by rw [← nI_int]; exact h2)) .nil))) .nil)
theorem dp_tW {r t u p q : Addr} {ws : List Str} {xs : List Int} (h : H r = some (.lst [.ref t, .ref u])) (h1 : H t = some (.tup [.str "words", .ref p])) (h2 : H u = some (.tup [.str "kept", .ref q])) (h3 : H p = some (.lst (ws.map V.str))) (h4 : H q = some (.lst (xs.map V.int))) : Dp K H (.ref r) (tgW ws xs) :=
  .lst (SqL.of h) (.cons (.tup (SqT.of h1) (.cons (.str _) (.cons (dp_S h3) .nil))) (.cons (.tup (SqT.of h2) (.cons (.str _) (.cons (dp_L h4) .nil))) .nil))
end
/-- sorted of a tuple of ints -/
theorem srt_maps {α β : Type} (f : α → β) {r : α → α → Bool} {s : β → β → Bool} {l : List α} (h : ∀ a ∈ l, ∀ b ∈ l, r a b = s (f a) (f b)) : (l.mergeSort r).map f = (l.map f).mergeSort s := (List.map_mergeSort h)
theorem sort9 {K : PySem.W.Frag} {H : Hp} {t : Addr} {ws : List Nat} (hs : SqT K H t (nI ws)) : ∃ (bs : List (V × PyData)) (vs : List Nat), SqT K H t (bs.map Prod.fst) ∧ (∀ b ∈ bs, Dp K H b.1 b.2 ∧ b.2.depth ≤ 60) ∧ AllAlike (bs.map Prod.snd) ∧ Sortable (bs.map Prod.snd) ∧ (bs.mergeSort (dataLe false Prod.snd)).map Prod.fst = nI vs ∧ vs.Perm ws ∧ vs.Pairwise (· ≤ ·) := by
  have e1 : (ws.map fun z : Nat => (V.int (z : Int), PyData.int (z : Int))).map Prod.fst = nI ws := by rw [List.map_map]; rfl
  have e2 : ((ws.map fun z : Nat => (V.int (z : Int), PyData.int (z : Int))).mergeSort (dataLe false Prod.snd)).map Prod.fst = nI (ws.mergeSort fun a b => !dataLt (PyData.int (b : Int)) (PyData.int (a : Int))) := by
    have := (srt_maps (l := ws) (r := fun a b => !dataLt (PyData.int (b : Int)) (PyData.int (a : Int))) (s := dataLe false Prod.snd) (fun z : Nat => (V.int (z : Int), PyData.int (z : Int))) fun a _ b _ => rfl)
    rw [← this, List.map_map]
    rfl
  have le : ∀ a b : Nat, (!dataLt (PyData.int (b : Int)) (PyData.int (a : Int))) = decide (a ≤ b) := fun a b => by
    rw [show dataLt (PyData.int (b : Int)) (PyData.int (a : Int)) = decide ((b : Int) < (a : Int)) from dataLt_int _ _]
    by_cases c : a ≤ b
    · rw [decide_eq_true c, decide_eq_false (by omega)]
      rfl
    · rw [decide_eq_false c, decide_eq_true (by omega)]
      rfl
  refine ⟨ws.map fun z : Nat => (V.int (z : Int), PyData.int (z : Int)), ws.mergeSort fun a b => !dataLt (PyData.int (b : Int)) (PyData.int (a : Int)), by rw [e1]; exact hs, fun b hb => ?_, ?_, ?_, e2, List.mergeSort_perm .., ?_⟩
  · obtain ⟨z, _, rfl⟩ := List.mem_map.mp hb
    exact ⟨.int _, by simp [PyData.depth]⟩
  · rw [List.map_map]
    intro d hd d' hd'
    obtain ⟨y, _, rfl⟩ := List.mem_map.mp hd
    obtain ⟨y', _, rfl⟩ := List.mem_map.mp hd'
    simp [alike]
  · rw [List.map_map]
    refine .inr fun d hd => ?_
    obtain ⟨y, _, rfl⟩ := List.mem_map.mp hd
    exact ⟨(fun z => by cases z), (fun xs z => by cases z)⟩
  · have := List.pairwise_mergeSort (le := fun a b : Nat => !dataLt (PyData.int (b : Int)) (PyData.int (a : Int))) (fun a b c h1 h2 => by rw [le] at h1 h2 ⊢; have := of_decide_eq_true h1; have := of_decide_eq_true h2; exact decide_eq_true (by omega)) (fun a b => by rw [le, le]; by_cases c : a ≤ b <;> simp <;> omega) ws
    refine this.imp fun {a b} h => ?_
    rw [le] at h
    exact of_decide_eq_true h
end Pv

namespace Pv
open PySem L2 Evl Pm
theorem rd_snoc (b : Bk) : ∀ (l : List Bk) (row : List Int), rdS (l ++ [b]) row = rdS l row ++ (if b.1 = 2 then [b.2 ++ pkd row[clN l]?] else if 1 < b.1 then [b.2] else [])
  | [], row => by
    show rdS [b] row = _
    unfold rdS
    by_cases c : b.1 = 2
    · rw [if_pos c, if_pos c]
      cases row <;> rfl
    · rw [if_neg c, if_neg c]
      by_cases d : 1 < b.1
      · rw [if_pos d, if_pos d]
        rfl
      · rw [if_neg d, if_neg d]
        rfl
  | a :: l, row => by
    rw [List.cons_append]
    unfold rdS
    by_cases c : a.1 = 2
    · have e1 : clN (a :: l) = clN l + 1 := by
        unfold clN
        rw [List.filter_cons, if_pos (by rw [decide_eq_true c])]
        rfl
      rw [if_pos c, if_pos c, rd_snoc b l row.tail, e1, List.cons_append]
      congr 2
      cases row <;> rfl
    · have e1 : clN (a :: l) = clN l := by
        unfold clN
        rw [List.filter_cons, if_neg (by rw [decide_eq_false c]; exact Bool.false_ne_true)]
      rw [if_neg c, if_neg c, e1]
      by_cases d : 1 < a.1
      · rw [if_pos d, if_pos d, rd_snoc b l row, List.cons_append]
      · rw [if_neg d, if_neg d]
        exact rd_snoc b l row
theorem cl_snoc (b : Bk) (l : List Bk) : clN (l ++ [b]) = clN l + if b.1 = 2 then 1 else 0 := by
  unfold clN
  rw [List.filter_append, List.length_append]
  congr 1
  rw [List.filter_cons]
  by_cases c : b.1 = 2
  · rw [if_pos (by rw [decide_eq_true c]), if_pos c]
    rfl
  · rw [if_neg (by rw [decide_eq_false c]; exact Bool.false_ne_true), if_neg c]
    rfl
theorem cl_take (l : List Bk) (i : Nat) : clN (l.take i) ≤ clN l := by
  unfold clN
  exact ((List.take_sublist i l).filter _).length_le
theorem RdA.new {H : Hp} {p : Addr} (h : H p = some (.lst [])) : RdA H p [] := ⟨[], h, rfl, fun i t ms h1 _ => by cases h1⟩
theorem RdA.app {H H1 : Hp} {p t : Addr} {ss : List (List Nat)} {ms : List Nat} {ts : List Addr} (hp : H1 p = some (.lst ((ts ++ [t]).map V.ref))) (l : ts.length = ss.length) (k : ∀ (i : Nat) (t : Addr) (ms : List Nat), ts[i]? = some t → ss[i]? = some ms → StpAt H1 t ms) (hq : StpAt H1 t ms) : RdA H1 p (ss ++ [ms]) := by
  refine ⟨ts ++ [t], hp, by rw [List.length_append, List.length_append, l]; rfl, fun i t1 x h1 h2 => ?_⟩
  by_cases hi : i < ts.length
  · rw [List.getElem?_append_left hi] at h1
    rw [List.getElem?_append_left (by rw [← l]; exact hi)] at h2
    exact k i t1 x h1 h2
  · have a2 : i < (ts ++ [t]).length := (List.getElem?_eq_some_iff.mp h1).1
    rw [List.length_append] at a2
    have a3 : i = ts.length := by have : ([t] : List Addr).length = 1 := rfl; omega
    rw [a3, List.getElem?_append_right (Nat.le_refl _), Nat.sub_self] at h1
    rw [a3, l, List.getElem?_append_right (Nat.le_refl _), Nat.sub_self] at h2
    cases h1
    cases h2
    exact hq
/-- a step keeps, where only a fresh list and the line of steps change -/
theorem StpAt.but {H H1 : Hp} {s p : Addr} {ms : List Nat} (e : ∀ (x : Addr) (o : HO), x ≠ p → H x = some o → H1 x = some o) (hp : ∃ xs, H p = some (.lst xs)) (h : StpAt H s ms) : StpAt H1 s ms := by
  obtain ⟨w, t, row, a, b, c⟩ := h
  obtain ⟨xs, hp⟩ := hp
  exact ⟨w, t, row, e _ _ (fun z => by rw [z, hp] at a; cases a) a, e _ _ (fun z => by rw [z, hp] at b; cases b) b, c⟩
theorem rd_len : ∀ (l : List Bk) (row : List Int), (rdS l row).length ≤ l.length
  | [], _ => Nat.le_refl _
  | b :: l, row => by
    unfold rdS
    by_cases c : b.1 = 2
    · rw [if_pos c]
      exact Nat.succ_le_succ (rd_len l row.tail)
    · rw [if_neg c]
      by_cases d : 1 < b.1
      · rw [if_pos d]
        exact Nat.succ_le_succ (rd_len l row)
      · rw [if_neg d]
        exact Nat.le_succ_of_le (rd_len l row)
theorem len3 : ∀ {l : List Nat}, l.length = 3 → ∃ x y z, l = [x, y, z]
  | [], h => by cases h
  | [_], h => by cases h
  | [_, _], h => by cases h
  | [x, y, z], _ => ⟨x, y, z, rfl⟩
  | _ :: _ :: _ :: _ :: _, h => by simp at h
theorem set_fnN {n x : Nat} {f : Nat → Nat} {v : Nat} (h : x < n) : ((List.range n).map fun y => V.int (f y : Int)).set x (V.int (v : Int)) = (List.range n).map fun y => V.int ((if y = x then v else f y : Nat) : Int) := by
  refine List.ext_getElem? fun j => ?_
  rw [List.getElem?_map]
  by_cases c : j < n
  · rw [List.getElem?_range c]
    by_cases d : x = j
    · subst d
      rw [List.getElem?_set_self (by rw [List.length_map, List.length_range]; exact h)]
      simp
    · rw [List.getElem?_set_ne d, List.getElem?_map, List.getElem?_range c]
      have : ¬ j = x := fun e => d e.symm
      simp [this]
  · rw [List.getElem?_eq_none (by rw [List.length_set, List.length_map, List.length_range]; omega), List.getElem?_eq_none (by rw [List.length_range]; omega)]
    rfl
theorem rep_0 : ∀ n : Nat, (List.replicate n [V.int 0]).flatten = (List.range n).map fun _ => V.int ((0 : Nat) : Int) := fun n => by
  rw [List.map_const', List.length_range]
  induction n with
  | zero => rfl
  | succ n ih => rw [List.replicate_succ, List.flatten_cons, ih, List.replicate_succ]; rfl
theorem tot_snoc (bs : List Bk) {rows : List (List Int)} {i : Nat} {r : List Int} (h : rows[i]? = some r) (x : Nat) : totC bs (rows.take (i + 1)) x = totC bs (rows.take i) x + (rdS bs r).flatten.count x := by
  unfold totC
  rw [List.take_add_one, h, List.map_append, List.sum_append]
  show _ + ([_] : List Nat).sum = _
  rw [List.sum_singleton]
theorem cnt_snoc {ss : List (List Nat)} {j : Nat} {ms : List Nat} (h : ss[j]? = some ms) (x : Nat) : (ss.take (j + 1)).flatten.count x = (ss.take j).flatten.count x + ms.count x := by
  rw [List.take_add_one, h, List.flatten_append, List.count_append]
  show _ + ([ms] : List (List Nat)).flatten.count x = _
  rw [List.flatten_cons, List.flatten_nil, List.append_nil]
theorem cnt_one {l : List Nat} {m y : Nat} (h : l[m]? = some y) (x : Nat) : (l.take (m + 1)).count x = (l.take m).count x + if x = y then 1 else 0 := by
  rw [List.take_add_one, h, List.count_append]
  show _ + ([y] : List Nat).count x = _
  rw [List.count_cons, List.count_nil, Nat.zero_add]
  congr 1
  by_cases e : x = y
  · rw [if_pos e, if_pos (by rw [beq_iff_eq]; exact e.symm)]
  · rw [if_neg e, if_neg (by rw [beq_iff_eq]; exact fun z => e z.symm)]
theorem rd_lt {n : Nat} {bs : List Bk} (B : Bd n bs) {k : Nat} {row : List Int} (hr : row ∈ allC (frL bs) k) (hk : k = clN bs) {ms : List Nat} (hm : ms ∈ rdS bs row) {x : Nat} (hx : x ∈ ms) : x < n := by
  have h1 : 0 < (rdS bs row).flatten.count x := List.count_pos_iff.2 (List.mem_flatten.2 ⟨ms, hm, hx⟩)
  rw [rd_count x bs row (by rw [(all_mem hr).1, hk])] at h1
  by_cases c : 0 < (toL bs).count x
  · obtain ⟨b, hb, h⟩ := List.mem_flatMap.1 (List.count_pos_iff.1 c)
    exact B.mem.2 ⟨b, (List.mem_filter.1 hb).1, h⟩
  · have : 0 < row.count (x : Int) := by omega
    rcases (all_mem hr).2.1 _ (List.count_pos_iff.1 this) with e | ⟨y, hy, e⟩
    · omega
    · have : y = x := by omega
      rw [this] at hy
      obtain ⟨b, hb, _, h⟩ := B.fr_mem.1 hy
      exact B.mem.2 ⟨b, hb, h⟩
theorem cl_le (bs : List Bk) : clN bs ≤ bs.length := List.length_filter_le _ _
theorem fr_le (bs : List Bk) : (frL bs).length ≤ bs.length := by
  unfold frL
  rw [List.length_map]
  exact List.length_filter_le _ _
theorem ref_at {ts : List Addr} {i : Nat} {x : V} (h : (ts.map V.ref)[i]? = some x) : ∃ p, ts[i]? = some p ∧ x = .ref p := by
  rw [List.getElem?_map] at h
  cases e : ts[i]? with
  | none => rw [e] at h; cases h
  | some p =>
    rw [e] at h
    exact ⟨p, rfl, (Option.some.inj h).symm⟩
theorem in_hr {w : Nat} (h : w < 8) : inV (V.str (wd w)) [V.str (Str.ofString "hook"), V.str (Str.ofString "relay")] = decide (w = 3 ∨ w = 4) := by
  rcases w with _ | _ | _ | _ | _ | _ | _ | _ | w
  all_goals first | decide +kernel | omega
theorem in_ctw {w : Nat} (h : w < 8) : inV (V.str (wd w)) [V.str (Str.ofString "clamp"), V.str (Str.ofString "trail"), V.str (Str.ofString "wheel")] = decide (5 ≤ w) := by
  rcases w with _ | _ | _ | _ | _ | _ | _ | _ | w
  all_goals first | decide +kernel | omega
end Pv

namespace Pv
open PySem L2 Evl Pm
def upI (ys : List Nat) : List Int := ys.map fun y : Nat => (y : Int)
theorem upI_len (ys : List Nat) : (upI ys).length = ys.length := List.length_map ..
theorem nI_up (ys : List Nat) : nI ys = (upI ys).map V.int := nI_int ys
theorem natI_up (ys : List Nat) : natI (upI ys) = ys := by
  unfold natI upI
  rw [List.map_map]
  refine (List.map_congr_left fun y _ => ?_).trans (List.map_id ys)
  rfl
theorem upI_at {ys : List Nat} {k : Nat} : (upI ys).getD k 0 = ((ys.getD k 0 : Nat) : Int) := by
  unfold upI
  rw [List.getD_eq_getElem?_getD, List.getElem?_map, List.getD_eq_getElem?_getD]
  cases ys[k]? <;> rfl
theorem stray_up {ys : List Nat} (h : Rec ys) : strayI (upI ys) = none := by
  unfold strayI
  refine firstOf_none fun j hj => ?_
  rw [upI_len] at hj
  have := h j hj
  unfold badN
  rw [upI_at, upI_len]
  rw [decide_eq_false (by omega), decide_eq_false (by omega)]
  rfl
theorem stray_two {ys : List Nat} (h : Rec ys) {a b : Nat} {z : Int} (ha : a < ys.length) (hb : b < ys.length) (hz : z < 0 ∨ (ys.length : Int) ≤ z) : strayI (((upI ys).set a z).set b z) = some (min a b) := by
  have at_ : ∀ j, j < ys.length → (((upI ys).set a z).set b z).getD j 0 = if j = a ∨ j = b then z else ((ys.getD j 0 : Nat) : Int) := fun j hj => by
    rw [← upI_at, List.getD_eq_getElem?_getD]
    by_cases e2 : b = j
    · subst e2
      rw [List.getElem?_set_self (by rw [List.length_set, upI_len]; exact hj), if_pos (.inr rfl)]
      rfl
    · rw [List.getElem?_set_ne e2]
      by_cases e1 : a = j
      · subst e1
        rw [List.getElem?_set_self (by rw [upI_len]; exact hj), if_pos (.inl rfl)]
        rfl
      · rw [List.getElem?_set_ne e1, if_neg (fun q => q.elim (fun e => e1 e.symm) fun e => e2 e.symm), List.getD_eq_getElem?_getD]
  have ln : (((upI ys).set a z).set b z).length = ys.length := by rw [List.length_set, List.length_set, upI_len]
  unfold strayI
  refine firstOf_some (by rw [ln]; omega) ?_ fun j hj => ?_
  · unfold badN
    rw [at_ _ (by omega), ln, if_pos (by omega)]
    rw [Bool.or_eq_true, decide_eq_true_iff, decide_eq_true_iff]
    exact hz
  · have jl : j < ys.length := by omega
    unfold badN
    rw [at_ _ jl, ln, if_neg (by omega)]
    have := h j jl
    rw [decide_eq_false (by omega), decide_eq_false (by omega)]
    rfl
theorem srt_is {xs vs gs : List Nat} (p : vs.Perm xs) (s : vs.Pairwise (· ≤ ·)) (nd : xs.Nodup) (q : xs.Perm gs) (t : gs.Pairwise (· < ·)) : vs = gs := by
  have ndv : vs.Nodup := p.nodup_iff.2 nd
  refine asc_ext ?_ t fun x => (p.trans q).mem_iff
  refine (s.and (List.nodup_iff_pairwise_ne.1 ndv)).imp fun {a b} h => ?_
  omega
theorem im_n0 {ys : List Nat} {n : Nat} {bs : List Bk} (I : Im ys n bs) (h : n = 0) : ys = [] ∧ bs = [] := by
  refine ⟨List.eq_nil_of_length_eq_zero (by rw [I.len, h]), ?_⟩
  have := I.bd.many
  exact List.eq_nil_of_length_eq_zero (by omega)
theorem im_bad_ne {ys : List Nat} {n : Nat} {bs : List Bk} (I : Im ys n bs) {x : Bk} (hx : x ∈ bs) (h8 : 8 ≤ x.1) {cs : List Bk} (h : formsF ys = cs.map some) : False := by
  rw [I.forms] at h
  have : (none : Option Bk) ∈ cs.map some := by
    rw [← h]
    exact List.mem_map.2 ⟨x, hx, if_neg (by omega)⟩
  obtain ⟨c, _, e⟩ := List.mem_map.1 this
  cases e
theorem im_same {ys : List Nat} {n : Nat} {bs cs : List Bk} (I : Im ys n bs) (ok : ∀ b ∈ bs, b.1 < 8) (h : formsF ys = cs.map some) : cs = bs := by
  rw [I.good ok] at h
  exact (List.map_inj_right fun _ _ => Option.some.inj).1 h.symm
theorem im_pk {ys : List Nat} {n : Nat} {bs : List Bk} (I : Im ys n bs) (ok : ∀ b ∈ bs, b.1 < 8) : ∀ b ∈ bs, Pk n b := fun b hb => by
  have p := I.bd.pw b hb
  exact ⟨ok b hb, by rw [p.2.1, shp_form (ok b hb)], fun x hx => I.bd.mem.2 ⟨b, hb, hx⟩⟩
def wsI (n : Nat) (bs : List Bk) : List Str := (List.range n).map (invW bs)
theorem wsI_ok (n : Nat) (bs : List Bk) : ∀ w ∈ wsI n bs, w ∈ iwS := fun w hw => by
  obtain ⟨x, _, rfl⟩ := List.mem_map.1 hw
  exact inv_iw bs x
theorem wsI_v (n : Nat) (bs : List Bk) : ((List.range n).map fun x => V.str (invW bs x)) = (wsI n bs).map V.str := by
  unfold wsI
  rw [List.map_map]
  rfl
theorem TlW.dp {K : PySem.W.Frag} {H : Hp} {r : Addr} {xs : List Int} {bs : List Bk} (h : TlW H r xs bs) : Dp K H (.ref r) (tgW (wsI xs.length bs) xs) := by
  obtain ⟨t, u, p, q, h1, h2, h3, h4, h5⟩ := h
  exact dp_tW h1 h2 h3 (by rw [h4, wsI_v]) h5
theorem TlW.ex {H H' : Hp} {r : Addr} {xs : List Int} {bs : List Bk} (e : Ex H H') (h : TlW H r xs bs) : TlW H' r xs bs := by
  obtain ⟨t, u, p, q, h1, h2, h3, h4, h5⟩ := h
  exact ⟨t, u, p, q, e _ _ h1, e _ _ h2, e _ _ h3, e _ _ h4, e _ _ h5⟩
theorem fr_snoc (b : Bk) (l : List Bk) : frL (l ++ [b]) = frL l ++ if b.1 = 0 then [b.2.getD 0 0] else [] := by
  unfold frL
  rw [List.filter_append, List.map_append]
  congr 1
  rw [List.filter_cons]
  by_cases c : b.1 = 0
  · rw [if_pos (by rw [decide_eq_true c]), if_pos c]
    rfl
  · rw [if_neg (by rw [decide_eq_false c]; exact Bool.false_ne_true), if_neg c]
    rfl
theorem in_bad {w : Nat} (h : w < 15) : inV (V.str (wd w)) (([8, 9, 10, 11, 12, 13, 14] : List Nat).map fun k => V.str (wd k)) = decide (8 ≤ w) := by
  have d : ∀ w : Fin 15, inV (V.str (wd w.val)) (([8, 9, 10, 11, 12, 13, 14] : List Nat).map fun k => V.str (wd k)) = decide (8 ≤ w.val) := by decide +kernel
  exact d ⟨w, h⟩
end Pv

namespace Pv
open PySem L2 Evl Pm
theorem hash0 (w : World) : (numK [0]).hash w = -8753497827991233192 := by kernel_rfl
theorem hash1 (w : World) : (numK [1, 0]).hash w = -5164621852614943976 := by kernel_rfl
theorem hash2 (w : World) : (numK [1, 1]).hash w = 8389048192121911274 := by kernel_rfl
theorem hash3 (w : World) : (numK [1, 2, 1]).hash w = 3313134723150563520 := by kernel_rfl
theorem hash4 (w : World) : (numK [1, 2, 2]).hash w = -1579939305822132846 := by kernel_rfl
theorem hash5 (w : World) : (numK [1, 2, 1, 2]).hash w = 8677768113715720416 := by kernel_rfl
theorem hash6 (w : World) : (numK [1, 2, 3, 2]).hash w = 3374690043038133861 := by kernel_rfl
theorem hash7 (w : World) : (numK [1, 2, 3, 0]).hash w = 1760123315908831802 := by kernel_rfl
theorem forms_mk {P : Program} {w : World} {K : PySem.W.Frag} {c k0 k1 k2 k3 k4 k5 k6 k7 : Addr} {t0 t1 t2 t3 t4 t5 t6 t7 a0_0 a1_0 a1_1 a2_0 a2_1 a3_0 a3_1 a3_2 a4_0 a4_1 a4_2 a5_0 a5_1 a5_2 a5_3 a6_0 a6_1 a6_2 a6_3 a7_0 a7_1 a7_2 a7_3 : Tok} {ep n0 n1 n2 n3 n4 n5 n6 n7 : Nat} {od0 od1 od2 od3 od4 od5 od6 od7 : Option Addr} {sl0 sl1 sl2 sl3 sl4 sl5 sl6 sl7 : Array (Option Value)}
    (sm : (c == sysModules) = false) (l : List.lookup c K = some { cls := .type "dict", data := .dict #[⟨-8753497827991233192, .ref k0, .str "free" t0⟩, ⟨-5164621852614943976, .ref k1, .str "pair" t1⟩, ⟨8389048192121911274, .ref k2, .str "claim" t2⟩, ⟨3313134723150563520, .ref k3, .str "hook" t3⟩, ⟨-1579939305822132846, .ref k4, .str "relay" t4⟩, ⟨8677768113715720416, .ref k5, .str "clamp" t5⟩, ⟨3374690043038133861, .ref k6, .str "trail" t6⟩, ⟨1760123315908831802, .ref k7, .str "wheel" t7⟩] ep })
    (f0 : List.lookup k0 K = some ⟨.type "tuple", od0, .seq #[.int 0 a0_0] n0, sl0⟩)
    (f1 : List.lookup k1 K = some ⟨.type "tuple", od1, .seq #[.int 1 a1_0, .int 0 a1_1] n1, sl1⟩)
    (f2 : List.lookup k2 K = some ⟨.type "tuple", od2, .seq #[.int 1 a2_0, .int 1 a2_1] n2, sl2⟩)
    (f3 : List.lookup k3 K = some ⟨.type "tuple", od3, .seq #[.int 1 a3_0, .int 2 a3_1, .int 1 a3_2] n3, sl3⟩)
    (f4 : List.lookup k4 K = some ⟨.type "tuple", od4, .seq #[.int 1 a4_0, .int 2 a4_1, .int 2 a4_2] n4, sl4⟩)
    (f5 : List.lookup k5 K = some ⟨.type "tuple", od5, .seq #[.int 1 a5_0, .int 2 a5_1, .int 1 a5_2, .int 2 a5_3] n5, sl5⟩)
    (f6 : List.lookup k6 K = some ⟨.type "tuple", od6, .seq #[.int 1 a6_0, .int 2 a6_1, .int 3 a6_2, .int 2 a6_3] n6, sl6⟩)
    (f7 : List.lookup k7 K = some ⟨.type "tuple", od7, .seq #[.int 1 a7_0, .int 2 a7_1, .int 3 a7_2, .int 0 a7_3] n7, sl7⟩)
    : TabK P w K c formsT := by
  refine ⟨sm, [t0, t1, t2, t3, t4, t5, t6, t7], fun h X => ⟨?_, rfl⟩⟩
  refine Heap.DictKeyed.ofEntries (knd := nestedKind P w) (h := h) (d := c) [(numK [0], k0, .str "free" t0), (numK [1, 0], k1, .str "pair" t1), (numK [1, 1], k2, .str "claim" t2), (numK [1, 2, 1], k3, .str "hook" t3), (numK [1, 2, 2], k4, .str "relay" t4), (numK [1, 2, 1, 2], k5, .str "clamp" t5), (numK [1, 2, 3, 2], k6, .str "trail" t6), (numK [1, 2, 3, 0], k7, .str "wheel" t7)] (X _ _ l) ⟨rfl, rfl, rfl⟩ rfl ?_ ?_ ?_
  · show [(⟨-8753497827991233192, .ref k0, .str "free" t0⟩ : DictEntry), (⟨-5164621852614943976, .ref k1, .str "pair" t1⟩ : DictEntry), (⟨8389048192121911274, .ref k2, .str "claim" t2⟩ : DictEntry), (⟨3313134723150563520, .ref k3, .str "hook" t3⟩ : DictEntry), (⟨-1579939305822132846, .ref k4, .str "relay" t4⟩ : DictEntry), (⟨8677768113715720416, .ref k5, .str "clamp" t5⟩ : DictEntry), (⟨3374690043038133861, .ref k6, .str "trail" t6⟩ : DictEntry), (⟨1760123315908831802, .ref k7, .str "wheel" t7⟩ : DictEntry)] = [(⟨(numK [0]).hash w, .ref k0, .str "free" t0⟩ : DictEntry), (⟨(numK [1, 0]).hash w, .ref k1, .str "pair" t1⟩ : DictEntry), (⟨(numK [1, 1]).hash w, .ref k2, .str "claim" t2⟩ : DictEntry), (⟨(numK [1, 2, 1]).hash w, .ref k3, .str "hook" t3⟩ : DictEntry), (⟨(numK [1, 2, 2]).hash w, .ref k4, .str "relay" t4⟩ : DictEntry), (⟨(numK [1, 2, 1, 2]).hash w, .ref k5, .str "clamp" t5⟩ : DictEntry), (⟨(numK [1, 2, 3, 2]).hash w, .ref k6, .str "trail" t6⟩ : DictEntry), (⟨(numK [1, 2, 3, 0]).hash w, .ref k7, .str "wheel" t7⟩ : DictEntry)]
    rw [hash0, hash1, hash2, hash3, hash4, hash5, hash6, hash7]
  · intro x hx
    simp only [List.mem_cons, List.not_mem_nil, or_false] at hx
    rcases hx with rfl | rfl | rfl | rfl | rfl | rfl | rfl | rfl
    · exact ⟨.tup (X _ _ f0) rfl rfl (.cons (.int _ _) (.nil)), numK_depth _⟩
    · exact ⟨.tup (X _ _ f1) rfl rfl (.cons (.int _ _) (.cons (.int _ _) (.nil))), numK_depth _⟩
    · exact ⟨.tup (X _ _ f2) rfl rfl (.cons (.int _ _) (.cons (.int _ _) (.nil))), numK_depth _⟩
    · exact ⟨.tup (X _ _ f3) rfl rfl (.cons (.int _ _) (.cons (.int _ _) (.cons (.int _ _) (.nil)))), numK_depth _⟩
    · exact ⟨.tup (X _ _ f4) rfl rfl (.cons (.int _ _) (.cons (.int _ _) (.cons (.int _ _) (.nil)))), numK_depth _⟩
    · exact ⟨.tup (X _ _ f5) rfl rfl (.cons (.int _ _) (.cons (.int _ _) (.cons (.int _ _) (.cons (.int _ _) (.nil))))), numK_depth _⟩
    · exact ⟨.tup (X _ _ f6) rfl rfl (.cons (.int _ _) (.cons (.int _ _) (.cons (.int _ _) (.cons (.int _ _) (.nil))))), numK_depth _⟩
    · exact ⟨.tup (X _ _ f7) rfl rfl (.cons (.int _ _) (.cons (.int _ _) (.cons (.int _ _) (.cons (.int _ _) (.nil))))), numK_depth _⟩
  · show [numK [0], numK [1, 0], numK [1, 1], numK [1, 2, 1], numK [1, 2, 2], numK [1, 2, 1, 2], numK [1, 2, 3, 2], numK [1, 2, 3, 0]].Nodup
    decide +kernel
theorem words_mk {K : PySem.W.Frag} {c : Addr} {od : Option Addr} {n : Nat} {sl : Array (Option Value)} {t0 t1 t2 t3 t4 t5 t6 t7 : Tok} (l : List.lookup c K = some ⟨.type "tuple", od, .seq #[.str "free" t0, .str "pair" t1, .str "claim" t2, .str "hook" t3, .str "relay" t4, .str "clamp" t5, .str "trail" t6, .str "wheel" t7] n, sl⟩) (H : Hp) : SqT K H c wordsV := by
  refine Or.inr ⟨_, _, _, l, rfl, rfl, (by show 8 ≤ sizeLine; decide), ?_⟩
  exact .cons ⟨_, rfl⟩ (.cons ⟨_, rfl⟩ (.cons ⟨_, rfl⟩ (.cons ⟨_, rfl⟩ (.cons ⟨_, rfl⟩ (.cons ⟨_, rfl⟩ (.cons ⟨_, rfl⟩ (.cons ⟨_, rfl⟩ (.nil))))))))
theorem whole_mk {K : PySem.W.Frag} {c : Addr} {od : Option Addr} {n : Nat} {sl : Array (Option Value)} {t0 t1 : Tok} (l : List.lookup c K = some ⟨.type "tuple", od, .seq #[.str "free" t0, .str "pair" t1] n, sl⟩) (H : Hp) : SqT K H c [.str "free", .str "pair"] := by
  refine Or.inr ⟨_, _, _, l, rfl, rfl, (by show 2 ≤ sizeLine; decide), ?_⟩
  exact .cons ⟨_, rfl⟩ (.cons ⟨_, rfl⟩ .nil)
end Pv

namespace Pv
open PySem L2 Evl Pm
local macro_rules | `(tactic| walk_at "r1") => `(tactic| first
  | refine ⟨_, rfl, ?_⟩
  | refine ⟨rfl, ?_⟩
  | refine ⟨_, _, rfl, rfl, (show (_ : Prop) from by first | decide | omega | assumption | exact Or.inr ⟨by decide, by decide⟩ | exact Or.inl ⟨by omega, by omega⟩ | exact ⟨by decide, by decide, by decide⟩ | exact ⟨by decide, by decide⟩ | exact wide_div (b := 60) (by omega) (by omega) (by decide) (by decide)), ?_⟩
  | refine ⟨_, _, rfl, rfl, ?_⟩
  | refine ⟨_, _, _, _, rfl, rfl, (show (_ : Prop) from by first | exact SqL.of (by assumption) | exact SqL.of upd_same | assumption | exact upd_same), rfl, ?_⟩
  | refine Or.inl ⟨_, rfl, ?_⟩)
local macro_rules | `(tactic| walk_at "ex") => `(tactic| first | exact Ex.refl _ | assumption | (refine ex_new ?_ (by assumption); walk_at "ex"))
local macro_rules | `(tactic| walk_at "r") => `(tactic| repeat (walk_at "r1"))

section
variable {P : Program} {w : World} {K : PySem.W.Frag} {mg : Str → Option Value} {base : Heap} {A : Ad}
theorem map_some_inj {α : Type} : ∀ {l m : List α}, l.map some = m.map some → l = m
  | [], [], _ => rfl
  | [], _ :: _, h => by cases h
  | _ :: _, [], h => by cases h
  | a :: l, b :: m, h => by
    injection h with h1 h2
    injection h1 with h1
    rw [h1, map_some_inj h2]
theorem torn_iff {bs : List Bk} {x : Nat} : (∃ (m : Nat) (b : Bk), m < (bs.filter fun b => decide (1 < b.1)).length ∧ (bs.filter fun b => decide (1 < b.1))[m]? = some b ∧ x ∈ b.2) ↔ (bs.any fun b => decide (1 < b.1) && b.2.contains x) = true := by
  rw [List.any_eq_true]
  constructor
  · rintro ⟨m, b, _, h2, h3⟩
    obtain ⟨h4, h5⟩ := List.mem_filter.1 (List.mem_of_getElem? h2)
    exact ⟨b, h4, by rw [Bool.and_eq_true]; exact ⟨h5, List.contains_iff_mem.2 h3⟩⟩
  · rintro ⟨b, h1, h2⟩
    rw [Bool.and_eq_true] at h2
    obtain ⟨m, hm⟩ := List.getElem?_of_mem ((List.mem_filter (p := fun b : Bk => decide (1 < b.1))).2 ⟨h1, h2.1⟩)
    exact ⟨m, b, (List.getElem?_eq_some_iff.mp hm).1, hm, List.contains_iff_mem.1 h2.2⟩
theorem free_iff {bs : List Bk} {x : Nat} : x ∈ ((bs.filter fun b => decide (b.1 = 0)).map fun b => b.2.getD 0 0) ↔ (bs.any fun b => decide (b.1 = 0) && decide (b.2.getD 0 0 = x)) = true := by
  rw [List.any_eq_true, List.mem_map]
  constructor
  · rintro ⟨b, h1, h2⟩
    obtain ⟨h4, h5⟩ := List.mem_filter.1 h1
    exact ⟨b, h4, by rw [Bool.and_eq_true]; exact ⟨h5, decide_eq_true h2⟩⟩
  · rintro ⟨b, h1, h2⟩
    rw [Bool.and_eq_true] at h2
    exact ⟨b, (List.mem_filter (p := fun b : Bk => decide (b.1 = 0))).2 ⟨h1, h2.1⟩, of_decide_eq_true h2.2⟩
theorem claims_iff {bs : List Bk} : (0 : Int) < ((((bs.filter fun b => decide (1 < b.1)).filter fun b => decide (b.1 = 2)).length : Nat) : Int) ↔ (bs.any fun b => decide (b.1 = 2)) = true := by
  rw [List.any_eq_true]
  constructor
  · intro h
    have h : 0 < ((bs.filter fun b => decide (1 < b.1)).filter fun b => decide (b.1 = 2)).length := by omega
    obtain ⟨b, hb⟩ := List.exists_mem_of_length_pos h
    obtain ⟨h1, h2⟩ := List.mem_filter.1 hb
    exact ⟨b, (List.mem_filter.1 h1).1, h2⟩
  · rintro ⟨b, h1, h2⟩
    have b2 := of_decide_eq_true h2
    have := List.length_pos_of_mem (List.mem_filter.2 ⟨List.mem_filter.2 ⟨h1, decide_eq_true (show 1 < b.1 by omega)⟩, h2⟩ : b ∈ (bs.filter fun b => decide (1 < b.1)).filter fun b => decide (b.1 = 2))
    omega
theorem invW_eq {bs : List Bk} {x : Nat} {s : Str} {P S : Prop} (hs : S ↔ ((bs.any fun b => decide (b.1 = 2)) && (bs.any fun b => decide (b.1 = 0) && decide (b.2.getD 0 0 = x))) = true) (hp : P ↔ (bs.any fun b => decide (1 < b.1) && b.2.contains x) = true)
    (h : (S → s = "sometimes") ∧ (¬ S → P → s = "always") ∧ (¬ S → ¬ P → s = "never")) : V.str s = V.str (invW bs x) ∧ s = invW bs x := by
  have : s = invW bs x := by
    unfold invW
    by_cases a : S
    · rw [if_pos (hs.1 a)]; exact h.1 a
    · rw [if_neg fun z => a (hs.2 z)]
      by_cases b : P
      · rw [if_pos (hp.1 b)]; exact h.2.1 a b
      · rw [if_neg fun z => b (hp.2 z)]; exact h.2.2 a b
  exact ⟨by rw [this], this⟩
theorem getD_some9 {l : List Nat} {i : Nat} (h : i < l.length) : l[i]? = some (l.getD i 0) := by
  rw [List.getD_eq_getElem?_getD, List.getElem?_eq_getElem h]
  rfl
theorem RzP.ex9 {A : Ad} {xs : List Int} {H H1 : Hp} {E : XK} (e : Ex H H1) (r : RzP A xs H E) : RzP A xs H1 E :=
  ⟨fun k hk d H' e' h => r.1 k hk d H' (e.trans e') h, fun s gp hg d p H' e' h1 h2 => r.2 s gp hg d p H' (e.trans e') h1 h2⟩
def WA (G : Hp) (wl : Addr) (n : Nat) (P S : Nat → Prop) : Prop := ∃ f : Nat → Str, G wl = some (.lst ((List.range n).map fun x => V.str (f x))) ∧ ∀ x, (S x → f x = "sometimes") ∧ (¬ S x → P x → f x = "always") ∧ (¬ S x → ¬ P x → f x = "never")
theorem set_fn {n x : Nat} {f : Nat → Str} {v : Str} (h : x < n) : ((List.range n).map fun y => V.str (f y)).set x (V.str v) = (List.range n).map fun y => V.str (if y = x then v else f y) := by
  refine List.ext_getElem (by simp) fun i h1 h2 => ?_
  rw [List.getElem_set, List.getElem_map, List.getElem_map, List.getElem_range]
  by_cases e : x = i
  · rw [if_pos e, if_pos e.symm]
  · rw [if_neg e, if_neg (Ne.symm e)]
theorem WA.ex {G G' : Hp} {wl : Addr} {n : Nat} {P S : Nat → Prop} (h : WA G wl n P S) (e : Ex G G') : WA G' wl n P S := by
  obtain ⟨f, a, b⟩ := h
  exact ⟨f, e _ _ a, b⟩
theorem WA.to {G : Hp} {wl : Addr} {n : Nat} {P P' S S' : Nat → Prop} (h : WA G wl n P S) (e : ∀ x, P x ↔ P' x) (e' : ∀ x, S x ↔ S' x) : WA G wl n P' S' := by
  obtain ⟨f, a, b⟩ := h
  exact ⟨f, a, fun x => by rw [← e x, ← e' x]; exact b x⟩
theorem rep_st : ∀ n : Nat, (List.replicate n [V.str (Str.ofString "never")]).flatten = (List.range n).map fun _ => V.str "never" := fun n => by
  rw [List.map_const', List.length_range]
  induction n with
  | zero => rfl
  | succ n ih => rw [List.replicate_succ, List.flatten_cons, ih, List.replicate_succ]; rfl

theorem ok_involvement (T : Txt K mg A)  (g_torn_pieces : Okd P w K mg base (L2N.CX P w) 6 A.torn_pieces P_torn_pieces (spTor9 A)) (g_claims : Okd P w K mg base CX0 1 A.claims P_claims spCl9) (g_free_records : Okd P w K mg base (L2N.CX P w) 6 A.free_records P_free_records (spFr9 A)) : Okd P w K mg base (L2N.CX P w) 7 A.involvement P_involvement (spInv9 A) := by
  obtain ⟨fd, F⟩ := T.d_involvement
  obtain ⟨fd_torn_pieces, G_torn_pieces, b_torn_pieces⟩ := g_torn_pieces
  obtain ⟨fd_claims, G_claims, b_claims⟩ := g_claims
  obtain ⟨fd_free_records, G_free_records, b_free_records⟩ := g_free_records
  refine ⟨fd, F.okN sc_involvement (fun vs H Q E h => ?_) (fun cdv A' outer s H vs Q E hr h => ?_), F.binds fun _ _ _ _ _ _ us hl => match us, hl with | [_], _ => rfl⟩
  · obtain ⟨a, xs, rfl, _⟩ := h
    rfl
  · obtain ⟨a, xs, rfl, hx, x64, kg, rz⟩ := h
    refine ⟨_, (pss_cons (ps_set (i := 1) sc_involvement.nd rfl (Or.inl rfl) (pe_op op_rep (pe_lst (pa_cons pe_str pa_nil)) (pe_callB call_len_seq (by rfl) T.n_len PySem.boot_len (pa_cons (pv 0) pa_nil))))
      (pss_cons (ps_for (passes_of rfl) rfl (pi_list (pe_callS G_torn_pieces (hr.mono (by decide)) rfl T.g_torn_pieces T.k_torn_pieces b_torn_pieces (fun σ => L2N.passAt (L2N.takes_of rfl rfl rfl rfl) σ) (pa_cons (pv 0) pa_nil))) (pg_tup (by rfl) (pgs_cons (pg_name (i := 2) sc_involvement.nd rfl (Or.inl rfl)) (pgs_cons (pg_name (i := 3) sc_involvement.nd rfl (Or.inl rfl)) pgs_nil))) (pss_one (ps_for (passes_of rfl) rfl (pi_tup (pv 3)) (pg_name (i := 4) sc_involvement.nd rfl (Or.inl rfl)) (pss_one (ps_asg pe_str (pg_sub (pv 1) (pv 4) set_list))))))
      (pss_cons (ps_if (pt_cmpR op_gt (pe_call G_claims (hr.mono (by decide)) (by rfl) T.g_claims T.k_claims b_claims .nil pass0 (pa_cons (pe_callS G_torn_pieces (hr.mono (by decide)) rfl T.g_torn_pieces T.k_torn_pieces b_torn_pieces (fun σ => L2N.passAt (L2N.takes_of rfl rfl rfl rfl) σ) (pa_cons (pv 0) pa_nil)) pa_nil)) pe_int (nomark _)) (pss_one (ps_for (passes_of rfl) rfl (pi_list (pe_callS G_free_records (hr.mono (by decide)) rfl T.g_free_records T.k_free_records b_free_records (fun σ => L2N.passAt (L2N.takes_of rfl rfl rfl rfl) σ) (pa_cons (pv 0) pa_nil))) (pg_name (i := 4) sc_involvement.nd rfl (Or.inl rfl)) (pss_one (ps_asg pe_str (pg_sub (pv 1) (pv 4) set_list))))) pss_nil)
      (pss_one (ps_ret (pv 1)))))), ?_⟩
    have nwa : True := trivial
    refine ⟨(by show 1 ≤ sizeLine; decide), fun z0 hz0 => ?_⟩
    have e0 := Ex.new (o := .lst [V.str (Str.ofString "never")]) hz0
    have gz : upd H z0 (.lst [V.str (Str.ofString "never")]) z0 = some (.lst [V.str (Str.ofString "never")]) := upd_same
    generalize upd H z0 (.lst [V.str (Str.ofString "never")]) = H0 at e0 gz ⊢
    refine ⟨_, rfl, a, _, rfl, .inl (SqL.of (e0 _ _ hx)), z0, _, _, rfl, rfl, gz, by omega, by rw [List.length_map]; omega, (by rw [Int.toNat_natCast, List.length_map]; exact Nat.le_trans (show 1 * xs.length ≤ 64 by omega) (by decide)), fun wl hwl => ?_⟩
    rw [Int.toNat_natCast, List.length_map, rep_st]
    have e1 := Ex.new (o := .lst ((List.range xs.length).map fun _ => V.str "never")) hwl
    have w1 : WA (upd H0 wl (.lst ((List.range xs.length).map fun _ => V.str "never"))) wl xs.length (fun _ => False) (fun _ => False) := ⟨fun _ => "never", upd_same, fun x => ⟨fun h => h.elim, fun _ h => h.elim, fun _ _ => rfl⟩⟩
    have e01 := e0.trans e1
    have fwl : H wl = none := back_none e0 hwl
    generalize upd H0 wl (.lst ((List.range xs.length).map fun _ => V.str "never")) = H1 at w1 e01 ⊢
    refine ⟨_, rfl, a, xs, rfl, e01 _ _ hx, x64, ⟨fun s0 bs hF => ?_, rz.ex9 e01⟩⟩
    obtain ⟨ok, b64, k⟩ := kg s0 bs hF
    refine ⟨ok, b64, fun p H2 hp e2 ⟨qs, hP, hql, hqa⟩ => ?_⟩
    have e02 := e01.trans e2
    have npw : p ≠ wl := fun e => by
      obtain ⟨f, g, _⟩ := w1
      rw [e, g] at hp
      cases hp
    refine ⟨p, rfl, ⟨_, SqL.of hP⟩, for_list (K := K) (a := p) (xs := qs.map V.ref) (fun i σ G => ∃ (v2 v3 v4 : Option V), σ = [some (.ref a), some (.ref wl), v2, v3, v4] ∧ Mut wl H2 G ∧ WA G wl xs.length (fun x => ∃ (m : Nat) (b : Bk), m < i ∧ (bs.filter fun b => decide (1 < b.1))[m]? = some b ∧ x ∈ b.2) (fun _ => False)) ⟨none, none, none, rfl, Mut.refl _ _, (w1.ex e2).to (fun x => ⟨fun h => h.elim, fun ⟨m, b, h, _⟩ => absurd h (Nat.not_lt_zero m)⟩) (fun _ => Iff.rfl)⟩ (fun i σ G _ ⟨_, _, _, _, M, _⟩ => SqL.of (M _ _ npw hP)) ?_ ?_⟩
    · rintro i y σ G hi ⟨v2, v3, v4, rfl, M, wa⟩
      rw [List.getElem?_map] at hi
      cases hgi : qs[i]? with
      | none => rw [hgi] at hi; cases hi
      | some q =>
      rw [hgi] at hi
      injection hi with hi
      subst hi
      have hib : i < (bs.filter fun b => decide (1 < b.1)).length := by rw [← hql]; exact (List.getElem?_eq_some_iff.mp hgi).1
      have hbi := List.getElem?_eq_getElem hib
      have hin := List.mem_filter.1 (List.getElem_mem hib)
      generalize (bs.filter fun b => decide (1 < b.1))[i] = b at hbi hin
      obtain ⟨t, hq1, hq2⟩ := hqa i q b hgi hbi
      have lt2 := (ok b hin.1).2.2
      have tupw : ∀ {x : Addr} {zs : List V} {G : Hp}, Mut wl H2 G → H2 x = some (.tup zs) → G x = some (.tup zs) := fun {x zs G} M h => M _ _ (fun e => by
        obtain ⟨f, g, _⟩ := w1
        rw [e, e2 _ _ g] at h
        cases h) h
      refine ⟨q, _, rfl, SqT.of (tupw M hq1), rfl, _, _, rfl, _, _, rfl, rfl, ?_⟩
      refine ⟨_, rfl, t, rfl, ⟨_, SqT.of (tupw M hq2)⟩, for_tup (K := K) (a := t) (xs := nI b.2) (fun j σ G => ∃ (v4 : Option V), σ = [some (.ref a), some (.ref wl), some (.str (word b.1)), some (.ref t), v4] ∧ Mut wl H2 G ∧ WA G wl xs.length (fun x => (∃ (m : Nat) (b : Bk), m < i ∧ (bs.filter fun b => decide (1 < b.1))[m]? = some b ∧ x ∈ b.2) ∨ x ∈ b.2.take j) (fun _ => False)) ⟨v4, rfl, M, wa.to (fun x => ⟨.inl, fun h => h.elim id fun h => by cases h⟩) (fun _ => Iff.rfl)⟩ (fun j σ G _ ⟨_, _, M, _⟩ => SqT.of (tupw M hq2)) ?_ ?_⟩
      · rintro j y σ G hj ⟨v4, rfl, M, f, gw, hf⟩
        obtain ⟨jl, rfl⟩ := nat_at hj
        have hx2 : b.2[j]? = some (b.2.getD j 0) := getD_some9 jl
        have xl := lt2 _ (List.mem_of_getElem? hx2)
        generalize b.2.getD j 0 = x0 at hx2 xl ⊢
        refine ⟨_, rfl, _, rfl, wl, _, (x0 : Int), x0, rfl, rfl, gw, Evl.ixN_nat (by rw [List.length_map, List.length_range]; exact xl), some (V.int (x0 : Int)), rfl, fun z o nz h => by rw [upd_ne nz]; exact M _ _ nz h, fun y => if y = x0 then "always" else f y, by rw [upd_same]; exact congrArg (fun l => some (HO.lst l)) (set_fn xl), fun y => ⟨fun h => h.elim, fun _ h => ?_, fun _ h => ?_⟩⟩
        · show (if y = x0 then _ else _) = _
          by_cases e : y = x0
          · rw [if_pos e]
          · rw [if_neg e]
            refine (hf y).2.1 id ?_
            rcases h with h | h
            · exact .inl h
            · rw [List.take_add_one, hx2] at h
              rcases List.mem_append.1 h with h | h
              · exact .inr h
              · exact absurd (List.mem_singleton.1 h) e
        · have e : y ≠ x0 := fun e => h (.inr (by rw [List.take_add_one, hx2, e]; exact List.mem_append.2 (.inr (List.mem_singleton.2 rfl))))
          show (if y = x0 then _ else _) = _
          rw [if_neg e]
          refine (hf y).2.2 id fun h2 => h ?_
          rcases h2 with h2 | h2
          · exact .inl h2
          · exact .inr (by rw [List.take_add_one]; exact List.mem_append.2 (.inl h2))
      · rintro σ G ⟨v4, rfl, M, wa⟩
        refine ⟨_, _, _, rfl, M, wa.to (fun x => ?_) (fun _ => Iff.rfl)⟩
        rw [nI_len, List.take_length]
        constructor
        · rintro (⟨m, c, h1, h2, h3⟩ | h)
          · exact ⟨m, c, by omega, h2, h3⟩
          · exact ⟨i, b, by omega, hbi, h⟩
        · rintro ⟨m, c, h1, h2, h3⟩
          by_cases e : m = i
          · right
            rw [e, hbi] at h2
            cases h2
            exact h3
          · exact .inl ⟨m, c, by omega, h2, h3⟩
    · rintro σ G ⟨v2, v3, v4, rfl, M, wa⟩
      rw [List.length_map, hql] at wa
      have exG : ∀ {G : Hp}, Mut wl H2 G → Ex H G := fun {G} M x o h => M _ _ (ne_of_none h fwl) (e02 _ _ h)
      have wa : WA G wl xs.length (fun x => (bs.any fun b => decide (1 < b.1) && b.2.contains x) = true) (fun _ => False) := wa.to (fun x => torn_iff) (fun _ => Iff.rfl)
      refine ⟨_, rfl, a, xs, rfl, exG M _ _ hx, x64, ⟨fun s1 bs1 hF1 => ?_, rz.ex9 (exG M)⟩⟩
      have eb : bs1 = bs := map_some_inj (hF1.symm.trans hF)
      subst eb
      refine ⟨ok, b64, fun p3 H3 hp3 e3 P3 => ⟨p3, _, rfl, P3, fun b hb => (ok b (List.mem_filter.1 hb).1).1, Nat.le_trans (List.length_filter_le ..) b64, fun H4 e4 => ?_⟩⟩
      have e34 := e3.trans e4
      have wa4 := wa.ex e34
      have ex4 : Ex H H4 := (exG M).trans e34
      refine ⟨_, _, rfl, rfl, _, rfl, ite_b (fun c => ?_) (fun c => ?_)⟩
      · have c := claims_iff.1 (of_decide_eq_true c)
        refine ⟨_, rfl, a, xs, rfl, ex4 _ _ hx, x64, ⟨fun s2 bs2 hF2 => ?_, rz.ex9 ex4⟩⟩
        have eb : bs2 = bs1 := map_some_inj (hF2.symm.trans hF)
        subst eb
        refine ⟨ok, b64, fun p5 H5 hp5 e5 g5 => ?_⟩
        have n5 : p5 ≠ wl := fun e => by
          obtain ⟨f, g, _⟩ := wa4
          rw [e, g] at hp5
          cases hp5
        have ex5 : Ex H H5 := ex4.trans e5
        have exG5 : ∀ {G : Hp}, Mut wl H5 G → Ex H G := fun {G} M x o h => M _ _ (ne_of_none h fwl) (ex5 _ _ h)
        refine ⟨p5, rfl, ⟨_, SqL.of g5⟩, for_list (K := K) (a := p5) (xs := nI ((bs2.filter fun b : Bk => decide (b.1 = 0)).map fun b : Bk => b.2.getD 0 0)) (fun j σ G => ∃ (v4 : Option V), σ = [some (.ref a), some (.ref wl), v2, v3, v4] ∧ Mut wl H5 G ∧ WA G wl xs.length (fun x => (bs2.any fun b : Bk => decide (1 < b.1) && b.2.contains x) = true) (fun x => x ∈ (((bs2.filter fun b : Bk => decide (b.1 = 0)).map fun b : Bk => b.2.getD 0 0).take j))) ⟨v4, rfl, Mut.refl _ _, (wa4.ex e5).to (fun _ => Iff.rfl) (fun x => ⟨fun h => h.elim, fun h => by cases h⟩)⟩ (fun j σ G _ ⟨_, _, M, _⟩ => SqL.of (M _ _ n5 g5)) ?_ ?_⟩
        · rintro j y σ G hj ⟨v4, rfl, M, f, gw, hf⟩
          obtain ⟨jl, rfl⟩ := nat_at hj
          have hx2 := getD_some9 jl
          have xl : ((bs2.filter fun b : Bk => decide (b.1 = 0)).map fun b : Bk => b.2.getD 0 0).getD j 0 < xs.length := by
            obtain ⟨b, hb, e⟩ := List.mem_map.1 (List.mem_of_getElem? hx2)
            obtain ⟨hb1, hb2⟩ := List.mem_filter.1 hb
            rw [← e]
            have o := ok b hb1
            have b0 := of_decide_eq_true hb2
            have one : b.2.length = 1 := by rw [o.2.1, b0]; rfl
            exact o.2.2 _ (List.mem_of_getElem? (getD_some9 (by omega)))
          generalize ((bs2.filter fun b : Bk => decide (b.1 = 0)).map fun b : Bk => b.2.getD 0 0).getD j 0 = x0 at hx2 xl ⊢
          refine ⟨_, rfl, _, rfl, wl, _, (x0 : Int), x0, rfl, rfl, gw, Evl.ixN_nat (by rw [List.length_map, List.length_range]; exact xl), some (V.int (x0 : Int)), rfl, fun z o nz h => by rw [upd_ne nz]; exact M _ _ nz h, fun y => if y = x0 then "sometimes" else f y, by rw [upd_same]; exact congrArg (fun l => some (HO.lst l)) (set_fn xl), fun y => ?_⟩
          have mm : y ∈ (((bs2.filter fun b : Bk => decide (b.1 = 0)).map fun b : Bk => b.2.getD 0 0).take (j + 1)) ↔ y ∈ (((bs2.filter fun b : Bk => decide (b.1 = 0)).map fun b : Bk => b.2.getD 0 0).take j) ∨ y = x0 := by
            rw [List.take_add_one, hx2, List.mem_append]
            exact or_congr Iff.rfl List.mem_singleton
          dsimp only
          rw [mm]
          have hy := hf y
          by_cases e : y = x0
          · rw [if_pos e]
            exact ⟨fun _ => rfl, fun h => absurd (.inr e) h, fun h => absurd (.inr e) h⟩
          · rw [if_neg e]
            exact ⟨fun h => hy.1 (h.resolve_right e), fun h => hy.2.1 fun z => h (.inl z), fun h => hy.2.2 fun z => h (.inl z)⟩
        · rintro σ G ⟨v4, rfl, M, f, gw, hf⟩
          rw [nI_len, List.take_length] at hf
          refine ⟨_, rfl, k wl G fwl (exG5 M) ?_⟩
          rw [gw]
          refine congrArg (fun l => some (HO.lst l)) (List.map_congr_left fun x _ => congrArg V.str ?_)
          exact And.right <| invW_eq (by rw [c, Bool.true_and]; exact free_iff) Iff.rfl (hf x)
      · have c : (bs1.any fun b => decide (b.1 = 2)) = false := by
          cases q : bs1.any fun b => decide (b.1 = 2) with
          | false => rfl
          | true => exact absurd (claims_iff.2 q) (of_decide_eq_false c)
        obtain ⟨f, gw, hf⟩ := wa4
        refine ⟨_, rfl, k wl H4 fwl ex4 ?_⟩
        rw [gw]
        refine congrArg (fun l => some (HO.lst l)) (List.map_congr_left fun x _ => congrArg V.str ?_)
        exact And.right <| invW_eq (by rw [c, Bool.false_and]; exact ⟨fun h => h.elim, fun h => by cases h⟩) Iff.rfl (hf x)

end

section
variable {P : Program} {w : World} {K : PySem.W.Frag} {mg : Str → Option Value} {base : Heap} {A : Ad}
theorem rep_nI : ∀ n : Nat, (List.replicate n [V.int 0]).flatten = nI (List.replicate n 0)
  | 0 => rfl
  | n + 1 => by
    rw [List.replicate_succ, List.flatten_cons, rep_nI n, List.replicate_succ]
    rfl
theorem getD_some {l : List Nat} {i : Nat} (h : i < l.length) : l[i]? = some (l.getD i 0) := by
  rw [List.getD_eq_getElem?_getD, List.getElem?_eq_getElem h]
  rfl
theorem sum_cast9 : ∀ l : List Nat, (l.map fun n : Nat => (n : Int)).sum = ((l.sum : Nat) : Int)
  | [] => rfl
  | a :: l => by
    rw [List.map_cons, List.sum_cons, List.sum_cons, sum_cast9 l, Int.natCast_add]
theorem bd_len {n : Nat} {bs : List Bk} (B : Bd n bs) (h : n ≤ 64) : bs.length ≤ 64 := by
  have e := B.pm.length_eq
  rw [List.length_flatMap, List.length_range] at e
  have : ∀ l : List Bk, (∀ x ∈ l, 0 < x.2.length) → l.length ≤ (l.map fun x => x.2.length).sum := fun l => by
    induction l with
    | nil => intro _; exact Nat.le_refl _
    | cons a l ih =>
      intro h
      have h1 := h a (List.mem_cons_self ..)
      have h2 := ih fun x hx => h x (List.mem_cons_of_mem _ hx)
      rw [List.map_cons, List.sum_cons, List.length_cons]
      omega
  have := this bs fun x hx => List.length_pos_iff.2 (B.ne hx)
  omega
theorem nd_pos : ∀ {l : List Bk} {i j : Nat} {b c : Bk} {x : Nat}, (l.flatMap (·.2)).Nodup → l[i]? = some b → l[j]? = some c → x ∈ b.2 → x ∈ c.2 → i = j
  | [], _, _, _, _, _, _, h, _, _, _ => by cases h
  | a :: l, i, j, b, c, x, nd, hi, hj, h1, h2 => by
    rw [List.flatMap_cons] at nd
    obtain ⟨_, n2, n3⟩ := List.nodup_append.1 nd
    cases i with
    | zero =>
      cases j with
      | zero => rfl
      | succ j =>
        cases hi
        exact absurd rfl (n3 x h1 x (List.mem_flatMap.2 ⟨c, List.mem_of_getElem? hj, h2⟩))
    | succ i =>
      cases j with
      | zero =>
        cases hj
        exact absurd rfl (n3 x h2 x (List.mem_flatMap.2 ⟨b, List.mem_of_getElem? hi, h1⟩))
      | succ j => exact congrArg (· + 1) (nd_pos n2 hi hj h1 h2)

theorem ok_law_image (T : Txt K mg A)  (g_law_shape : Okd P w K mg base CX0 1 A.law_shape P_law_shape spShp) : Okd P w K mg base CX0 2 A.law_image P_law_image spIm := by
  obtain ⟨fd, F⟩ := T.d_law_image
  obtain ⟨fd_law_shape, G_law_shape, b_law_shape⟩ := g_law_shape
  refine ⟨fd, F.ok sc_law_image (fun vs H Q E h => ?_) (fun cdv A' outer s H vs Q E hr h => ?_), F.binds fun _ _ _ _ _ _ us hl => match us, hl with | [_], _ => rfl⟩
  · obtain ⟨p, bs, n, rfl, _⟩ := h
    rfl
  · obtain ⟨p, bs, n, rfl, hb, bd, n64, k⟩ := h
    refine ⟨_, (pss_cons (ps_set (i := 1) sc_law_image.nd rfl (Or.inl rfl) (pe_op op_rep (pe_lst (pa_cons pe_int pa_nil)) (pe_callB (cr_sum (by rfl)) (by rfl) T.n_sum (by decide +kernel) (pa_cons (pe_lc (own := [("piece", 2)]) (tt := tYes) (by rfl) sc_law_image.nd (pi_list (pv 0)) (blkOk_by (own := [("piece", 2)]) (N := N_law_image) (sc := defScope s_law_image) (by decide +kernel)) (fun _ _ _ _ _ => (pg_name (i := 2) sc_law_image.nd rfl (Or.inl rfl))) (fun _ _ _ _ _ => pts_nil) (fun _ _ _ _ _ => (pe_callB (call_lenK (K := K) rfl) (by rfl) T.n_len PySem.boot_len (pa_cons (pe_ix (ix_tupK (K := K) rfl) (pv 2) pe_int (fun _ _ => rfl)) pa_nil)))) pa_nil))))
      (pss_cons (ps_for PassesOwn.never rfl (pi_list (pv 0)) (pg_name (i := 2) sc_law_image.nd rfl (Or.inl rfl)) (pss_cons (ps_set (i := 3) sc_law_image.nd rfl (Or.inl rfl) (pe_call G_law_shape (hr.mono (by decide)) (by rfl) T.g_law_shape T.k_law_shape b_law_shape .nil pass0 (pa_cons (pe_ix ix_tup (pv 2) pe_int (fun _ _ => rfl)) pa_nil)))
      (pss_one (ps_for PassesOwn.never rfl (pi_range1 (by rfl) T.n_range (pa_cons (pe_callB call_len_seq (by rfl) T.n_len PySem.boot_len (pa_cons (pv 3) pa_nil)) pa_nil)) (pg_name (i := 4) sc_law_image.nd rfl (Or.inl rfl)) (pss_one (ps_asg (pe_ix ix_tup (pe_ix ix_tup (pv 2) pe_int (fun _ _ => rfl)) (pe_ix ix_list (pv 3) (pv 4) (fun _ _ => rfl)) (fun _ _ => rfl)) (pg_sub (pv 1) (pe_ix ix_tup (pe_ix ix_tup (pv 2) pe_int (fun _ _ => rfl)) (pv 4) (fun _ _ => rfl)) set_list)))))))
      (pss_one (ps_ret (pv 1))))), ?_⟩
    obtain ⟨ts, hp, tl, tk⟩ := hb
    have bl64 : bs.length ≤ 64 := bd_len bd n64
    refine ⟨(by show 1 ≤ sizeLine; decide), fun z0 hz0 => ?_⟩
    have e0 := Ex.new (o := .lst [V.int 0]) hz0
    have gz : upd H z0 (.lst [V.int 0]) z0 = some (.lst [V.int 0]) := upd_same
    have fz := hz0
    generalize upd H z0 (.lst [V.int 0]) = H0 at e0 gz ⊢
    refine ⟨_, rfl, p, rfl, ⟨_, SqL.of (e0 _ _ hp)⟩, fun D hD => ?_⟩
    refine lc_list (K := K) (a := p) (xs := ts.map V.ref) (fun j G => Ex H0 G ∧ ListN G D ((bs.take j).map fun x => x.2.length)) ⟨Ex.new hD, upd_same⟩ (fun j G _ q => SqL.of (q.1 _ _ (e0 _ _ hp))) ?_ ?_
    · rintro j x G hx ⟨eG, gD⟩
      rw [List.getElem?_map] at hx
      cases hk : ts[j]? with
      | none => rw [hk] at hx; cases hx
      | some r =>
      rw [hk] at hx
      cases hx
      have jl := (List.getElem?_eq_some_iff.mp hk).1
      have hb : bs[j]? = some (bs[j]'(by rw [← tl]; exact jl)) := List.getElem?_eq_getElem _
      generalize bs[j]'(by rw [← tl]; exact jl) = b at hb
      obtain ⟨t, h1, h2⟩ := tk j r b hk hb
      have h1 := eG _ _ (e0 _ _ h1)
      have h2 := eG _ _ (e0 _ _ h2)
      refine ⟨rfl, _, rfl, r, _, _, _, rfl, rfl, SqT.of h1, atI_nat (j := 1) rfl, t, _, rfl, .inr (SqT.of h2), _, gD, small1000 (by unfold nI; rw [List.length_map, List.length_map, List.length_take]; omega), ?_⟩
      rw [nI_len]
      exact ⟨fun x o h => by rw [upd_ne (ne_of_none h hD)]; exact eG x o h, by show upd G D _ D = _; rw [upd_same]; unfold nI; rw [List.take_add_one, hb, List.map_append, List.map_append]; rfl⟩
    · rintro G ⟨eG, gD⟩
      rw [List.length_map, tl, List.take_length] at gD
      have ei : nI (bs.map fun x => x.2.length) = ((bs.map fun x => x.2.length).map fun n : Nat => (n : Int)).map V.int := by unfold nI; rw [List.map_map, List.map_map, List.map_map]; rfl
      have es : ((bs.map fun x => x.2.length).map fun n : Nat => (n : Int)).sum = (n : Int) := by
        rw [sum_cast9]
        have h := bd.pm.length_eq
        rw [List.length_flatMap, List.length_range] at h
        rw [← h]
      refine ⟨D, _, rfl, (by rw [← ei]; exact SqL.of gD), ?_⟩
      rw [es]
      have gz2 := eG _ _ gz
      refine ⟨z0, (n : Int), _, rfl, rfl, gz2, by omega, by omega, (by rw [Int.toNat_natCast]; exact Nat.le_trans (show 1 * n ≤ 64 by omega) (by decide)), fun a ha => ?_⟩
      rw [Int.toNat_natCast, show (List.replicate n [V.int 0]).flatten = nI (List.replicate n 0) from rep_nI n]
      have e1 := Ex.new (o := .lst (nI (List.replicate n 0))) ha
      have ga : ListN (upd G a (.lst (nI (List.replicate n 0)))) a (List.replicate n 0) := upd_same
      have e02 := (e0.trans eG).trans e1
      have fa : H a = none := back_none (e0.trans eG) ha
      generalize upd G a (.lst (nI (List.replicate n 0))) = H2 at ga e02 ⊢
      have hp2 := e02 _ _ hp
      have npa : p ≠ a := ne_of_none hp fa
      refine ⟨_, rfl, p, rfl, ⟨_, SqL.of hp2⟩, for_list (K := K) (a := p) (xs := ts.map V.ref) (fun i σ G => ∃ (v2 v3 v4 : Option V) (ys : List Nat), σ = [some (.ref p), some (.ref a), v2, v3, v4] ∧ Ex H G ∧ ListN G a ys ∧ ys.length = n ∧ ∀ m b k, m < i → bs[m]? = some b → k < b.2.length → ys.getD (b.2.getD k 0) 0 = b.2.getD ((shp b.1).getD k 0) 0) ⟨none, none, none, List.replicate n 0, rfl, e02, ga, List.length_replicate, fun m b k h => absurd h (Nat.not_lt_zero m)⟩ (fun i σ G _ ⟨_, _, _, _, _, e, _⟩ => SqL.of (e _ _ hp)) ?_ ?_⟩
      · rintro i x σ G hx ⟨v2, v3, v4, ys, rfl, eG, ga, yl, pv⟩
        rw [List.getElem?_map] at hx
        cases hk : ts[i]? with
        | none => rw [hk] at hx; cases hx
        | some r =>
        rw [hk] at hx
        cases hx
        have il := (List.getElem?_eq_some_iff.mp hk).1
        have hb : bs[i]? = some (bs[i]'(by rw [← tl]; exact il)) := List.getElem?_eq_getElem _
        generalize bs[i]'(by rw [← tl]; exact il) = b at hb
        have hbm := List.mem_of_getElem? hb
        obtain ⟨b15, bsl, bcn⟩ := bd.pw b hbm
        obtain ⟨t, h1, h2⟩ := tk i r b hk hb
        have g1 := eG _ _ h1
        have g2 := eG _ _ h2
        refine ⟨_, rfl, r, _, _, _, rfl, rfl, SqT.of g1, atI_nat (j := 0) rfl, b.1, rfl, b15, fun q G1 nq e1 gq => ?_⟩
        have sp5 := shp_pos b15
        have nqa : q ≠ a := fun e => by rw [e, ga] at nq; cases nq
        refine ⟨_, rfl, q, _, rfl, .inl (SqL.of gq), _, rfl, by rw [nI_len]; omega, by rw [nI_len]; omega, ?_⟩
        rw [Int.toNat_natCast, nI_len]
        refine for_range (lo := 0) (n := (shp b.1).length) (fun j σ G => ∃ (v4 : Option V) (ys : List Nat), σ = [some (.ref p), some (.ref a), some (.ref r), some (.ref q), v4] ∧ Ex H G ∧ ListN G a ys ∧ ListN G q (shp b.1) ∧ ys.length = n ∧ ∀ m c k, (m < i ∨ m = i ∧ k < j) → bs[m]? = some c → k < c.2.length → ys.getD (c.2.getD k 0) 0 = c.2.getD ((shp c.1).getD k 0) 0) ⟨v4, ys, rfl, eG.trans e1, e1 _ _ ga, gq, yl, fun m c k h hc hk => pv m c k (by omega) hc hk⟩ ?_ ?_
        · rintro j σ G hj ⟨v4, ys, rfl, eG, ga, gq, yl, pv⟩
          have g1 := eG _ _ h1
          have g2 := eG _ _ h2
          rw [Int.zero_add]
          have sl : (shp b.1).getD j 0 < b.2.length := by rw [bsl]; exact shp_in b15 j hj
          have jb : j < b.2.length := by rw [bsl]; exact hj
          have s1 : (shp b.1)[j]? = some ((shp b.1).getD j 0) := getD_some hj
          have s2 : b.2[(shp b.1).getD j 0]? = some (b.2.getD ((shp b.1).getD j 0) 0) := getD_some sl
          have s3 : b.2[j]? = some (b.2.getD j 0) := getD_some jb
          have xn : b.2.getD j 0 < n := (bd.mem).2 ⟨b, hbm, List.mem_of_getElem? s3⟩
          refine ⟨_, rfl, r, _, _, _, rfl, rfl, SqT.of g1, atI_nat (j := 1) rfl, _, rfl, _, rfl, q, _, _, _, rfl, rfl, SqL.of gq, atI_nat (j := j) (by unfold nI; rw [List.getElem?_map, s1]; rfl), t, _, _, _, rfl, rfl, SqT.of g2, atI_nat (j := (shp b.1).getD j 0) (by unfold nI; rw [List.getElem?_map, s2]; rfl), ?_⟩
          refine ⟨_, rfl, _, rfl, r, _, _, _, rfl, rfl, SqT.of g1, atI_nat (j := 1) rfl, _, rfl, t, _, _, _, rfl, rfl, SqT.of g2, atI_nat (j := j) (by unfold nI; rw [List.getElem?_map, s3]; rfl), ?_⟩
          have gset : upd G a (.lst ((nI ys).set (b.2.getD j 0) (V.int ((b.2.getD ((shp b.1).getD j 0) 0 : Nat) : Int)))) a = some (.lst (nI (ys.set (b.2.getD j 0) (b.2.getD ((shp b.1).getD j 0) 0)))) := by rw [upd_same]; unfold nI; rw [List.map_set]
          refine ⟨a, _, ((b.2.getD j 0 : Nat) : Int), b.2.getD j 0, rfl, rfl, ga, Evl.ixN_nat (by rw [nI_len, yl]; exact xn), some (V.int (j : Int)), ys.set (b.2.getD j 0) (b.2.getD ((shp b.1).getD j 0) 0), rfl, fun x o h => by rw [upd_ne (ne_of_none h fa)]; exact eG x o h, gset, by show upd G a _ q = _; rw [upd_ne nqa]; exact gq, by rw [List.length_set]; exact yl, fun m c k hmk hc hk => ?_⟩
          have ck : c.2[k]? = some (c.2.getD k 0) := getD_some hk
          by_cases e : c.2.getD k 0 = b.2.getD j 0
          · have mi := nd_pos bd.nd hc hb (List.mem_of_getElem? ck) (by rw [e]; exact List.mem_of_getElem? s3)
            subst mi
            rw [hb] at hc
            cases hc
            have kj : k = j := by
              have ndb := bd.ndb hbm
              rw [e] at ck
              exact (List.getElem?_inj hk ndb).1 (ck.trans s3.symm)
            subst kj
            rw [List.getD_eq_getElem?_getD, List.getElem?_set_self (by rw [yl]; exact xn)]
            rfl
          · rw [List.getD_eq_getElem?_getD, List.getElem?_set_ne (Ne.symm e), ← List.getD_eq_getElem?_getD]
            refine pv m c k ?_ hc hk
            rcases hmk with h | ⟨h, h2⟩
            · exact .inl h
            · refine .inr ⟨h, ?_⟩
              rcases Nat.lt_or_ge k j with h3 | h3
              · exact h3
              · exfalso
                have h4 : k = j := by omega
                rw [h, hb] at hc
                cases hc
                exact e (by rw [h4])
        · rintro σ G ⟨v4, ys, rfl, eG, ga, gq, yl, pv⟩
          exact ⟨_, _, _, ys, rfl, eG, ga, yl, fun m c k h hc hk => pv m c k (by
            by_cases e : m = i
            · right
              refine ⟨e, ?_⟩
              rw [e, hb] at hc
              cases hc
              omega
            · left; omega) hc hk⟩
      · rintro σ G ⟨v2, v3, v4, ys, rfl, eG, ga, yl, pv⟩
        rw [List.length_map] at pv
        refine ⟨_, rfl, k a ys G fa eG ga ⟨bd, yl, fun b hb k hk => ?_⟩⟩
        obtain ⟨m, hm⟩ := List.getElem?_of_mem hb
        exact pv m b k (by rw [tl]; exact (List.getElem?_eq_some_iff.mp hm).1) hm hk

end

section
variable {P : Program} {w : World} {K : PySem.W.Frag} {mg : Str → Option Value} {base : Heap} {A : Ad}
theorem ifc {α : Type} {p q : Prop} [Decidable p] [Decidable q] {a b : α} (h : p ↔ q) : (if p then a else b) = if q then a else b := by
  by_cases c : p
  · rw [if_pos c, if_pos (h.1 c)]
  · rw [if_neg c, if_neg fun z => c (h.2 z)]
theorem in_fp {w : Nat} (h : w < 8) : inV (V.str (wd w)) [V.str (Str.ofString "free"), V.str (Str.ofString "pair")] = decide (w < 2) := by
  rcases w with _ | _ | _ | _ | _ | _ | _ | _ | w
  all_goals first | decide +kernel | omega
theorem rep_al : ∀ n : Nat, (List.replicate n [V.str (Str.ofString "always")]).flatten = (List.range n).map fun _ => V.str "always" := fun n => by
  rw [List.map_const', List.length_range]
  induction n with
  | zero => rfl
  | succ n ih => rw [List.replicate_succ, List.flatten_cons, ih, List.replicate_succ]; rfl

theorem ok_law_by_pieces (T : Txt K mg A)   : Okd P w K mg base CX0 1 A.law_by_pieces P_law_by_pieces spBp9 := by
  obtain ⟨fd, F⟩ := T.d_law_by_pieces

  refine ⟨fd, F.ok sc_law_by_pieces (fun vs H Q E h => ?_) (fun cdv A' outer s H vs Q E hr h => ?_), F.binds fun _ _ _ _ _ _ us hl => match us, hl with | [_, _], _ => rfl⟩
  · obtain ⟨p, bs, n, rfl, _⟩ := h
    rfl
  · obtain ⟨p, bs, n, rfl, hb, bd, n64, ok, k⟩ := h
    refine ⟨_, (pss_cons (ps_set (i := 2) sc_law_by_pieces.nd rfl (Or.inl rfl) (pe_op op_rep (pe_lst (pa_cons pe_str pa_nil)) (pv 1)))
      (pss_cons (ps_for PassesOwn.never rfl (pi_list (pv 0)) (pg_name (i := 3) sc_law_by_pieces.nd rfl (Or.inl rfl)) (pss_one (ps_if (pt_cmpR op_in_seq (pe_ix ix_tup (pv 3) pe_int (fun _ _ => rfl)) (pe_tup (pa_cons pe_str (pa_cons pe_str pa_nil))) (by with_unfolding_all rfl)) (pss_one (ps_for PassesOwn.never rfl (pi_tup (pe_ix ix_tup (pv 3) pe_int (fun _ _ => rfl))) (pg_name (i := 4) sc_law_by_pieces.nd rfl (Or.inl rfl)) (pss_one (ps_asg (pe_ifExp (pt_cmpR op_eq (pe_ix ix_tup (pv 3) pe_int (fun _ _ => rfl)) pe_str (nomark _)) pe_str pe_str) (pg_sub (pv 2) (pv 4) set_list))))) pss_nil)))
      (pss_one (ps_ret (pv 2))))), ?_⟩
    obtain ⟨ts, hp, tl, tk⟩ := hb
    refine ⟨(by show 1 ≤ sizeLine; decide), fun z0 hz0 => ?_⟩
    have e0 := Ex.new (o := .lst [V.str (Str.ofString "always")]) hz0
    have gz : upd H z0 (.lst [V.str (Str.ofString "always")]) z0 = some (.lst [V.str (Str.ofString "always")]) := upd_same
    generalize upd H z0 (.lst [V.str (Str.ofString "always")]) = H0 at e0 gz ⊢
    refine ⟨_, rfl, z0, (n : Int), _, rfl, rfl, gz, by omega, by omega, (by rw [Int.toNat_natCast]; exact Nat.le_trans (show 1 * n ≤ 64 by omega) (by decide)), fun wl hwl => ?_⟩
    rw [Int.toNat_natCast, rep_al]
    have e1 := Ex.new (o := .lst ((List.range n).map fun _ => V.str "always")) hwl
    have w1 : upd H0 wl (.lst ((List.range n).map fun _ => V.str "always")) wl = some (.lst ((List.range n).map fun _ => V.str "always")) := upd_same
    have e01 := e0.trans e1
    have fwl : H wl = none := back_none e0 hwl
    generalize upd H0 wl (.lst ((List.range n).map fun _ => V.str "always")) = H1 at w1 e01 ⊢
    refine ⟨_, rfl, p, rfl, ⟨_, SqL.of (e01 _ _ hp)⟩, for_list (K := K) (a := p) (xs := ts.map V.ref) (fun i σ G => ∃ (v3 v4 : Option V) (f : Nat → Str), σ = [some (.ref p), some (.int (n : Int)), some (.ref wl), v3, v4] ∧ Ex H G ∧ G wl = some (.lst ((List.range n).map fun x => V.str (f x))) ∧ ∀ m b x, bs[m]? = some b → x ∈ b.2 → f x = if m < i then bpw b.1 else "always") ⟨none, none, fun _ => "always", rfl, e01, w1, fun m b x _ _ => by rw [if_neg (Nat.not_lt_zero m)]⟩ (fun i σ G _ ⟨_, _, _, _, e, _⟩ => SqL.of (e _ _ hp)) ?_ ?_⟩
    · rintro i y σ G hi ⟨v3, v4, f, rfl, eG, gw, hf⟩
      rw [List.getElem?_map] at hi
      cases hk : ts[i]? with
      | none => rw [hk] at hi; cases hi
      | some r =>
      rw [hk] at hi
      cases hi
      have il := (List.getElem?_eq_some_iff.mp hk).1
      have hb : bs[i]? = some (bs[i]'(by rw [← tl]; exact il)) := List.getElem?_eq_getElem _
      generalize bs[i]'(by rw [← tl]; exact il) = b at hb
      have hbm := List.mem_of_getElem? hb
      have b8 := ok b hbm
      obtain ⟨t, h1, h2⟩ := tk i r b hk hb
      have g1 := eG _ _ h1
      have ew : ∀ j : Nat, j < 15 → decide (V.str (wd b.1) = V.str (wd j)) = decide (b.1 = j) := fun j hj => wd_eq (by omega) hj
      refine ⟨_, rfl, r, _, _, _, rfl, rfl, SqT.of g1, atI_nat (j := 0) rfl, (by show 2 ≤ sizeLine; decide), fun q hq => ?_⟩
      have f1 := Ex.new (o := .tup [V.str (Str.ofString "free"), V.str (Str.ofString "pair")]) hq
      have gq : upd G q (.tup [V.str (Str.ofString "free"), V.str (Str.ofString "pair")]) q = some (.tup [V.str (Str.ofString "free"), V.str (Str.ofString "pair")]) := upd_same
      have gw1 := f1 _ _ gw
      have eG1 := eG.trans f1
      generalize upd G q (.tup [V.str (Str.ofString "free"), V.str (Str.ofString "pair")]) = G1 at f1 gq gw1 eG1 ⊢
      have h1' := eG1 _ _ h1
      have h2' := eG1 _ _ h2
      refine ⟨_, _, rfl, Or.inr (SqT.of gq), rfl, rfl, _, rfl, ?_⟩
      rw [in_fp b8]
      refine ite_b (fun c => ?_) (fun c => ?_)
      · have c := of_decide_eq_true c
        refine ⟨_, rfl, r, _, _, _, rfl, rfl, SqT.of h1', atI_nat (j := 1) rfl, t, rfl, ⟨_, SqT.of h2'⟩, for_tup (K := K) (a := t) (xs := nI b.2) (fun j σ G => ∃ (v4 : Option V) (f : Nat → Str), σ = [some (.ref p), some (.int (n : Int)), some (.ref wl), some (.ref r), v4] ∧ Ex H G ∧ G wl = some (.lst ((List.range n).map fun x => V.str (f x))) ∧ ∀ m c x, bs[m]? = some c → x ∈ c.2 → f x = if m < i ∨ m = i ∧ x ∈ b.2.take j then bpw c.1 else "always") ⟨v4, f, rfl, eG1, gw1, fun m c x hm hx => by rw [hf m c x hm hx]; exact ifc ⟨.inl, fun h => h.elim id fun h => by cases h.2⟩⟩ (fun j σ G _ ⟨_, _, _, e, _⟩ => SqT.of (e _ _ h2)) ?_ ?_⟩
        · rintro j y σ G hj ⟨v4, f, rfl, eG, gw, hf⟩
          obtain ⟨jl, rfl⟩ := nat_at hj
          have hx2 := getD_some9 jl
          have xl : b.2.getD j 0 < n := bd.mem.2 ⟨b, hbm, List.mem_of_getElem? hx2⟩
          generalize b.2.getD j 0 = x0 at hx2 xl ⊢
          have x0b := List.mem_of_getElem? hx2
          refine ⟨_, rfl, r, _, _, _, rfl, rfl, SqT.of (eG _ _ h1), atI_nat (j := 0) rfl, rfl, _, rfl, ?_⟩
          have step : ∀ v : Str, v = bpw b.1 → ∀ m c x, bs[m]? = some c → x ∈ c.2 → (if x = x0 then v else f x) = if m < i ∨ m = i ∧ x ∈ b.2.take (j + 1) then bpw c.1 else "always" := fun v ev m c x hm hx => by
            by_cases e : x = x0
            · have mi := nd_pos bd.nd hm hb hx (by rw [e]; exact x0b)
              rw [if_pos e, mi, if_pos (.inr ⟨rfl, by rw [List.take_add_one, hx2, e]; exact List.mem_append.2 (.inr (List.mem_singleton.2 rfl))⟩), ev]
              rw [mi, hb] at hm
              cases hm
              rfl
            · rw [if_neg e, hf m c x hm hx]
              refine ifc (or_congr Iff.rfl (and_congr Iff.rfl ?_))
              rw [List.take_add_one, hx2, List.mem_append]
              exact ⟨.inl, fun h => h.elim id fun h => absurd (List.mem_singleton.1 h) e⟩
          show if decide (V.str (wd b.1) = V.str (wd 0)) = true then _ else _
          rw [ew 0 (by decide)]
          refine ite_b (fun d => ?_) (fun d => ?_)
          · refine ⟨_, rfl, _, rfl, wl, _, (x0 : Int), x0, rfl, rfl, gw, Evl.ixN_nat (by rw [List.length_map, List.length_range]; exact xl), some (V.int (x0 : Int)), fun y => if y = x0 then "sometimes" else f y, rfl, fun z o h => by rw [upd_ne (ne_of_none h fwl)]; exact eG _ _ h, by rw [upd_same]; exact congrArg (fun l => some (HO.lst l)) (set_fn xl), step _ ?_⟩
            unfold bpw
            rw [if_pos (of_decide_eq_true d)]
          · refine ⟨_, rfl, _, rfl, wl, _, (x0 : Int), x0, rfl, rfl, gw, Evl.ixN_nat (by rw [List.length_map, List.length_range]; exact xl), some (V.int (x0 : Int)), fun y => if y = x0 then "never" else f y, rfl, fun z o h => by rw [upd_ne (ne_of_none h fwl)]; exact eG _ _ h, by rw [upd_same]; exact congrArg (fun l => some (HO.lst l)) (set_fn xl), step _ ?_⟩
            have d := of_decide_eq_false d
            unfold bpw
            rw [if_neg d, if_pos (by omega)]
        · rintro σ G ⟨v4, f, rfl, eG, gw, hf⟩
          refine ⟨_, _, f, rfl, eG, gw, fun m c x hm hx => ?_⟩
          rw [hf m c x hm hx, nI_len, List.take_length]
          refine ifc ⟨fun h => by omega, fun h => ?_⟩
          by_cases e : m = i
          · right
            rw [e, hb] at hm
            cases hm
            exact ⟨e, hx⟩
          · left; omega
      · have c := of_decide_eq_false c
        refine ⟨_, _, f, rfl, eG1, gw1, fun m c' x hm hx => ?_⟩
        rw [hf m c' x hm hx]
        by_cases e : m = i
        · rw [e, hb] at hm
          cases hm
          rw [if_neg (by omega), if_pos (by omega)]
          unfold bpw
          rw [if_neg (by omega), if_neg (by omega)]
        · exact ifc (by omega)
    · rintro σ G ⟨v3, v4, f, rfl, eG, gw, hf⟩
      rw [List.length_map, tl] at hf
      refine ⟨_, rfl, k wl f G fwl eG gw fun b hb x hx => ?_⟩
      obtain ⟨m, hm⟩ := List.getElem?_of_mem hb
      rw [hf m b x hm hx, if_pos (List.getElem?_eq_some_iff.mp hm).1]

end

section
variable {P : Program} {w : World} {K : PySem.W.Frag} {mg : Str → Option Value} {base : Heap} {A : Ad}
theorem ok_own (T : Txt K mg A)   : Okd P w K mg base CX0 1 A.own P_own spOwn := by
  obtain ⟨fd, F⟩ := T.d_own

  refine ⟨fd, F.ok sc_own (fun vs H Q E h => ?_) (fun cdv A' outer s H vs Q E hr h => ?_), F.binds fun _ _ _ _ _ _ us hl => match us, hl with | [_], _ => rfl⟩
  · obtain ⟨l, xs, rfl, _⟩ := h
    rfl
  · obtain ⟨l, xs, rfl, hl, k⟩ := h
    refine ⟨_, (pss_cons (ps_if (pt_val (pe_callB call_isi (by rfl) T.n_isinstance (by decide +kernel) (pa_cons (pv 0) (pa_cons (pe_bltn (v := .ty "list") (u := .type "list") (by rfl) T.n_list (by decide +kernel) rfl) pa_nil)))) (pss_one (ps_ret (pe_callTy call_list_of (by rfl) T.n_list (by decide +kernel) (pa_cons (pv 0) pa_nil)))) pss_nil)
      (pss_one (ps_ret (pv 0)))), ?_⟩
    refine ⟨_, rfl, _, _, _, _, true, rfl, ClsV.ty "list", TyX.base (TyOf.lst hl), kit_ty (by decide +kernel), _, rfl, ?_⟩
    refine ⟨_, rfl, _, _, rfl, Or.inl (SqL.of hl), fun p hp => k p hp⟩


theorem ok_InvalidImage (T : Txt K mg A)   : Okd P w K mg base CX0 1 A.i_InvalidImage P_InvalidImage (spInit A.InvalidImage "record") := by
  obtain ⟨fd, F⟩ := T.f_InvalidImage.fn

  refine ⟨fd, F.ok sc_InvalidImage (fun vs H Q E h => ?_) (fun cdv A' outer s H vs Q E hr h => ?_), F.binds fun _ _ _ _ _ _ us hl => match us, hl with | [_, _], _ => rfl⟩
  · obtain ⟨a, v, rfl, _⟩ := h
    rfl
  · obtain ⟨a, v, rfl, ha, k⟩ := h
    refine ⟨_, (pss_one (ps_ost (pv 0) (pv 1))), ?_⟩
    exact ⟨_, rfl, _, rfl, a, A.InvalidImage, rfl, T.e_InvalidImage.oex, T.f_InvalidImage.nf, Or.inl ⟨ha, fun dx hdx ne => k dx hdx ne⟩⟩


theorem ok_Unrepairable (T : Txt K mg A)  (g_own : Okd P w K mg base CX0 1 A.own P_own spOwn) : Okd P w K mg base CX0 2 A.i_Unrepairable P_Unrepairable (spInitL A.Unrepairable "group") := by
  obtain ⟨fd, F⟩ := T.f_Unrepairable.fn
  obtain ⟨fd_own, G_own, b_own⟩ := g_own
  refine ⟨fd, F.ok sc_Unrepairable (fun vs H Q E h => ?_) (fun cdv A' outer s H vs Q E hr h => ?_), F.binds fun _ _ _ _ _ _ us hl => match us, hl with | [_, _], _ => rfl⟩
  · obtain ⟨a, l, xs, rfl, _⟩ := h
    rfl
  · obtain ⟨a, l, xs, rfl, ha, hl, k⟩ := h
    refine ⟨_, (pss_one (ps_ost (pv 0) (pe_call G_own (hr.mono (by decide)) (by rfl) T.g_own T.k_own b_own .nil pass0 (pa_cons (pv 1) pa_nil)))), ?_⟩
    refine ⟨_, rfl, l, xs, rfl, hl, fun p hp => ?_⟩
    have ha2 : upd H p (.lst xs) a = some (exo a A.Unrepairable none) := by
      rw [upd_ne (ne_of_none ha hp)]
      exact ha
    exact ⟨_, rfl, a, A.Unrepairable, rfl, T.e_Unrepairable.oex, T.f_Unrepairable.nf, Or.inl ⟨ha2, fun dx hdx ne => k p dx hp hdx ne⟩⟩

end

section
variable {P : Program} {w : World} {K : PySem.W.Frag} {mg : Str → Option Value} {base : Heap} {A : Ad}
theorem ok_check_image (T : Txt K mg A)  (g_InvalidImage : Okd P w K mg base CX0 1 A.i_InvalidImage P_InvalidImage (spInit A.InvalidImage "record")) : Okd P w K mg base (L2N.CX P w) 3 A.check_image P_check_image (spCI2 A) := by
  obtain ⟨fd, F⟩ := T.d_check_image
  obtain ⟨fd_InvalidImage, G_InvalidImage, b_InvalidImage⟩ := g_InvalidImage
  refine ⟨fd, F.okN sc_check_image (fun vs H Q E h => ?_) (fun cdv A' outer s H vs Q E hr h => ?_), F.binds fun _ _ _ _ _ _ us hl => match us, hl with | [_], _ => rfl⟩
  · obtain ⟨a, xs, rfl, _⟩ := h
    rfl
  · obtain ⟨a, xs, rfl, hx, hl, kq, kr⟩ := h
    refine ⟨_, (pss_cons (ps_set (i := 1) sc_check_image.nd rfl (Or.inl rfl) (pe_callB call_len_seq (by rfl) T.n_len PySem.boot_len (pa_cons (pv 0) pa_nil)))
      (pss_one (ps_for (passes_of rfl) rfl (pi_enum (by rfl) T.n_enumerate (pa_cons (pv 0) pa_nil)) (pg_tup (by rfl) (pgs_cons (pg_name (i := 2) sc_check_image.nd rfl (Or.inl rfl)) (pgs_cons (pg_name (i := 3) sc_check_image.nd rfl (Or.inl rfl)) pgs_nil))) (pss_one (ps_if (PW.pt (pw_or (pt_cmpR op_lt (pv 3) pe_int (nomark _)) (pw_or1 (pt_cmpR op_ge (pv 3) (pv 1) (nomark _))))) (pss_one (L2N.ps_raise rfl (L2N.takes_of rfl rfl rfl rfl) (L2N.pmk_oexN T.e_InvalidImage.oex T.f_InvalidImage.i T.f_InvalidImage.t G_InvalidImage (hr.mono (by decide)) b_InvalidImage pass0 rfl T.e_InvalidImage.g (pa_cons (pv 2) pa_nil)))) pss_nil))))), ?_⟩
    refine ⟨_, rfl, _, _, rfl, Or.inl (SqL.of hx), ?_⟩
    refine ⟨_, rfl, _, _, rfl, SqL.of hx, for_it walk_enum (fun i σ H' => ∃ v1 v2 : Option V, σ = [some (.ref a), some (.int ((xs.map V.int).length : Int)), v1, v2] ∧ Ex H H' ∧ ∀ j, j < i → badN xs j = false)
      ⟨none, none, rfl, Ex.refl H, fun j hj => absurd hj (Nat.not_lt_zero _)⟩ (fun i σ H' _ ⟨_, _, _, e, _⟩ => SqL.of (e _ _ hx)) ?_ ?_⟩
    · rintro i x σ H' H2 hi ⟨v1, v2, rfl, e, nb⟩ ⟨T0, y1, y2, rfl, hT, rfl, e1, e2⟩
      rw [List.length_map] at hi
      obtain ⟨z, hz, rfl⟩ := markV_int e2
      cases e1
      have hbad : badN xs i = (decide (z < 0) || decide ((xs.length : Int) ≤ z)) := by
        unfold badN
        rw [strip_getD_of hz]
      have raise : badN xs i = true → ∀ d H3, Ex (upd H' T0 (.tup [.int (i : Nat), .int z])) H3 → H3 d = some (.xd [("record", .int (i : Int))]) → E (.ref A.InvalidImage) (some d) H3 := fun hb d H3 ex hd =>
        kr i (firstOf_some hi hb nb) d H3 ((ex_new e hT).trans ex) hd
      refine ⟨T0, _, rfl, SqT.of upd_same, rfl, _, _, rfl, _, _, rfl, rfl, ?_⟩
      walk_at "r"
      refine ite_b (fun c => ?_) (fun c => ?_)
      · exact ⟨_, rfl, (by show 1 ≤ 1000; decide), mkO_go (raise (by rw [hbad, c]; rfl))⟩
      walk_at "r"
      rw [List.length_map]
      refine ite_b (fun c2 => ?_) (fun c2 => ?_)
      · exact ⟨_, rfl, (by show 1 ≤ 1000; decide), mkO_go (raise (by rw [hbad, c2, Bool.or_true]))⟩
      refine ⟨_, _, rfl, ex_new e hT, fun j hj => ?_⟩
      by_cases hji : j = i
      · rw [hji, hbad, c, c2]
        rfl
      · exact nb j (by omega)
    · rintro σ H' ⟨v1, v2, rfl, e, nb⟩
      rw [List.length_map] at nb
      exact kq (firstOf_none nb) H' e

end

section
variable {P : Program} {w : World} {K : PySem.W.Frag} {mg : Str → Option Value} {base : Heap} {A : Ad}
theorem ok_least_records (T : Txt K mg A)   : Okd P w K mg base CX0 1 A.least_records P_least_records spLR := by
  obtain ⟨fd, F⟩ := T.d_least_records

  refine ⟨fd, F.ok sc_least_records (fun vs H Q E h => ?_) (fun cdv A' outer s H vs Q E hr h => ?_), F.binds fun _ _ _ _ _ _ us hl => match us, hl with | [_], _ => rfl⟩
  · obtain ⟨a, ys, rfl, _⟩ := h
    rfl
  · obtain ⟨a, ys, rfl, hx, hl, hb, k⟩ := h
    refine ⟨_, (pss_cons (ps_set (i := 1) sc_least_records.nd rfl (Or.inl rfl) (pe_listRg (by rfl) (by rfl) T.n_list (prg_1 (by rfl) T.n_range (pe_callB call_len_seq (by rfl) T.n_len PySem.boot_len (pa_cons (pv 0) pa_nil)))))
      (pss_cons (ps_for PassesOwn.never rfl (pi_enum (by rfl) T.n_enumerate (pa_cons (pv 0) pa_nil)) (pg_tup (by rfl) (pgs_cons (pg_name (i := 2) sc_least_records.nd rfl (Or.inl rfl)) (pgs_cons (pg_name (i := 3) sc_least_records.nd rfl (Or.inl rfl)) pgs_nil))) (pss_cons (ps_set (i := 4) sc_least_records.nd rfl (Or.inr rfl) (pe_callB (call_min2 (by rfl)) (by rfl) T.n_min (by decide +kernel) (pa_cons (pe_ix ix_list (pv 1) (pv 2) (fun _ _ => rfl)) (pa_cons (pe_ix ix_list (pv 1) (pv 3) (fun _ _ => rfl)) pa_nil))))
      (pss_cons (ps_set (i := 5) sc_least_records.nd rfl (Or.inr rfl) (pe_callB (call_max2 (by rfl)) (by rfl) T.n_max (by decide +kernel) (pa_cons (pe_ix ix_list (pv 1) (pv 2) (fun _ _ => rfl)) (pa_cons (pe_ix ix_list (pv 1) (pv 3) (fun _ _ => rfl)) pa_nil))))
      (pss_one (ps_if (pt_cmpR op_ne (pv 4) (pv 5) (nomark _)) (pss_one (ps_setLc (i := 1) (own := [("old", 6)]) (tt := tYes) (by rfl) sc_least_records.nd rfl rfl (sw_true rfl rfl rfl (by decide +kernel)) (pi_list (pv 1)) (blkOk_by (own := [("old", 6)]) (N := N_least_records) (sc := defScope s_least_records) (by decide +kernel)) (fun _ _ _ _ _ => (pg_name (i := 6) sc_least_records.nd rfl (Or.inl rfl))) (fun _ _ _ _ _ => pts_nil) (fun _ _ _ _ _ => (pe_ifExp (pt_cmpR op_eq (pv 6) (pv 5) (nomark _)) (pv 4) (pv 6))))) pss_nil)))))
      (pss_one (ps_ret (pv 1))))), ?_⟩
    have hlab : ∀ i, (lab ys i).length = ys.length := fun i => by
      induction i with
      | zero => exact List.length_range
      | succ i ih =>
        show (stepL (lab ys i) i (ys.getD i 0)).length = _
        unfold stepL
        split
        · exact ih
        · rw [List.length_map]
          exact ih
    have hn : (nI ys).length = ys.length := nI_len ys
    refine ⟨_, rfl, _, _, rfl, Or.inl (SqL.of hx), ?_⟩
    refine ⟨_, rfl, RgOk.of_le (by decide) (by rw [hn]; omega) (by decide) (by rw [hn]; omega), fun p0 hp0 => ?_⟩
    have hp1 : ListN (upd H p0 (.lst (rgV 0 ((nI ys).length : Int)))) p0 (lab ys 0) := by
      show upd H p0 _ p0 = _
      rw [upd_same, hn, rgV_map, List.map_map]
      rfl
    have e0 := Ex.new (o := .lst (rgV 0 ((nI ys).length : Int))) hp0
    generalize L2.upd H p0 _ = H0 at *
    have hx0 := hx.ex e0
    refine ⟨_, rfl, _, _, rfl, hx0.sz, for_it walk_enum (fun i σ H' => ∃ (p : Addr) (v2 v3 v4 v5 v6 : Option V), σ = [some (.ref a), some (.ref p), v2, v3, v4, v5, v6] ∧ Ex H H' ∧ H p = none ∧ ListN H' p (lab ys i))
      ⟨p0, none, none, none, none, none, rfl, e0, hp0, hp1⟩ (fun i σ H' _ ⟨_, _, _, _, _, _, _, e, _⟩ => (hx.ex e).sz) ?_ ?_⟩
    · rintro i x σ H' H2 hi ⟨p, v2, v3, v4, v5, v6, rfl, e, hp, hL⟩ ⟨T0, y1, y2, rfl, hT, rfl, e1, e2⟩
      obtain ⟨hi2, rfl⟩ := nat_at e2
      cases e1
      have hlt := hb i hi2
      have hL1 : ListN (upd H' T0 (.tup [.int (i : Nat), .int (ys.getD i 0 : Nat)])) p (lab ys i) := hL.ex (Ex.new hT)
      have e1 := ex_new (o := .tup [.int (i : Nat), .int (ys.getD i 0 : Nat)]) e hT
      have hlen : (lab ys i).length = ys.length := hlab i
      refine ⟨T0, _, rfl, SqT.of upd_same, rfl, _, _, rfl, _, _, rfl, rfl, ?_⟩
      generalize L2.upd H' T0 _ = G at *
      refine ⟨_, rfl, _, rfl, _, _, _, _, rfl, rfl, hL1.sz, atN (by omega), _, rfl, _, rfl, _, _, _, _, rfl, rfl, hL1.sz, atN (by omega), _, _, rfl, ?_⟩
      refine ⟨_, rfl, _, rfl, _, _, _, _, rfl, rfl, hL1.sz, atN (by omega), _, rfl, _, rfl, _, _, _, _, rfl, rfl, hL1.sz, atN (by omega), _, _, rfl, ?_⟩
      have hmin : (if (((lab ys i).getD (ys.getD i 0) 0 : Nat) : Int) < (((lab ys i).getD i 0 : Nat) : Int) then (((lab ys i).getD (ys.getD i 0) 0 : Nat) : Int) else (((lab ys i).getD i 0 : Nat) : Int)) = ((min ((lab ys i).getD i 0) ((lab ys i).getD (ys.getD i 0) 0) : Nat) : Int) := by
        split <;> omega
      have hmax : (if (((lab ys i).getD (ys.getD i 0) 0 : Nat) : Int) > (((lab ys i).getD i 0 : Nat) : Int) then (((lab ys i).getD (ys.getD i 0) 0 : Nat) : Int) else (((lab ys i).getD i 0 : Nat) : Int)) = ((max ((lab ys i).getD i 0) ((lab ys i).getD (ys.getD i 0) 0) : Nat) : Int) := by
        split <;> omega
      rw [hmin, hmax]
      have hstep : lab ys (i + 1) = stepL (lab ys i) i (ys.getD i 0) := rfl
      unfold stepL at hstep
      generalize min ((lab ys i).getD i 0) ((lab ys i).getD (ys.getD i 0) 0) = lo at *
      generalize max ((lab ys i).getD i 0) ((lab ys i).getD (ys.getD i 0) 0) = up at *
      refine ⟨_, rfl, _, rfl, rfl, _, rfl, ?_⟩
      refine ite_b (fun c => ?_) (fun c => ?_)
      · have hne : lo ≠ up := fun z => by rw [z] at c; simp at c
        rw [if_neg hne] at hstep
        refine ⟨_, rfl, p, rfl, ⟨_, hL1.sz⟩, fun D hD => lc_list (K := K) (a := p) (xs := nI (lab ys i)) (fun j H' => Ex G H' ∧ ListN H' D (((lab ys i).take j).map fun o => if o = up then lo else o)) ⟨Ex.new hD, upd_same⟩ (fun j H' _ q => (hL1.ex q.1).sz) ?_ ?_⟩
        · rintro j y H' hj ⟨e3, hd⟩
          obtain ⟨hj2, rfl⟩ := nat_at hj
          refine ⟨rfl, _, rfl, _, rfl, rfl, _, rfl, ?_⟩
          have fin : ∀ v : Nat, (if (lab ys i).getD j 0 = up then lo else (lab ys i).getD j 0) = v → ∃ acc, H' D = some (.lst acc) ∧ acc.length < sizeLine ∧ Ex G (upd H' D (.lst (acc ++ [V.int (v : Int)]))) ∧ ListN (upd H' D (.lst (acc ++ [V.int (v : Int)]))) D (((lab ys i).take (j + 1)).map fun o => if o = up then lo else o) := fun v hv => by
            refine ⟨_, hd, small1000 (by rw [nI_len, List.length_map, List.length_take]; omega), fun b o hb => ?_, ?_⟩
            · rw [upd_ne (ne_of_none hb hD)]
              exact e3 b o hb
            · show upd H' D _ D = _
              rw [upd_same, List.take_add_one, List.getElem?_eq_getElem hj2]
              have hg : (lab ys i)[j] = (lab ys i).getD j 0 := by rw [List.getD_eq_getElem?_getD, List.getElem?_eq_getElem hj2]; rfl
              unfold nI
              rw [List.map_append, List.map_append, Option.toList_some, hg]
              show _ = some (HO.lst (_ ++ [V.int ((if (lab ys i).getD j 0 = up then lo else (lab ys i).getD j 0 : Nat) : Int)]))
              rw [hv]
          refine ite_b (fun c2 => ?_) (fun c2 => ?_)
          · have h2 : (lab ys i).getD j 0 = up := by
              have c3 := of_decide_eq_true c2
              injection c3 with c3
              omega
            exact ⟨_, rfl, fin lo (if_pos h2)⟩
          · have h2 : ¬ (lab ys i).getD j 0 = up := fun z => (of_decide_eq_false c2) (by rw [z])
            exact ⟨_, rfl, fin _ (if_neg h2)⟩
        · rintro H' ⟨e3, hd⟩
          have e4 := e1.trans e3
          refine ⟨D, _, _, _, _, _, rfl, e4, fresh_back e1 hD, ?_⟩
          rw [hstep]
          have hz : (nI (lab ys i)).length = (lab ys i).length := nI_len _
          rw [hz, List.take_length] at hd
          exact hd
      · have he : lo = up := by
          by_cases h : lo = up
          · exact h
          · exfalso
            have : decide (V.int (lo : Int) = V.int (up : Int)) = false := decide_eq_false (fun z => h (by injection z with z; omega))
            rw [this] at c
            cases c
        rw [if_pos he] at hstep
        exact ⟨p, _, _, _, _, _, rfl, e1, hp, by rw [hstep]; exact hL1⟩
    · rintro σ H' ⟨p, v2, v3, v4, v5, v6, rfl, e, hp, hL⟩
      rw [hn] at hL
      exact ⟨_, rfl, k p H' hp e hL⟩

end

section
variable {P : Program} {w : World} {K : PySem.W.Frag} {mg : Str → Option Value} {base : Heap} {A : Ad}
theorem ok_groups (T : Txt K mg A)  (g_check_image : Okd P w K mg base (L2N.CX P w) 3 A.check_image P_check_image (spCI2 A)) (g_least_records : Okd P w K mg base CX0 1 A.least_records P_least_records spLR) : Okd P w K mg base (L2N.CX P w) 4 A.groups P_groups (spGr2 A) := by
  obtain ⟨fd, F⟩ := T.d_groups
  obtain ⟨fd_check_image, G_check_image, b_check_image⟩ := g_check_image
  obtain ⟨fd_least_records, G_least_records, b_least_records⟩ := g_least_records
  refine ⟨fd, F.okN sc_groups (fun vs H Q E h => ?_) (fun cdv A' outer s H vs Q E hr h => ?_), F.binds fun _ _ _ _ _ _ us hl => match us, hl with | [_], _ => rfl⟩
  · obtain ⟨a, xs, rfl, _⟩ := h
    rfl
  · obtain ⟨a, xs, rfl, hx, hl, kq, kr⟩ := h
    refine ⟨_, (pss_cons (ps_expr (pe_callS G_check_image (hr.mono (by decide)) rfl T.g_check_image T.k_check_image b_check_image (fun σ => L2N.passAt (L2N.takes_of rfl rfl rfl rfl) σ) (pa_cons (pv 0) pa_nil)))
      (pss_cons (ps_set (i := 1) sc_groups.nd rfl (Or.inl rfl) pe_dnewK)
      (pss_cons (ps_for (passes_of rfl) rfl (pi_enum (by rfl) T.n_enumerate (pa_cons (pe_call G_least_records (hr.mono (by decide)) (by rfl) T.g_least_records T.k_least_records b_least_records .nil pass0 (pa_cons (pv 0) pa_nil)) pa_nil)) (pg_tup (by rfl) (pgs_cons (pg_name (i := 2) sc_groups.nd rfl (Or.inl rfl)) (pgs_cons (pg_name (i := 3) sc_groups.nd rfl (Or.inl rfl)) pgs_nil))) (pss_one (ps_expr (pe_bm PySem.F.plainAttrs_list PySem.F.slot_list_append PySem.F.type_list_append mt_append (pe_dsetd (pv 1) (pv 3) (pe_lst pa_nil) ⟨rfl, rfl, rfl, rfl⟩) (pa_cons (pv 2) pa_nil)))))
      (pss_one (ps_ret (pe_listVals (by rfl) (pv 1) (by rfl) T.n_list)))))), ?_⟩
    refine ⟨_, rfl, a, xs, rfl, hx, hl, fun hok H1 e1 => ?_, kr⟩
    have hnat := natI_at' hok hx
    have hrec := natI_rec hok
    have kq := kq hok
    have hl : (natI xs).length ≤ 64 := by rw [natI_len]; exact hl
    generalize natI xs = ys at *
    have hx := hnat
    have hn := nI_len ys
    have LG := labG_ok hrec ys.length (Nat.le_refl _)
    refine fun d hd => ?_
    have e2 : Ex H (upd H1 d (.dK [])) := ex_new e1 hd
    refine ⟨_, rfl, a, ys, rfl, hx.ex e2, hl, hrec, fun p H3 hp e3 hL => ?_⟩
    have hpd : p ≠ d := fun z => by
      rw [z, upd_same] at hp
      cases hp
    have hlab : (lab ys ys.length).length = ys.length := LG.len
    have G0 : GstF (labF ys) 0 H3 H3 d [] := ⟨e3 d _ upd_same, rfl, List.nodup_nil, (fun x hx => nomatch hx), Mut.refl d H3⟩
    have e4 : Ex H H3 := e2.trans e3
    have hd0 : H d = none := fresh_back e1 hd
    clear hp e2
    refine ⟨_, _, rfl, hL.sz, for_it walk_enum (fun i σ H' => ∃ (gs : List (Nat × Addr)) (v2 v3 : Option V), σ = [some (.ref a), some (.ref d), v2, v3] ∧ GstF (labF ys) i H3 H' d gs)
      ⟨[], none, none, rfl, G0⟩ (fun i σ H' _ ⟨_, _, _, _, G⟩ => SqL.of (G.mt p _ hpd hL)) ?_ ?_⟩
    · rintro i x σ H' H2 hi ⟨gs, v2, v3, rfl, G⟩ ⟨T0, y1, y2, rfl, hT, rfl, e1, e2⟩
      obtain ⟨hi2, rfl⟩ := nat_at e2
      cases e1
      rw [hlab] at hi2
      have hb : (lab ys ys.length).getD i 0 = labF ys i := rfl
      rw [hb]
      have G1 := G.tup (o := .tup [.int (i : Nat), .int (labF ys i : Nat)]) hT
      refine ⟨T0, _, rfl, SqT.of upd_same, rfl, _, _, rfl, _, _, rfl, rfl, ?_⟩
      generalize L2.upd H' T0 _ = G' at *
      have hgl : gs.length ≤ i := by
        have e := congrArg List.length G.keys
        rw [List.length_map] at e
        have := List.length_filter_le (fun x => decide (labF ys x = x)) (List.range i)
        rw [List.length_range] at this
        omega
      have hroot : labF ys (labF ys i) = labF ys i := LG.idem i hi2
      refine ⟨_, rfl, d, rfl, Or.inl ⟨_, Or.inl G1.kv⟩, _, rfl, (by decide), fun z hz => ⟨kvG gs, Sum.inl (labF ys i : Nat), (G1.tup hz).kv, rfl, small1000 (by unfold kvG; rw [List.length_map]; omega), fun v hv => ?_, fun hn => ?_⟩⟩
      · obtain ⟨c, hc, rfl⟩ := kvG_some hv
        have G2 := G1.tup hz (o := .lst [])
        obtain ⟨_, _, hcl⟩ := G2.at_ _ hc
        have hfl := List.length_filter_le (fun y => decide (labF ys y = labF ys i)) (List.range i)
        rw [List.length_range] at hfl
        exact ⟨Or.inl ⟨rfl, _, SqL.of hcl⟩, _, rfl, _, _, _, rfl, rfl, hcl, small1000 (by rw [nI_len]; exact Nat.le_trans hfl (by omega)), gs, _, _, rfl, G2.old hc⟩
      · have hno := kvG_none hn
        have FR := G1.fresh (fun x hx => LG.le x (by omega)) hroot (z := z) hno hz
        rw [kvG_put hno, FR.1]
        have hzd : z ≠ d := fun e => by
          rw [e, G1.kv] at hz
          cases hz
        have hz1 : upd (upd G' z (.lst [])) d (.dK (kvG (gs ++ [(i, z)]))) z = some (.lst []) := by rw [upd_ne hzd, upd_same]
        exact ⟨Or.inl ⟨rfl, _, SqL.of hz1⟩, _, rfl, _, _, _, rfl, rfl, hz1, by decide, gs ++ [(i, z)], _, _, rfl, FR.2⟩
    · rintro σ H' ⟨gs, v2, v3, rfl, G⟩
      rw [nI_len, hlab] at G
      refine ⟨_, rfl, d, kvG gs, rfl, G.kv, fun q hq => ?_⟩
      have keep : ∀ b o, H b = some o → H' b = some o := fun b o hb => G.mt b o (fun z => by rw [z, hd0] at hb; cases hb) (e4 b o hb)
      have hq0 : H q = none := by
        cases e : H q with
        | none => rfl
        | some o =>
          rw [keep q o e] at hq
          cases hq
      refine kq q gs _ hq0 (ex_new keep hq) ⟨?_, G.keys, fun x hx => ?_⟩
      · rw [upd_same]
        unfold kvG
        rw [List.map_map]
        rfl
      · obtain ⟨g1, g2, g3⟩ := G.at_ x hx
        refine ⟨?_, ne_of_none g3 hq, ?_⟩
        · cases e : H x.2 with
          | none => rfl
          | some o =>
            rw [e4 _ o e] at g1
            cases g1
        · exact ListN.ex (Ex.new hq) g3

end

section
variable {P : Program} {w : World} {K : PySem.W.Frag} {mg : Str → Option Value} {base : Heap} {A : Ad}
theorem ok_row_of (T : Txt K mg A)   : Okd P w K mg base CX0 1 A.row_of P_row_of spRow2 := by
  obtain ⟨fd, F⟩ := T.d_row_of

  refine ⟨fd, F.ok sc_row_of (fun vs H Q E h => ?_) (fun cdv A' outer s H vs Q E hr h => ?_), F.binds fun _ _ _ _ _ _ us hl => match us, hl with | [_, _], _ => rfl⟩
  · obtain ⟨a, g, ys, gp, rfl, _⟩ := h
    rfl
  · obtain ⟨a, g, ys, gp, rfl, hx, hl, hg, hG, hlt, k⟩ := h
    refine ⟨_, (pss_cons (ps_set (i := 2) sc_row_of.nd rfl (Or.inr rfl) (pe_lc (own := [("record", 6)]) (tt := tYes) (by rfl) sc_row_of.nd (pi_list (pv 1)) (blkOk_by (own := [("record", 6)]) (N := N_row_of) (sc := defScope s_row_of) (by decide +kernel)) (fun _ _ _ _ _ => (pg_name (i := 6) sc_row_of.nd rfl (Or.inl rfl))) (fun _ _ _ _ _ => pts_nil) (fun _ _ _ _ _ => (pe_ix (ix_listK (K := K) rfl) (pv 0) (pv 6) (fun _ _ => rfl)))))
      (pss_cons (ps_setLc (i := 3) (own := [("record", 6)]) (tt := _) (by rfl) sc_row_of.nd rfl rfl (sw_true rfl rfl rfl (by decide +kernel)) (pi_list (pv 1)) (blkOk_by (own := [("record", 6)]) (N := N_row_of) (sc := defScope s_row_of) (by decide +kernel)) (fun _ _ _ _ _ => (pg_name (i := 6) sc_row_of.nd rfl (Or.inl rfl))) (fun _ _ _ _ _ => (pts_one (pt_cmpR (op_notInK (K := K) rfl) (pv 6) (pv 2) (by with_unfolding_all rfl)))) (fun _ _ _ _ _ => (pv 6)))
      (pss_cons (ps_set (i := 4) sc_row_of.nd rfl (Or.inl rfl) (pe_ifExp (pt_truth (pv 3) (by intro _; rfl)) (pe_ix ix_list (pv 3) pe_int (fun _ _ => rfl)) (pe_ix ix_list (pv 1) pe_int (fun _ _ => rfl))))
      (pss_cons (ps_set (i := 5) sc_row_of.nd rfl (Or.inr rfl) (pe_lst pa_nil))
      (pss_cons (ps_while PassesOwn.never (pt_cmpR op_notIn_seq (pv 4) (pv 5) (by with_unfolding_all rfl)) (pss_cons (ps_expr (pe_bm PySem.F.plainAttrs_list PySem.F.slot_list_append PySem.F.type_list_append mt_append (pv 5) (pa_cons (pv 4) pa_nil)))
      (pss_one (ps_set (i := 4) sc_row_of.nd rfl (Or.inl rfl) (pe_ix ix_list (pv 0) (pv 4) (fun _ _ => rfl))))))
      (pss_one (ps_ret (pe_op op_cat (pv 5) (pe_lc (own := [("record", 6)]) (tt := _) (by rfl) sc_row_of.nd (pi_list (pv 1)) (blkOk_by (own := [("record", 6)]) (N := N_row_of) (sc := defScope s_row_of) (by decide +kernel)) (fun _ _ _ _ _ => (pg_name (i := 6) sc_row_of.nd rfl (Or.inl rfl))) (fun _ _ _ _ _ => (pts_one (pt_cmpR (op_notInK (K := K) rfl) (pv 6) (pv 5) (by with_unfolding_all rfl)))) (fun _ _ _ _ _ => (pv 6))))))))))), ?_⟩
    have hg0 : gN ys = fun x => ys.getD x 0 := rfl
    have h64 : gp.length ≤ 64 := by
      have := nd_len (gp := List.range ys.length) hG.nd fun x hx => List.mem_range.mpr (hlt x hx)
      rw [List.length_range] at this
      omega
    have hlt' : ∀ j, j < gp.length → gp.getD j 0 < ys.length := fun j hj => hlt _ (getD_mem hj)
    rw [hg0] at hG k
    have hs1 := hG.start_1
    have hs2 := Gp.start_2 (g := fun x => ys.getD x 0) (gp := gp)
    have hw0 : wk (fun x => ys.getD x 0) (gp.length + 1) (startF (fun x => ys.getD x 0) gp) [] = walkF (fun x => ys.getD x 0) gp := rfl
    have hrow : rowF (fun x => ys.getD x 0) gp = walkF (fun x => ys.getD x 0) gp ++ gp.filter fun x => !(walkF (fun x => ys.getD x 0) gp).contains x := rfl
    have hst := hG.start
    refine ⟨_, rfl, g, rfl, ⟨_, hg.sz⟩, fun D hD => lc_list (K := K) (a := g) (xs := nI gp) (fun j H' => Ex H H' ∧ ListN H' D ((gp.take j).map fun y => ys.getD y 0)) ⟨Ex.new hD, upd_same⟩ (fun j H' _ q => (hg.ex q.1).sz) ?_ ?_⟩
    · rintro j y H' hj ⟨e3, hd⟩
      obtain ⟨hj2, rfl⟩ := nat_at hj
      refine ⟨rfl, _, rfl, _, rfl, _, _, _, _, rfl, rfl, (hx.ex e3).sz, atN (hlt' j hj2), ?_⟩
      refine ⟨_, hd, small1000 (by rw [nI_len, List.length_map, List.length_take]; omega), ?_⟩
      rw [take_map_succ hj2]
      exact acc_step hD e3
    rintro H1 ⟨e1, h1⟩
    rw [nI_len, List.take_length] at h1
    have hD0 : H D = none := hD
    refine ⟨_, rfl, g, rfl, ⟨_, (hg.ex e1).sz⟩, fun D2 hD2 => lc_list (K := K) (a := g) (xs := nI gp) (fun j H' => Ex H1 H' ∧ ListN H' D2 ((gp.take j).filter fun x => !(gp.map fun y => ys.getD y 0).contains x)) ⟨Ex.new hD2, upd_same⟩ (fun j H' _ q => (hg.ex (e1.trans q.1)).sz) ?_ ?_⟩
    · rintro j y H' hj ⟨e3, hd⟩
      obtain ⟨hj2, rfl⟩ := nat_at hj
      have f1 : ListN H' D (gp.map fun y => ys.getD y 0) := h1.ex e3
      refine ⟨rfl, _, rfl, _, rfl, _, _, rfl, Or.inl (SqL.of f1), rfl, flat_nI _, _, rfl, ?_⟩
      show if (!inV _ _) = true then _ else _
      rw [inV_nI]
      refine ite_b (fun c => ?_) (fun c => ?_)
      · refine ⟨_, rfl, _, hd, small1000 (by rw [nI_len]; have := List.length_filter_le (fun x => !(gp.map fun y => ys.getD y 0).contains x) (gp.take j); rw [List.length_take] at this; omega), ?_⟩
        rw [take_filter_pos hj2 c]
        exact acc_step hD2 e3
      · rw [take_filter_neg hj2 c]
        exact ⟨e3, hd⟩
    rintro H2 ⟨e2, h2⟩
    rw [nI_len, List.take_length] at h2
    generalize hT : (gp.filter fun x => !(gp.map fun y => ys.getD y 0).contains x) = TT at *
    have hh : ∀ {L : List Nat} {v : Nat}, L.head? = some v → atI (nI L) (0 : Int) = some (V.int (v : Int)) := fun {L v} h => by
      cases L with
      | nil => cases h
      | cons x L =>
        injection h with h
        subst h
        exact atN (xs := x :: L) (j := 0) (Nat.succ_pos _)
    generalize startF (fun x => ys.getD x 0) gp = sf at *
    generalize walkF (fun x => ys.getD x 0) gp = pp at *
    refine ⟨_, rfl, _, Or.inl ⟨_, SqL.of h2, rfl⟩, ite_b (fun c => ⟨_, rfl, _, _, _, _, rfl, rfl, SqL.of h2, hh (hs2 (fun z => by rw [z] at c; cases c)), ?_⟩) (fun c => ⟨_, rfl, _, _, _, _, rfl, rfl, (hg.ex (e1.trans e2)).sz, hh (hs1 (by cases TT with | nil => rfl | cons _ _ => cases c)), ?_⟩)⟩
    all_goals
      refine ⟨by decide, fun r hr0 => ?_⟩
      have e3 : Ex H (upd H2 r (.lst [])) := (e1.trans e2).trans (Ex.new hr0)
      have hrn : H r = none := fresh_back (e1.trans e2) hr0
      refine ⟨fun m σ H' => ∃ (h : Nat) (R : List Nat) (v6 : Option V), wk (fun x => ys.getD x 0) m h R = pp ∧ gp.length + 1 = m + R.length ∧ R.Nodup ∧ (∀ x ∈ R, x ∈ gp) ∧ h ∈ gp ∧ σ = [some (.ref a), some (.ref g), some (.ref D), some (.ref D2), some (.int (h : Int)), some (.ref r), v6] ∧ Ex H H' ∧ ListN H' r R, ⟨gp.length + 1, sf, [], none, hw0, rfl, List.nodup_nil, (fun _ h => nomatch h), hst, rfl, e3, upd_same⟩, ?_⟩
      rintro m σ H' ⟨h, R, v6, hwk, hm, hnd, hsub, hin, rfl, e, hr⟩
      have hRl := nd_len hnd hsub
      refine ⟨_, rfl, _, rfl, _, _, rfl, Or.inl (SqL.of hr), rfl, flat_nI _, _, rfl, ?_⟩
      show if (!inV _ _) = true then _ else _
      rw [inV_nI]
      cases m with
      | zero => exfalso; omega
      | succ m =>
      unfold wk at hwk
      cases c : R.contains h with
      | false =>
        rw [c, if_neg (by decide)] at hwk
        show if true = true then _ else _
        refine iteT ?_
        refine ⟨fun σ H' => ∃ (v6 : Option V), σ = [some (.ref a), some (.ref g), some (.ref D), some (.ref D2), some (.int ((ys.getD h 0 : Nat) : Int)), some (.ref r), v6] ∧ Ex H H' ∧ ListN H' r (R ++ [h]), fun σ' H' ⟨v6, h1, h2, h3⟩ => ⟨m, by omega, ys.getD h 0, R ++ [h], v6, hwk, by rw [List.length_append]; show _ = m + (R.length + 1); omega, nd_app hnd c, fun x hx => by
            rcases List.mem_append.mp hx with hx | hx
            · exact hsub x hx
            · rw [List.mem_singleton.mp hx]
              exact hin, hG.cl h hin, h1, h2, h3⟩, ?_⟩
        have AC := acc_step (v := h) hrn e (ls := R)
        refine ⟨_, rfl, Or.inl ⟨rfl, _, SqL.of hr⟩, _, rfl, _, _, _, rfl, rfl, hr, small1000 (by rw [nI_len]; omega), ?_⟩
        refine ⟨_, rfl, _, rfl, _, _, _, _, rfl, rfl, (hx.ex AC.1).sz, atN (hlt _ hin), ?_⟩
        exact ⟨v6, rfl, AC.1, AC.2⟩
      | true =>
        rw [c, if_pos rfl] at hwk
        subst hwk
        show if false = true then _ else _
        refine iteF ?_
        refine ⟨_, rfl, _, rfl, g, rfl, ⟨_, (hg.ex e).sz⟩, fun D3 hD3 => lc_list (K := K) (a := g) (xs := nI gp) (fun j H1 => Ex H' H1 ∧ ListN H1 D3 ((gp.take j).filter fun x => !R.contains x)) ⟨Ex.new hD3, upd_same⟩ (fun j H1 _ q => (hg.ex (e.trans q.1)).sz) ?_ ?_⟩
        · rintro j y H1 hj ⟨e3, hd⟩
          obtain ⟨hj2, rfl⟩ := nat_at hj
          refine ⟨rfl, _, rfl, _, rfl, _, _, rfl, Or.inl (SqL.of (hr.ex e3)), rfl, flat_nI _, _, rfl, ?_⟩
          show if (!inV _ _) = true then _ else _
          rw [inV_nI]
          refine ite_b (fun c => ?_) (fun c => ?_)
          · refine ⟨_, rfl, _, hd, small1000 (by rw [nI_len]; have := List.length_filter_le (fun x => !R.contains x) (gp.take j); rw [List.length_take] at this; omega), ?_⟩
            rw [take_filter_pos hj2 c]
            exact acc_step hD3 e3
          · rw [take_filter_neg hj2 c]
            exact ⟨e3, hd⟩
        rintro H4 ⟨e4, h4⟩
        rw [nI_len, List.take_length] at h4
        have hf := List.length_filter_le (fun x => !R.contains x) gp
        refine ⟨_, _, _, _, rfl, rfl, hr.ex e4, h4, Nat.le_of_lt (small1000 (by rw [nI_len, nI_len]; omega)), fun q hq => k q _ (fresh_back (e.trans e4) hq) ((e.trans e4).trans (Ex.new hq)) ?_⟩
        show upd H4 q _ q = _
        rw [upd_same, hrow]
        unfold nI
        rw [List.map_append]

end

section
variable {P : Program} {w : World} {K : PySem.W.Frag} {mg : Str → Option Value} {base : Heap} {A : Ad}
theorem forms_find {sh : List Nat} : (formsT.find? fun q => decide (q.1 = sh)) = ((List.range 8).find? fun w => decide (form w = sh)).map fun w => (form w, word w) := by
  have e : formsT = (List.range 8).map fun w => (form w, word w) := by rfl
  rw [e, List.find?_map]
  rfl
theorem ok_piece_of (T : Txt K mg A) (hF : TabK P w K A.FORMS formsT) (g_row_of : Okd P w K mg base CX0 1 A.row_of P_row_of spRow2) : Okd P w K mg base CX0 2 A.piece_of P_piece_of spPO2 := by
  obtain ⟨fd, F⟩ := T.d_piece_of
  obtain ⟨fd_row_of, G_row_of, b_row_of⟩ := g_row_of
  refine ⟨fd, F.ok sc_piece_of (fun vs H Q E h => ?_) (fun cdv A' outer s H vs Q E hr h => ?_), F.binds fun _ _ _ _ _ _ us hl => match us, hl with | [_, _], _ => rfl⟩
  · obtain ⟨a, g, ys, gp, rfl, _⟩ := h
    rfl
  · obtain ⟨a, g, ys, gp, rfl, hx, hl, hg, hG, hlt, k1, k2⟩ := h
    refine ⟨_, (pss_cons (ps_set (i := 2) sc_piece_of.nd rfl (Or.inr rfl) (pe_call G_row_of (hr.mono (by decide)) (by rfl) T.g_row_of T.k_row_of b_row_of .nil pass0 (pa_cons (pv 0) (pa_cons (pv 1) pa_nil))))
      (pss_cons (ps_set (i := 3) sc_piece_of.nd rfl (Or.inl rfl) (pe_callTy call_tuple_of (by rfl) T.n_tuple (by decide +kernel) (pa_cons (pe_lc (own := [("record", 5)]) (tt := tYes) (by rfl) sc_piece_of.nd (pi_list (pv 2)) (blkOk_by (own := [("record", 5)]) (N := N_piece_of) (sc := defScope s_piece_of) (by decide +kernel)) (fun _ _ _ _ _ => (pg_name (i := 5) sc_piece_of.nd rfl (Or.inl rfl))) (fun _ _ _ _ _ => pts_nil) (fun _ _ _ _ _ => (pe_indexK (K := K) rfl (pe_bm PySem.F.plainAttrs_list PySem.F.slot_list_index PySem.F.type_list_index mt_index (pv 2) (pa_cons (pe_ix (ix_listK (K := K) rfl) (pv 0) (pv 5) (fun _ _ => rfl)) pa_nil))))) pa_nil)))
      (pss_cons (ps_set (i := 4) sc_piece_of.nd rfl (Or.inl rfl) (pe_tabLook hr.units (pe_glob (v := .ref A.FORMS) rfl T.g_FORMS rfl) (pv 3) ⟨rfl, rfl, rfl, rfl⟩))
      (pss_cons (ps_if (pt_cmpR op_isN (pv 4) pe_non (nomark _)) (pss_one (ps_ret pe_non)) pss_nil)
      (pss_one (ps_ret (pe_tup (pa_cons (pv 4) (pa_cons (pe_callTy call_tuple_of (by rfl) T.n_tuple (by decide +kernel) (pa_cons (pv 2) pa_nil)) pa_nil))))))))), ?_⟩
    have hg0 : gN ys = fun x => ys.getD x 0 := rfl
    refine ⟨_, rfl, _, rfl, a, g, ys, gp, rfl, hx, hl, hg, hG, hlt, fun p H1 hp e1 h1 => ?_⟩
    have hrm : ∀ x, x ∈ rowF (gN ys) gp ↔ x ∈ gp := fun x => hG.row_mem
    have hrl := hG.row_len
    have hrn := hG.row_nd
    have hcl : ∀ x ∈ rowF (gN ys) gp, ys.getD x 0 ∈ rowF (gN ys) gp := fun x hx => (hrm _).mpr (hG.cl x ((hrm x).mp hx))
    have hlt2 : ∀ x ∈ rowF (gN ys) gp, x < ys.length := fun x hx => hlt x ((hrm x).mp hx)
    have h64 : gp.length ≤ 64 := by
      have := nd_len (gp := List.range ys.length) hG.nd fun x hx => List.mem_range.mpr (hlt x hx)
      rw [List.length_range] at this
      omega
    have hpc : pieceF (gN ys) gp = ((List.range 8).find? fun w => decide (form w = shapeF (gN ys) (rowF (gN ys) gp))).map fun w => (w, rowF (gN ys) gp) := rfl
    generalize rowF (gN ys) gp = row at *
    have hsh : shapeF (gN ys) row = row.map fun x => row.idxOf (ys.getD x 0) := rfl
    refine ⟨_, rfl, p, rfl, ⟨_, h1.sz⟩, fun D hD => lc_list (K := K) (a := p) (xs := nI row) (fun j H' => Ex H1 H' ∧ ListN H' D ((row.take j).map fun x => row.idxOf (ys.getD x 0))) ⟨Ex.new hD, upd_same⟩ (fun j H' _ q => (h1.ex q.1).sz) ?_ ?_⟩
    · rintro j y H' hj ⟨e3, hd⟩
      obtain ⟨hj2, rfl⟩ := nat_at hj
      have hmem : ys.getD (row.getD j 0) 0 ∈ row := hcl _ (getD_mem hj2)
      have hil := List.idxOf_lt_length_of_mem hmem
      refine ⟨rfl, _, rfl, Or.inl ⟨rfl, _, SqL.of (h1.ex e3)⟩, _, rfl, _, rfl, _, _, _, _, rfl, rfl, (hx.ex (e1.trans e3)).sz, atN (hlt2 _ (getD_mem hj2)), ?_⟩
      refine ⟨_, nI row, _, row.idxOf (ys.getD (row.getD j 0) 0), _, rfl, rfl, SqL.of (h1.ex e3), rfl, flat_nI _, ixN_ hil, ?_, fun m z' hm hz => ?_, ?_⟩
      · rw [eqV_nat]
        exact idx_mem hmem
      · obtain ⟨hm2, rfl⟩ := nat_at hz
        cases c : eqV (V.int ((row.getD m 0 : Nat) : Int)) (V.int ((ys.getD (row.getD j 0) 0 : Nat) : Int)) with
        | false => rfl
        | true =>
          rw [eqV_nat] at c
          have := idx_nd hrn hm2
          rw [c] at this
          omega
      refine ⟨_, hd, small1000 (by rw [nI_len, List.length_map, List.length_take]; omega), ?_⟩
      rw [take_map_succ hj2]
      exact acc_step hD e3
    rintro H2 ⟨e2, h2⟩
    rw [nI_len, List.take_length, ← hsh] at h2
    have hsl : (shapeF (gN ys) row).length = row.length := by rw [hsh, List.length_map]
    generalize shapeF (gN ys) row = sh at *
    refine ⟨_, _, rfl, Or.inl ⟨SqL.of h2, fun l hl0 => ?_⟩⟩
    have h3 := h1.ex (e2.trans (Ex.new (o := .tup (nI sh)) hl0))
    have e4 := (e1.trans e2).trans (Ex.new (o := .tup (nI sh)) hl0)
    have hl3 : upd H2 l (.tup (nI sh)) l = some (.tup (nI sh)) := upd_same
    generalize L2.upd H2 l _ = H3 at *
    refine ⟨_, formsT, rfl, hF, _, rfl, l, sh, rfl, hl3, ?_⟩
    rw [forms_find]
    cases hf : (List.range 8).find? fun w => decide (form w = sh) with
    | some w =>
      have hw := List.mem_range.mp (List.mem_of_find?_eq_some hf)
      rw [hf] at hpc
      have k2 := k2 (w, row) hpc
      refine ⟨fun q hq => ?_, (fun hq => nomatch hq)⟩
      cases Option.some.inj hq
      refine ⟨_, rfl, rfl, _, rfl, ?_⟩
      refine ite_b (fun c => absurd (of_decide_eq_true c) (by intro z; cases z)) (fun _ => ?_)
      refine ⟨_, rfl, _, rfl, _, _, rfl, Or.inl ⟨SqL.of h3, fun t ht => ⟨(by show 2 ≤ sizeLine; decide), fun q hq => ?_⟩⟩⟩
      have hqt : q ≠ t := fun z => by
        rw [z, upd_same] at hq
        cases hq
      have e5 := ex_new (ex_new e4 ht) hq (o := .tup [.str (word w), .ref t])
      refine k2 q _ (fresh_back (ex_new e4 ht) hq) e5 ⟨t, upd_same, ?_⟩
      rw [upd_ne hqt.symm, upd_same]
    | none =>
      rw [hf] at hpc
      refine ⟨(fun q hq => nomatch hq), fun _ => ?_⟩
      refine ⟨_, rfl, rfl, _, rfl, ?_⟩
      refine iteT ?_
      exact k1 hpc H3 e4

end

section
variable {P : Program} {w : World} {K : PySem.W.Frag} {mg : Str → Option Value} {base : Heap} {A : Ad}
theorem takeB2 {α : Type} {xs : List α} {j : Nat} {b : α} (h : xs[j]? = some b) : xs.take (j + 1) = xs.take j ++ [b] := by
  rw [List.take_add_one, h]
  rfl
theorem ok_pieces (T : Txt K mg A)  (g_groups : Okd P w K mg base (L2N.CX P w) 4 A.groups P_groups (spGr2 A)) (g_piece_of : Okd P w K mg base CX0 2 A.piece_of P_piece_of spPO2) (g_Unrepairable : Okd P w K mg base CX0 2 A.i_Unrepairable P_Unrepairable (spInitL A.Unrepairable "group")) : Okd P w K mg base (L2N.CX P w) 5 A.pieces P_pieces (spPi2 A) := by
  obtain ⟨fd, F⟩ := T.d_pieces
  obtain ⟨fd_groups, G_groups, b_groups⟩ := g_groups
  obtain ⟨fd_piece_of, G_piece_of, b_piece_of⟩ := g_piece_of
  obtain ⟨fd_Unrepairable, G_Unrepairable, b_Unrepairable⟩ := g_Unrepairable
  refine ⟨fd, F.okN sc_pieces (fun vs H Q E h => ?_) (fun cdv A' outer s H vs Q E hr h => ?_), F.binds fun _ _ _ _ _ _ us hl => match us, hl with | [_], _ => rfl⟩
  · obtain ⟨a, xs, rfl, _⟩ := h
    rfl
  · obtain ⟨a, xs, rfl, hx, hl, kq, kr⟩ := h
    refine ⟨_, (pss_cons (ps_set (i := 1) sc_pieces.nd rfl (Or.inl rfl) (pe_lst pa_nil))
      (pss_cons (ps_for (passes_of rfl) rfl (pi_list (pe_callS G_groups (hr.mono (by decide)) rfl T.g_groups T.k_groups b_groups (fun σ => L2N.passAt (L2N.takes_of rfl rfl rfl rfl) σ) (pa_cons (pv 0) pa_nil))) (pg_name (i := 2) sc_pieces.nd rfl (Or.inl rfl)) (pss_cons (ps_set (i := 3) sc_pieces.nd rfl (Or.inl rfl) (pe_call G_piece_of (hr.mono (by decide)) (by rfl) T.g_piece_of T.k_piece_of b_piece_of .nil pass0 (pa_cons (pv 0) (pa_cons (pv 2) pa_nil))))
      (pss_cons (ps_if (pt_cmpR op_isN (pv 3) pe_non (nomark _)) (pss_one (L2N.ps_raise rfl (L2N.takes_of rfl rfl rfl rfl) (L2N.pmk_oexN T.e_Unrepairable.oex T.f_Unrepairable.i T.f_Unrepairable.t G_Unrepairable (hr.mono (by decide)) b_Unrepairable pass0 rfl T.e_Unrepairable.g (pa_cons (pv 2) pa_nil)))) pss_nil)
      (pss_one (ps_expr (pe_bm PySem.F.plainAttrs_list PySem.F.slot_list_append PySem.F.type_list_append mt_append (pv 1) (pa_cons (pv 3) pa_nil)))))))
      (pss_one (ps_ret (pv 1))))), ?_⟩
    refine ⟨by decide, fun f hf => ?_⟩
    have e0 : Ex H (upd H f (.lst [])) := Ex.new hf
    refine ⟨_, rfl, a, xs, rfl, e0 _ _ hx, hl, fun hok p gs H1 hp e1 ⟨hP, hk, hgs⟩ => ?_, fun k hk => (kr.1 k hk).mono e0⟩
    have kr2 := kr.2 hok
    have hnat := natI_at' hok (e0 _ _ hx)
    have hrec := natI_rec hok
    have hln : (natI xs).length ≤ 64 := by rw [natI_len]; exact hl
    have kq := kq hok
    generalize natI xs = ys at *
    have hpf : p ≠ f := fun z => by
      rw [z, upd_same] at hp
      cases hp
    have hgf : ∀ x ∈ gs, x.2 ≠ f := fun x h z => by
      have := (hgs x h).1
      rw [z, upd_same] at this
      cases this
    have h0 : H1 f = some (.lst []) := e1 f _ upd_same
    have e01 : Ex H H1 := e0.trans e1
    have hx1 : ListN H1 a ys := hnat.ex e1
    have naf : a ≠ f := ne_of_none hx hf
    have hgl := gs_len hk
    refine ⟨p, rfl, ⟨_, SqL.of hP⟩, for_list (K := K) (a := p) (xs := gs.map fun x => V.ref x.2) (fun i σ H' => ∃ (v2 v3 : Option V) (cs : List Bk), σ = [some (.ref a), some (.ref f), v2, v3] ∧ Mut f H1 H' ∧ (formsF ys).take i = cs.map some ∧ All2 PieceAt H' f cs)
      ⟨none, none, [], rfl, Mut.refl f H1, rfl, .nil h0⟩ (fun i σ H' _ ⟨_, _, _, _, M, _⟩ => SqL.of (M p _ hpf hP)) ?_ ?_⟩
    · rintro i x σ H' hi ⟨v2, v3, cs, rfl, M, hcs, S⟩
      rw [List.getElem?_map] at hi
      cases hgi : gs[i]? with
      | none => rw [hgi] at hi; cases hi
      | some gx =>
      rw [hgi] at hi
      injection hi with hi
      subst hi
      have hil : i < gs.length := (List.getElem?_eq_some_iff.mp hgi).1
      have hmem : gx ∈ gs := List.mem_of_getElem? hgi
      obtain ⟨hr1, hr2⟩ := gs_root hk hgi
      obtain ⟨hf1, hf2⟩ := gs_forms hk hgi
      have hxn := (hgs gx hmem).2.2
      have hG := gp_of hrec hr2
      have hcl : cs.length = i := by
        have := congrArg List.length hcs
        rw [List.length_take, List.length_map, ← forms_len hk] at this
        omega
      have ef : Ex H H' := fun b o hb => M b o (fun z => by rw [z, hf] at hb; cases hb) (e01 b o hb)
      refine ⟨_, rfl, _, rfl, a, gx.2, ys, grpF ys gx.1, rfl, M _ _ naf hx1, hln, M _ _ (hgf gx hmem) hxn, hG, (fun x hx => (mem_grpF.mp hx).1), fun hno H2 e2 => ?_, fun b hb q H2 hq e2 hA => ?_⟩
      · refine ⟨_, rfl, rfl, _, rfl, ?_⟩
        refine iteT ?_
        refine ⟨_, rfl, (by show 1 ≤ 1000; decide), mkOL_go (l := gx.2) (e2 _ _ (M _ _ (hgf gx hmem) hxn)) (fun d p H3 e3 hd hp => ?_)⟩
        exact kr2 (grpF ys gx.1) (bad_first hf1 hno hcs) d p H3 ((ef.trans e2).trans e3) hd hp
      · refine ⟨_, rfl, rfl, _, rfl, ?_⟩
        refine ite_b (fun c => absurd (of_decide_eq_true c) (by intro z; cases z)) (fun _ => ?_)
        obtain ⟨qs, h1, h2, h3⟩ := (S.ex e2).app hA
        refine ⟨_, rfl, Or.inl ⟨rfl, _, SqL.of h1⟩, _, rfl, _, _, _, rfl, rfl, h1, small1000 (by rw [List.length_map]; omega), ?_⟩
        refine ⟨_, _, cs ++ [b], rfl, fun b o hb hv => by rw [upd_ne hb]; exact e2 b o (M b o hb hv), ?_, h3⟩
        rw [takeB2 hf2, hcs, List.map_append, hb]
        rfl
    · rintro σ H' ⟨v2, v3, cs, rfl, M, hcs, S⟩
      rw [List.length_map, forms_len hk, List.take_length] at hcs
      exact ⟨_, rfl, kq cs hcs f H' hf (fun b o hb => M b o (fun z => by rw [z, hf] at hb; cases hb) (e01 b o hb)) S⟩

end

section
variable {P : Program} {w : World} {K : PySem.W.Frag} {mg : Str → Option Value} {base : Heap} {A : Ad}
theorem takeBq9 {α : Type} {xs : List α} {j : Nat} {b : α} (h : xs[j]? = some b) (q : α → Bool) : (xs.take (j + 1)).filter q = (xs.take j).filter q ++ (if q b = true then [b] else []) := by
  rw [List.take_add_one, h]
  show (xs.take j ++ [b]).filter q = _
  rw [List.filter_append, List.filter_cons]
  rfl
theorem whole_in9 {w : Nat} (h : w < 8) : (!inV (V.str (word w)) [.str "free", .str "pair"]) = decide (1 < w) := by
  rcases w with _ | _ | _ | _ | _ | _ | _ | _ | w
  all_goals first | decide +kernel | omega

theorem ok_torn_pieces (T : Txt K mg A)  (g_pieces : Okd P w K mg base (L2N.CX P w) 5 A.pieces P_pieces (spPi2 A)) : Okd P w K mg base (L2N.CX P w) 6 A.torn_pieces P_torn_pieces (spTor9 A) := by
  obtain ⟨fd, F⟩ := T.d_torn_pieces
  obtain ⟨fd_pieces, G_pieces, b_pieces⟩ := g_pieces
  refine ⟨fd, F.okN sc_torn_pieces (fun vs H Q E h => ?_) (fun cdv A' outer s H vs Q E hr h => ?_), F.binds fun _ _ _ _ _ _ us hl => match us, hl with | [_], _ => rfl⟩
  · obtain ⟨a, xs, rfl, _⟩ := h
    rfl
  · obtain ⟨a, xs, rfl, hx, x64, kg, rz⟩ := h
    refine ⟨_, (pss_one (ps_ret (pe_lc (own := [("piece", 1)]) (tt := _) (by rfl) sc_torn_pieces.nd (pi_list (pe_callS G_pieces (hr.mono (by decide)) rfl T.g_pieces T.k_pieces b_pieces (fun σ => L2N.passAt (L2N.takes_of rfl rfl rfl rfl) σ) (pa_cons (pv 0) pa_nil))) (blkOk_by (own := [("piece", 1)]) (N := N_torn_pieces) (sc := defScope s_torn_pieces) (by decide +kernel)) (fun _ _ _ _ _ => (pg_name (i := 1) sc_torn_pieces.nd rfl (Or.inl rfl))) (fun _ _ _ _ _ => (pts_one (pt_cmpR (op_notInK (K := K) rfl) (pe_ix (ix_tupK (K := K) rfl) (pv 1) pe_int (fun _ _ => rfl)) (pe_glob (v := .ref A.WHOLE) rfl T.g_WHOLE rfl) (by with_unfolding_all rfl)))) (fun _ _ _ _ _ => (pv 1))))), ?_⟩
    refine ⟨_, rfl, a, xs, rfl, hx, x64, ⟨fun s0 bs hF p H1 hp e1 hP0 => ?_, rz⟩⟩
    obtain ⟨ok, b64, k⟩ := kg s0 bs hF
    obtain ⟨qs, hP, hql, hqa⟩ := hP0
    refine ⟨p, rfl, ⟨_, SqL.of hP⟩, fun D hD => lc_list (K := K) (a := p) (xs := qs.map V.ref) (fun j H' => Ex H1 H' ∧ All2 PieceAt H' D ((bs.take j).filter fun b => decide (1 < b.1))) ⟨Ex.new hD, All2.nil upd_same⟩ (fun j H' _ q => SqL.of (q.1 p _ hP)) ?_ ?_⟩
    · rintro i y H' hi ⟨ef, hd⟩
      rw [List.getElem?_map] at hi
      cases hgi : qs[i]? with
      | none => rw [hgi] at hi; cases hi
      | some q =>
      rw [hgi] at hi
      injection hi with hi
      subst hi
      have hib : i < bs.length := by rw [← hql]; exact (List.getElem?_eq_some_iff.mp hgi).1
      have hbi : bs[i]? = some bs[i] := List.getElem?_eq_getElem hib
      have hq := (hqa i q bs[i] hgi hbi).ex ef
      have hw8 := (ok _ (List.getElem_mem hib)).1
      obtain ⟨t, hq1, hq2⟩ := hq
      refine ⟨rfl, _, rfl, _, _, _, _, rfl, rfl, SqT.of hq1, rfl, _, _, rfl, Or.inr (T.w_WHOLE _), rfl, rfl, _, rfl, ?_⟩
      show if (!inV _ _) = true then _ else _
      rw [whole_in9 hw8, takeBq9 hbi]
      refine ite_b (fun c => ?_) (fun c => ?_)
      · rw [if_pos c]
        obtain ⟨qs', g1, g2, g3⟩ := hd.app (q := q) (b := bs[i]) ⟨t, hq1, hq2⟩
        refine ⟨_, rfl, _, g1, small1000 (by rw [List.length_map, g2]; have := List.length_filter_le (fun b : Bk => decide (1 < b.1)) (bs.take i); rw [List.length_take] at this; omega), fun b o hb => ?_, g3⟩
        rw [upd_ne (ne_of_none hb hD)]
        exact ef b o hb
      · rw [if_neg (by rw [c]; decide), List.append_nil]
        exact ⟨ef, hd⟩
    · rintro H' ⟨ef, hd⟩
      rw [List.length_map, hql, List.take_length] at hd
      exact k D H' (back_none e1 hD) (e1.trans ef) hd

end

section
variable {P : Program} {w : World} {K : PySem.W.Frag} {mg : Str → Option Value} {base : Heap} {A : Ad}
theorem ok_free_records (T : Txt K mg A)  (g_pieces : Okd P w K mg base (L2N.CX P w) 5 A.pieces P_pieces (spPi2 A)) : Okd P w K mg base (L2N.CX P w) 6 A.free_records P_free_records (spFr9 A) := by
  obtain ⟨fd, F⟩ := T.d_free_records
  obtain ⟨fd_pieces, G_pieces, b_pieces⟩ := g_pieces
  refine ⟨fd, F.okN sc_free_records (fun vs H Q E h => ?_) (fun cdv A' outer s H vs Q E hr h => ?_), F.binds fun _ _ _ _ _ _ us hl => match us, hl with | [_], _ => rfl⟩
  · obtain ⟨a, xs, rfl, _⟩ := h
    rfl
  · obtain ⟨a, xs, rfl, hx, x64, kg, rz⟩ := h
    refine ⟨_, (pss_one (ps_ret (pe_lc (own := [("word", 2), ("records", 1)]) (g := gTup K 2 (gCons (gName 2) (gCons (gName 1) gNil))) (tt := _) (by rfl) sc_free_records.nd (pi_list (pe_callS G_pieces (hr.mono (by decide)) rfl T.g_pieces T.k_pieces b_pieces (fun σ => L2N.passAt (L2N.takes_of rfl rfl rfl rfl) σ) (pa_cons (pv 0) pa_nil))) (blkOk_by (own := [("word", 2), ("records", 1)]) (N := N_free_records) (sc := defScope s_free_records) (by decide +kernel)) (fun _ _ _ _ _ => (pg_tup (by rfl) (pgs_cons (pg_name (i := 2) sc_free_records.nd rfl (Or.inl rfl)) (pgs_cons (pg_name (i := 1) sc_free_records.nd rfl (Or.inl rfl)) pgs_nil)))) (fun _ _ _ _ _ => (pts_one (pt_cmpR op_eq (pv 2) pe_str (nomark _)))) (fun _ _ _ _ _ => (pe_ix (ix_tupK (K := K) rfl) (pv 1) pe_int (fun _ _ => rfl)))))), ?_⟩
    refine ⟨_, rfl, a, xs, rfl, hx, x64, ⟨fun s0 bs hF p H1 hp e1 hP0 => ?_, rz⟩⟩
    obtain ⟨ok, b64, k⟩ := kg s0 bs hF
    obtain ⟨qs, hP, hql, hqa⟩ := hP0
    refine ⟨p, rfl, ⟨_, SqL.of hP⟩, fun D hD => lc_list (K := K) (a := p) (xs := qs.map V.ref) (fun j H' => Ex H1 H' ∧ ListN H' D (((bs.take j).filter fun b => decide (b.1 = 0)).map fun b => b.2.getD 0 0)) ⟨Ex.new hD, upd_same⟩ (fun j H' _ q => SqL.of (q.1 p _ hP)) ?_ ?_⟩
    · rintro i y H' hi ⟨ef, hd⟩
      rw [List.getElem?_map] at hi
      cases hgi : qs[i]? with
      | none => rw [hgi] at hi; cases hi
      | some q =>
      rw [hgi] at hi
      injection hi with hi
      subst hi
      have hib : i < bs.length := by rw [← hql]; exact (List.getElem?_eq_some_iff.mp hgi).1
      have hbi : bs[i]? = some bs[i] := List.getElem?_eq_getElem hib
      have hq := (hqa i q bs[i] hgi hbi).ex ef
      have hw8 := (ok _ (List.getElem_mem hib)).1
      have hln := (ok _ (List.getElem_mem hib)).2.1
      generalize bs[i] = b at hbi hq hw8 hln
      obtain ⟨t, hq1, hq2⟩ := hq
      have eqw : decide (V.str (word b.1) = V.str (Str.ofString "free")) = decide (b.1 = 0) := by
        rw [← wd_word hw8]
        exact wd_eq (by omega) (j := 0) (by decide)
      refine ⟨q, _, rfl, SqT.of hq1, rfl, _, _, rfl, _, _, rfl, rfl, rfl, _, rfl, rfl, _, rfl, ?_⟩
      show if decide (V.str (word b.1) = V.str (Str.ofString "free")) = true then _ else _
      rw [eqw]
      refine ite_b (fun c => ?_) (fun c => ?_)
      · have c0 := of_decide_eq_true c
        have one : b.2.length = 1 := by rw [hln, c0]; rfl
        obtain ⟨x0, ex0⟩ : ∃ x0, b.2 = [x0] := by
          match b.2, one with
          | [x0], _ => exact ⟨x0, rfl⟩
        rw [ex0] at hq2
        refine ⟨_, rfl, t, _, _, _, rfl, rfl, SqT.of hq2, atI_nat (j := 0) rfl, _, hd, small1000 (by rw [nI_len, List.length_map]; have := List.length_filter_le (fun b : Bk => decide (b.1 = 0)) (bs.take i); rw [List.length_take] at this; omega), fun b o hb => ?_, ?_⟩
        · rw [upd_ne (ne_of_none hb hD)]
          exact ef b o hb
        · show upd H' D _ D = _
          rw [upd_same, takeBq9 hbi, if_pos c, List.map_append]
          unfold nI
          rw [List.map_append]
          show _ = some (HO.lst (_ ++ [V.int ((b.2.getD 0 0 : Nat) : Int)]))
          rw [ex0]
          rfl
      · rw [takeBq9 hbi, if_neg (by rw [c]; decide), List.append_nil]
        exact ⟨ef, hd⟩
    · rintro H' ⟨ef, hd⟩
      rw [List.length_map, hql, List.take_length] at hd
      exact k D H' (back_none e1 hD) (e1.trans ef) hd

end

section
variable {P : Program} {w : World} {K : PySem.W.Frag} {mg : Str → Option Value} {base : Heap} {A : Ad}
theorem ok_claims (T : Txt K mg A)   : Okd P w K mg base CX0 1 A.claims P_claims spCl9 := by
  obtain ⟨fd, F⟩ := T.d_claims

  refine ⟨fd, F.ok sc_claims (fun vs H Q E h => ?_) (fun cdv A' outer s H vs Q E hr h => ?_), F.binds fun _ _ _ _ _ _ us hl => match us, hl with | [_], _ => rfl⟩
  · obtain ⟨p, bs, rfl, _⟩ := h
    rfl
  · obtain ⟨p, bs, rfl, hp, ok, b64, k⟩ := h
    refine ⟨_, (pss_one (ps_ret (pe_callB call_len_seq (by rfl) T.n_len PySem.boot_len (pa_cons (pe_lc (own := [("word", 2), ("_", 1)]) (g := gTup K 2 (gCons (gName 2) (gCons (gName 1) gNil))) (tt := _) (by rfl) sc_claims.nd (pi_list (pv 0)) (blkOk_by (own := [("word", 2), ("_", 1)]) (N := N_claims) (sc := defScope s_claims) (by decide +kernel)) (fun _ _ _ _ _ => (pg_tup (by rfl) (pgs_cons (pg_name (i := 2) sc_claims.nd rfl (Or.inl rfl)) (pgs_cons (pg_name (i := 1) sc_claims.nd rfl (Or.inl rfl)) pgs_nil)))) (fun _ _ _ _ _ => (pts_one (pt_cmpR op_eq (pv 2) pe_str (nomark _)))) (fun _ _ _ _ _ => (pv 2))) pa_nil)))), ?_⟩
    obtain ⟨qs, hP, hql, hqa⟩ := hp
    refine ⟨_, rfl, p, rfl, ⟨_, SqL.of hP⟩, fun D hD => lc_list (K := K) (a := p) (xs := qs.map V.ref) (fun j H' => Ex H H' ∧ ∃ ws : List V, H' D = some (.lst ws) ∧ ws.length = ((bs.take j).filter fun b => decide (b.1 = 2)).length) ⟨Ex.new hD, [], upd_same, rfl⟩ (fun j H' _ q => SqL.of (q.1 p _ hP)) ?_ ?_⟩
    · rintro i y H' hi ⟨ef, ws, hd, wl⟩
      rw [List.getElem?_map] at hi
      cases hgi : qs[i]? with
      | none => rw [hgi] at hi; cases hi
      | some q =>
      rw [hgi] at hi
      injection hi with hi
      subst hi
      have hib : i < bs.length := by rw [← hql]; exact (List.getElem?_eq_some_iff.mp hgi).1
      have hbi : bs[i]? = some bs[i] := List.getElem?_eq_getElem hib
      have hq := (hqa i q bs[i] hgi hbi).ex ef
      have hw8 := ok _ (List.getElem_mem hib)
      generalize bs[i] = b at hbi hq hw8
      obtain ⟨t, hq1, hq2⟩ := hq
      have eqw : decide (V.str (word b.1) = V.str (Str.ofString "claim")) = decide (b.1 = 2) := by
        rw [← wd_word hw8]
        exact wd_eq (by omega) (j := 2) (by decide)
      refine ⟨q, _, rfl, SqT.of hq1, rfl, _, _, rfl, _, _, rfl, rfl, rfl, _, rfl, rfl, _, rfl, ?_⟩
      show if decide (V.str (word b.1) = V.str (Str.ofString "claim")) = true then _ else _
      rw [eqw, takeBq9 hbi]
      refine ite_b (fun c => ?_) (fun c => ?_)
      · rw [if_pos c]
        refine ⟨_, rfl, _, hd, small1000 (by rw [wl]; have := List.length_filter_le (fun b : Bk => decide (b.1 = 2)) (bs.take i); rw [List.length_take] at this; omega), fun b o hb => ?_, _, upd_same, by rw [List.length_append, List.length_append, wl]; rfl⟩
        rw [upd_ne (ne_of_none hb hD)]
        exact ef b o hb
      · rw [if_neg (by rw [c]; decide), List.append_nil]
        exact ⟨ef, ws, hd, wl⟩
    · rintro H' ⟨ef, ws, hd, wl⟩
      rw [List.length_map, hql, List.take_length] at wl
      refine ⟨D, _, rfl, .inl (SqL.of hd), ?_⟩
      rw [wl]
      exact k H' ef

end

section
variable {P : Program} {w : World} {K : PySem.W.Frag} {mg : Str → Option Value} {base : Heap} {A : Ad}
theorem ok_law_box (T : Txt K mg A)   : Okd P w K mg base CX0 1 A.law_box P_law_box (spBox K) := by
  obtain ⟨fd, F⟩ := T.d_law_box

  refine ⟨fd, F.ok sc_law_box (fun vs H Q E h => ?_) (fun cdv A' outer s H vs Q E hr h => ?_), F.binds fun _ _ _ _ _ _ us hl => match us, hl with | [_], _ => rfl⟩
  · obtain ⟨a, ns, rfl, _⟩ := h
    rfl
  · obtain ⟨a, ns, rfl, hs, k⟩ := h
    refine ⟨_, (pss_one (ps_ret (pe_lst (pa_cons (pe_callTy call_list_of (by rfl) T.n_list (by decide +kernel) (pa_cons (pe_slice sl_list (pv 0) po_none (po_some pe_int)) pa_nil)) (pa_cons pe_int (pa_cons pe_int (pa_cons pe_int (pa_cons pe_int pa_nil)))))))), ?_⟩
    refine ⟨_, rfl, ?_⟩
    unfold tNoPart
    dsimp only
    refine ⟨_, rfl, a, _, rfl, hs, fun p hp => ?_⟩
    obtain ⟨ms, em⟩ : ∃ ms : List Int, cutV (ns.map V.int) none (some 63) = ms.map V.int := by
      unfold cutV
      rw [← List.map_drop, ← List.map_take]
      exact ⟨_, rfl⟩
    rw [em]
    have e1 := Ex.new (o := .lst (ms.map V.int)) hp
    have g1 : upd H p (.lst (ms.map V.int)) p = some (.lst (ms.map V.int)) := upd_same
    generalize upd H p (.lst (ms.map V.int)) = H1 at e1 g1 ⊢
    refine ⟨p, _, rfl, .inl (SqL.of g1), fun c hc => ⟨(by show 5 ≤ sizeLine; decide), fun b hb => ?_⟩⟩
    have e2 := Ex.new (o := .lst (ms.map V.int)) hc
    have e3 := Ex.new (o := .lst [V.ref c, V.int 0, V.int 0, V.int 1, V.int 0]) hb
    exact k b c _ (back_none (e1.trans e2) hb) (back_none e1 hc) ((e1.trans e2).trans e3) ⟨ms, 0, 0, 1, 0, upd_same, e3 _ _ upd_same, by decide, by decide⟩

end

section
variable {P : Program} {w : World} {K : PySem.W.Frag} {mg : Str → Option Value} {base : Heap} {A : Ad}
theorem ok_law_take (T : Txt K mg A)   : Okd P w K mg base CX0 1 A.law_take P_law_take spTk := by
  obtain ⟨fd, F⟩ := T.d_law_take

  refine ⟨fd, F.ok sc_law_take (fun vs H Q E h => ?_) (fun cdv A' outer s H vs Q E hr h => ?_), F.binds fun _ _ _ _ _ _ us hl => match us, hl with | [_, _], _ => rfl⟩
  · obtain ⟨b, c, n, rfl, _⟩ := h
    rfl
  · obtain ⟨b, c, n, rfl, nl, B, k⟩ := h
    refine ⟨_, (pss_cons (ps_if (pt_cmpR op_lt (pv 1) pe_int (nomark _)) (pss_one (ps_ret pe_int)) pss_nil)
      (pss_cut (ps_if (PW.pt (pw_and (pt_cmpR op_eq (pe_ix ix_list (pv 0) pe_int (fun _ _ => rfl)) pe_int (nomark _)) (pw_and1 (pt_cmpR op_lt (pe_ix ix_list (pv 0) pe_int (fun _ _ => rfl)) (pe_callB call_len_seq (by rfl) T.n_len PySem.boot_len (pa_cons (pe_ix ix_list (pv 0) pe_int (fun _ _ => rfl)) pa_nil)) (nomark _))))) (pss_cons (ps_set (i := 2) sc_law_take.nd rfl (Or.inl rfl) (pe_ix ix_list (pe_ix ix_list (pv 0) pe_int (fun _ _ => rfl)) (pe_ix ix_list (pv 0) pe_int (fun _ _ => rfl)) (fun _ _ => rfl)))
      (pss_cons (ps_asg (pe_op op_add (pe_ix ix_list (pv 0) pe_int (fun _ _ => rfl)) pe_int) (pg_sub (pv 0) pe_int set_list))
      (pss_cons (ps_asg (pe_op op_mod (pe_callTy call_int1 (by rfl) T.n_int (by decide +kernel) (pa_cons (pe_op op_add (pe_op op_add (pe_op op_mul (pe_ix ix_list (pv 0) pe_int (fun _ _ => rfl)) pe_int) (pv 2)) pe_int) pa_nil)) pe_int) (pg_sub (pv 0) pe_int set_list))
      (pss_one (ps_if (pt_cmpR op_ge (pv 2) (pe_op op_pow pe_int pe_int) (nomark _)) (pss_one (ps_asg (pv 2) (pg_sub (pv 0) pe_int set_list))) pss_nil))))) pss_nil)
      (pss_cons (ps_asg (pe_op op_add (pe_ix ix_list (pv 0) pe_int (fun _ _ => rfl)) pe_int) (pg_sub (pv 0) pe_int set_list))
      (pss_cons (ps_if (pt_cmpR op_gt (pe_ix ix_list (pv 0) pe_int (fun _ _ => rfl)) pe_int (nomark _)) (pss_cons (ps_set (i := 3) sc_law_take.nd rfl (Or.inl rfl) (pe_op op_mod (pe_callTy call_int1 (by rfl) T.n_int (by decide +kernel) (pa_cons (pe_ix ix_list (pv 0) pe_int (fun _ _ => rfl)) pa_nil)) (pv 1)))
      (pss_cons (ps_asg (pe_op op_fdivW (pe_ix ix_list (pv 0) pe_int (fun _ _ => rfl)) (pv 1)) (pg_sub (pv 0) pe_int set_list))
      (pss_one (ps_ret (pv 3))))) pss_nil)
      (pss_cons (ps_set (i := 4) sc_law_take.nd rfl (Or.inl rfl) (pe_op op_mod (pe_callTy call_int1 (by rfl) T.n_int (by decide +kernel) (pa_cons (pe_op op_add (pe_op op_add (pe_op op_mul (pe_ix ix_list (pv 0) pe_int (fun _ _ => rfl)) pe_int) (pe_op op_mul (pe_ix ix_list (pv 0) pe_int (fun _ _ => rfl)) pe_int)) pe_int) pa_nil)) pe_int))
      (pss_cons (ps_set (i := 5) sc_law_take.nd rfl (Or.inl rfl) (pe_op op_mod (pe_callTy call_int1 (by rfl) T.n_int (by decide +kernel) (pa_cons (pe_op op_add (pe_op op_add (pe_op op_mul (pv 4) (pv 4)) (pe_ix ix_list (pv 0) pe_int (fun _ _ => rfl))) (pe_op op_mul (pe_ix ix_list (pv 0) pe_int (fun _ _ => rfl)) pe_int)) pa_nil)) pe_int))
      (pss_one (ps_ret (pe_op op_mod (pe_callTy call_int1 (by rfl) T.n_int (by decide +kernel) (pa_cons (pe_op op_fdivW (pv 5) pe_int) pa_nil)) (pv 1)))))))))), ?_⟩
    have nbc := B.bc
    have fin : ∀ (z : Int) H', 2 ≤ n → Bx H' b c → Mut b H H' → Q (V.int (z % n)) H' := fun z H' n2 B' M' => by
      obtain ⟨d, hd⟩ := Int.eq_ofNat_of_zero_le (Int.emod_nonneg z (by omega : n ≠ 0))
      have hdl := Int.emod_lt_of_pos z (show 0 < n by omega)
      rw [hd] at hdl ⊢
      exact k d H' (.inl hdl) B' M'
    refine ⟨_, rfl, _, _, rfl, rfl, _, rfl, ite_b (fun z => ?_) (fun z => ?_)⟩
    · exact k 0 H (.inr ⟨of_decide_eq_true z, rfl⟩) B (Mut.refl _ _)
    have n2 : 2 ≤ n := by have := of_decide_eq_false z; omega
    obtain ⟨ns, d0, i0, k0, s0, hb, hc, p1, p2⟩ := B
    refine ⟨fun σ G => ∃ (v2 : Option V) (d i k s : Int), σ = [some (.ref b), some (.int n), v2, none, none, none] ∧ G b = some (.lst [.ref c, .int d, .int i, .int k, .int s]) ∧ 0 ≤ d ∧ 0 ≤ i ∧ (∀ x o, x ≠ b → H x = some o → G x = some o), ?_, ?_⟩
    · refine ⟨_, rfl, b, _, _, _, rfl, rfl, SqL.of hb, atI_nat (j := 2) rfl, rfl, _, rfl, ?_⟩
      have fin0 : ∃ (v2 : Option V) (d i k s : Int), [some (V.ref b), some (V.int n), none, none, none, none] = [some (.ref b), some (.int n), v2, none, none, none] ∧ H b = some (.lst [.ref c, .int d, .int i, .int k, .int s]) ∧ 0 ≤ d ∧ 0 ≤ i ∧ (∀ x o, x ≠ b → H x = some o → H x = some o) := ⟨none, d0, i0, k0, s0, rfl, hb, p1, p2, fun _ _ _ h => h⟩
      refine ite_b (fun c1 => ?_) (fun _ => fin0)
      refine ⟨_, rfl, b, _, _, _, rfl, rfl, SqL.of hb, atI_nat (j := 1) rfl, _, rfl, b, _, _, _, rfl, rfl, SqL.of hb, atI_nat (j := 0) rfl, c, _, rfl, .inl (SqL.of hc), _, _, rfl, rfl, _, rfl, ?_⟩
      refine ite_b (fun c2 => ?_) (fun _ => fin0)
      have c2 := of_decide_eq_true c2
      rw [List.length_map] at c2
      obtain ⟨d0, rfl⟩ := Int.eq_ofNat_of_zero_le p1
      have il : d0 < ns.length := by omega
      have az : atI (ns.map V.int) ((d0 : Nat) : Int) = some (V.int (ns[d0])) := atI_nat (by rw [List.getElem?_map, List.getElem?_eq_getElem il]; rfl)
      generalize ns[d0] = cell at az
      refine ⟨_, rfl, b, _, _, _, rfl, rfl, SqL.of hb, atI_nat (j := 0) rfl, _, rfl, b, _, _, _, rfl, rfl, SqL.of hb, atI_nat (j := 1) rfl, c, _, _, _, rfl, rfl, SqL.of hc, az, ?_⟩
      refine ⟨_, rfl, b, _, _, _, rfl, rfl, SqL.of hb, atI_nat (j := 1) rfl, _, _, rfl, rfl, _, rfl, b, _, _, 1, rfl, rfl, hb, Evl.ixN_nat (j := 1) (by show 1 < 5; decide), ?_⟩
      have hb2 : upd H b (.lst ([V.ref c, V.int (d0 : Int), V.int i0, V.int k0, V.int s0].set 1 (V.int ((d0 : Int) + 1)))) b = some (.lst [V.ref c, V.int ((d0 : Int) + 1), V.int i0, V.int k0, V.int s0]) := upd_same
      have K2 : ∀ x o, x ≠ b → H x = some o → upd H b (.lst ([V.ref c, V.int (d0 : Int), V.int i0, V.int k0, V.int s0].set 1 (V.int ((d0 : Int) + 1)))) x = some o := fun x o h1 h => by rw [upd_ne h1]; exact h
      generalize upd H b (.lst ([V.ref c, V.int (d0 : Int), V.int i0, V.int k0, V.int s0].set 1 (V.int ((d0 : Int) + 1)))) = H2 at hb2 K2 ⊢
      refine ⟨_, rfl, b, _, _, _, rfl, rfl, SqL.of hb2, atI_nat (j := 3) rfl, _, _, rfl, rfl, Or.inr ⟨by decide, by decide⟩, _, rfl, _, _, rfl, rfl, _, _, rfl, rfl, Or.inl ⟨_, rfl, _, _, rfl, rfl, (by show (0 : Int) < _; decide), _, rfl, b, _, _, 3, rfl, rfl, hb2, Evl.ixN_nat (j := 3) (by show 3 < 5; decide), ?_⟩⟩
      have hb3 : upd H2 b (.lst ([V.ref c, V.int ((d0 : Int) + 1), V.int i0, V.int k0, V.int s0].set 3 (V.int ((k0 * 48271 + cell + 1) % 2147483647)))) b = some (.lst [V.ref c, V.int ((d0 : Int) + 1), V.int i0, V.int ((k0 * 48271 + cell + 1) % 2147483647), V.int s0]) := upd_same
      have K3 : ∀ x o, x ≠ b → H x = some o → upd H2 b (.lst ([V.ref c, V.int ((d0 : Int) + 1), V.int i0, V.int k0, V.int s0].set 3 (V.int ((k0 * 48271 + cell + 1) % 2147483647)))) x = some o := fun x o h1 h => by rw [upd_ne h1]; exact K2 x o h1 h
      refine ⟨_, rfl, _, _, rfl, rfl, ⟨by decide, by decide, by decide⟩, _, _, rfl, rfl, _, rfl, ite_b (fun c3 => ?_) (fun c3 => ⟨_, (d0 : Int) + 1, i0, _, s0, rfl, hb3, by omega, p2, K3⟩)⟩
      have c3 := of_decide_eq_true c3
      refine ⟨_, rfl, _, rfl, b, _, _, 2, rfl, rfl, hb3, Evl.ixN_nat (j := 2) (by show 2 < 5; decide), ?_⟩
      exact ⟨_, (d0 : Int) + 1, cell, _, s0, rfl, upd_same, by omega, Int.le_trans (by decide) c3, fun x o h1 h => by rw [upd_ne h1]; exact K3 x o h1 h⟩
    rintro σ G ⟨v2, d, i, k1, s, rfl, hG, q1, q2, KG⟩
    refine ⟨_, rfl, b, _, _, _, rfl, rfl, SqL.of hG, atI_nat (j := 4) rfl, _, _, rfl, rfl, _, rfl, b, _, _, 4, rfl, rfl, hG, Evl.ixN_nat (j := 4) (by show 4 < 5; decide), ?_⟩
    have hG1 : upd G b (.lst ([V.ref c, V.int d, V.int i, V.int k1, V.int s].set 4 (V.int (s + 1)))) b = some (.lst [V.ref c, V.int d, V.int i, V.int k1, V.int (s + 1)]) := upd_same
    have K4 : ∀ x o, x ≠ b → H x = some o → upd G b (.lst ([V.ref c, V.int d, V.int i, V.int k1, V.int s].set 4 (V.int (s + 1)))) x = some o := fun x o h1 h => by rw [upd_ne h1]; exact KG x o h1 h
    generalize upd G b (.lst ([V.ref c, V.int d, V.int i, V.int k1, V.int s].set 4 (V.int (s + 1)))) = G1 at hG1 K4 ⊢
    have hcG := K4 _ _ (Ne.symm nbc) hc
    refine ⟨_, rfl, b, _, _, _, rfl, rfl, SqL.of hG1, atI_nat (j := 2) rfl, _, _, rfl, rfl, _, rfl, ite_b (fun c1 => ?_) (fun c1 => ?_)⟩
    · have c1 := of_decide_eq_true c1
      refine ⟨_, rfl, b, _, _, _, rfl, rfl, SqL.of hG1, atI_nat (j := 2) rfl, Or.inl ⟨_, rfl, _, rfl, _, _, rfl, rfl, (by omega), ?_⟩⟩
      refine ⟨_, rfl, b, _, _, _, rfl, rfl, SqL.of hG1, atI_nat (j := 2) rfl, _, rfl, _, _, rfl, rfl, wide_div (b := 60) (by omega) (by omega) (by decide) (by decide), _, rfl, b, _, _, 2, rfl, rfl, hG1, Evl.ixN_nat (j := 2) (by show 2 < 5; decide), ?_⟩
      have K5 : ∀ x o, x ≠ b → H x = some o → upd G1 b (.lst ([V.ref c, V.int d, V.int i, V.int k1, V.int (s + 1)].set 2 (V.int (i / n)))) x = some o := fun x o h1 h => by rw [upd_ne h1]; exact K4 x o h1 h
      exact ⟨_, rfl, fin i _ n2 ⟨ns, d, i / n, k1, s + 1, upd_same, K5 _ _ (Ne.symm nbc) hc, q1, Int.ediv_nonneg (by omega) (by omega)⟩ K5⟩
    refine ⟨_, rfl, b, _, _, _, rfl, rfl, SqL.of hG1, atI_nat (j := 3) rfl, _, _, rfl, rfl, Or.inr ⟨by decide, by decide⟩, _, rfl, b, _, _, _, rfl, rfl, SqL.of hG1, atI_nat (j := 4) rfl, _, _, rfl, rfl, Or.inr ⟨by decide, by decide⟩, _, _, rfl, rfl, _, _, rfl, rfl, Or.inl ⟨_, rfl, _, _, rfl, rfl, (by show (0 : Int) < _; decide), ?_⟩⟩
    have f0 := Int.emod_nonneg (k1 * 40692 + (s + 1) * 69621 + 7) (show (2147483399 : Int) ≠ 0 by decide)
    have f1 := Int.emod_lt_of_pos (k1 * 40692 + (s + 1) * 69621 + 7) (show (0 : Int) < 2147483399 by decide)
    generalize (k1 * 40692 + (s + 1) * 69621 + 7) % 2147483399 = first at f0 f1
    refine ⟨_, rfl, _, rfl, _, _, rfl, rfl, Or.inr ⟨by omega, by omega⟩, _, rfl, b, _, _, _, rfl, rfl, SqL.of hG1, atI_nat (j := 3) rfl, _, _, rfl, rfl, _, rfl, b, _, _, _, rfl, rfl, SqL.of hG1, atI_nat (j := 4) rfl, _, _, rfl, rfl, Or.inr ⟨by decide, by decide⟩, _, _, rfl, rfl, Or.inl ⟨_, rfl, _, _, rfl, rfl, (by show (0 : Int) < _; decide), ?_⟩⟩
    generalize (first * first + k1 + (s + 1) * 7919) % 2147483629 = second
    refine ⟨_, rfl, _, _, rfl, rfl, wide_div (b := 60) (by decide) (by decide) (by decide) (by decide), Or.inl ⟨_, rfl, _, rfl, _, _, rfl, rfl, (by omega), ?_⟩⟩
    exact fin _ G1 n2 ⟨ns, d, i, k1, s + 1, hG1, hcG, q1, q2⟩ K4

end

section
variable {P : Program} {w : World} {K : PySem.W.Frag} {mg : Str → Option Value} {base : Heap} {A : Ad}
theorem ok_law_shuffled (T : Txt K mg A)  (g_law_take : Okd P w K mg base CX0 1 A.law_take P_law_take spTk) : Okd P w K mg base CX0 2 A.law_shuffled P_law_shuffled spSf := by
  obtain ⟨fd, F⟩ := T.d_law_shuffled
  obtain ⟨fd_law_take, G_law_take, b_law_take⟩ := g_law_take
  refine ⟨fd, F.ok sc_law_shuffled (fun vs H Q E h => ?_) (fun cdv A' outer s H vs Q E hr h => ?_), F.binds fun _ _ _ _ _ _ us hl => match us, hl with | [_, _], _ => rfl⟩
  · obtain ⟨b, c, l, xs, rfl, _⟩ := h
    rfl
  · obtain ⟨b, c, l, xs, rfl, hl, x70, nl, B, k⟩ := h
    refine ⟨_, (pss_cons (ps_set (i := 2) sc_law_shuffled.nd rfl (Or.inl rfl) (pe_callTy call_list_of (by rfl) T.n_list (by decide +kernel) (pa_cons (pv 1) pa_nil)))
      (pss_cons (ps_set (i := 3) sc_law_shuffled.nd rfl (Or.inl rfl) (pe_lst pa_nil))
      (pss_cons (ps_for PassesOwn.never rfl (pi_range1 (by rfl) T.n_range (pa_cons (pe_callB call_len_seq (by rfl) T.n_len PySem.boot_len (pa_cons (pv 1) pa_nil)) pa_nil)) (pg_name (i := 4) sc_law_shuffled.nd rfl (Or.inl rfl)) (pss_one (ps_expr (pe_bm PySem.F.plainAttrs_list PySem.F.slot_list_append PySem.F.type_list_append mt_append (pv 3) (pa_cons (pe_bm PySem.F.plainAttrs_list PySem.F.slot_list_pop PySem.F.type_list_pop mt_popAt (pv 2) (pa_cons (pe_call G_law_take (hr.mono (by decide)) (by rfl) T.g_law_take T.k_law_take b_law_take .nil pass0 (pa_cons (pv 0) (pa_cons (pe_callB call_len_seq (by rfl) T.n_len PySem.boot_len (pa_cons (pv 2) pa_nil)) pa_nil))) pa_nil)) pa_nil)))))
      (pss_one (ps_ret (pv 3)))))), ?_⟩
    refine ⟨_, rfl, l, _, rfl, .inl (SqL.of hl), fun p hp => ?_⟩
    have e0 := Ex.new (o := .lst xs) hp
    have hp1 : upd H p (.lst xs) p = some (.lst xs) := upd_same
    obtain ⟨npb, npc⟩ := B.ne hp
    have nlp : l ≠ p := ne_of_none hl hp
    have B1 := B.ex e0
    generalize upd H p (.lst xs) = H1 at e0 hp1 B1 ⊢
    refine ⟨(by show 0 ≤ sizeLine; decide), fun q hq => ?_⟩
    have e1 := Ex.new (o := .lst []) hq
    have hq1 : upd H1 q (.lst []) q = some (.lst []) := upd_same
    obtain ⟨nqb, nqc⟩ := B1.ne hq
    have npq : p ≠ q := ne_of_none hp1 hq
    have hp2 := e1 _ _ hp1
    have e01 := e0.trans e1
    have B2 := B1.ex e1
    have fq : H q = none := back_none e0 hq
    have nlq : l ≠ q := ne_of_none hl fq
    generalize upd H1 q (.lst []) = H2 at e1 hq1 hp2 e01 B2 ⊢
    refine ⟨_, rfl, l, _, rfl, .inl (SqL.of (e01 _ _ hl)), _, rfl, by omega, by omega, ?_⟩
    rw [Int.toNat_natCast]
    refine for_range (lo := 0) (n := xs.length) (fun i σ G => ∃ (v4 : Option V) (zs ys : List V), σ = [some (.ref b), some (.ref l), some (.ref p), some (.ref q), v4] ∧ Bx G b c ∧ (∀ x o, x ≠ b → x ≠ p → x ≠ q → H x = some o → G x = some o) ∧ G p = some (.lst zs) ∧ G q = some (.lst ys) ∧ (ys ++ zs).Perm xs ∧ ys.length = i) ⟨none, xs, [], rfl, B2, fun x o _ _ _ h => e01 _ _ h, hp2, hq1, List.Perm.refl _, rfl⟩ ?_ ?_
    · rintro i σ G hi ⟨v4, zs, ys, rfl, BG, kp, hpG, hqG, pm, yl⟩
      have tot := pm.length_eq
      rw [List.length_append, yl] at tot
      refine ⟨_, rfl, .inl ⟨rfl, _, SqL.of hqG⟩, _, rfl, .inl ⟨rfl, _, SqL.of hpG⟩, _, rfl, _, rfl, p, _, rfl, .inl (SqL.of hpG), b, c, (zs.length : Int), rfl, by omega, BG, fun d G1 alt B1 M1 => ?_⟩
      have hd : (d : Int) < (zs.length : Int) := by omega
      have dl : d < zs.length := by omega
      have hp3 := M1 _ _ npb hpG
      have hq3 := M1 _ _ nqb hqG
      have yd : zs[d]? = some zs[d] := List.getElem?_eq_getElem dl
      generalize zs[d] = y at yd
      refine ⟨p, zs, (d : Int), d, y, rfl, rfl, hp3, (by have : (2 : Int) ^ 63 = 9223372036854775808 := (by decide); omega), (by have : (2 : Int) ^ 63 = 9223372036854775808 := (by decide); omega), seq_nat dl, yd, ?_⟩
      have hq4 : upd G1 p (.lst (zs.eraseIdx d)) q = some (.lst ys) := by rw [upd_ne npq.symm]; exact hq3
      refine ⟨q, ys, y, rfl, rfl, hq4, small1000 (by omega), ?_⟩
      refine ⟨_, zs.eraseIdx d, ys ++ [y], rfl, B1.keep (fun o h => by rw [upd_ne nqb.symm, upd_ne npb.symm]; exact h) (fun o h => by rw [upd_ne nqc.symm, upd_ne npc.symm]; exact h), fun x o n1 n2 n3 h => by rw [upd_ne n3, upd_ne n2]; exact M1 _ _ n1 (kp x o n1 n2 n3 h), by rw [upd_ne npq]; exact upd_same, upd_same, ?_, by rw [List.length_append, yl]; rfl⟩
      have p1 : (y :: zs.eraseIdx d).Perm zs := by
        have e1 : zs = zs.take d ++ y :: zs.drop (d + 1) := by
          have := (List.take_append_drop d zs).symm
          rw [List.drop_eq_getElem_cons dl, (List.getElem?_eq_some_iff.mp yd).2] at this
          exact this
        rw [List.eraseIdx_eq_take_drop_succ]
        exact (List.perm_middle.symm).trans (by rw [← e1])
      rw [List.append_assoc]
      exact (List.Perm.append_left ys p1).trans pm
    · rintro σ G ⟨v4, zs, ys, rfl, BG, kp, hpG, hqG, pm, yl⟩
      have tot := pm.length_eq
      rw [List.length_append, yl] at tot
      have z0 : zs = [] := List.eq_nil_of_length_eq_zero (by omega)
      rw [z0, List.append_nil] at pm
      exact ⟨_, rfl, k q ys G fq BG (fun x o n h => kp x o n (ne_of_none h hp) (ne_of_none h fq) h) hqG pm⟩

end

section
variable {P : Program} {w : World} {K : PySem.W.Frag} {mg : Str → Option Value} {base : Heap} {A : Ad}
theorem ok_law_shape (T : Txt K mg A)   : Okd P w K mg base CX0 1 A.law_shape P_law_shape spShp := by
  obtain ⟨fd, F⟩ := T.d_law_shape

  refine ⟨fd, F.ok sc_law_shape (fun vs H Q E h => ?_) (fun cdv A' outer s H vs Q E hr h => ?_), F.binds fun _ _ _ _ _ _ us hl => match us, hl with | [_], _ => rfl⟩
  · obtain ⟨k0, rfl, _⟩ := h
    rfl
  · obtain ⟨k0, rfl, k15, k⟩ := h
    refine ⟨_, (pss_cons (ps_set (i := 1) sc_law_shape.nd rfl (Or.inl rfl) (pe_disp (pps_cons pe_str (pe_lst (pa_cons pe_int pa_nil)) (pps_cons pe_str (pe_lst (pa_cons pe_int (pa_cons pe_int pa_nil))) (pps_cons pe_str (pe_lst (pa_cons pe_int (pa_cons pe_int pa_nil))) (pps_cons pe_str (pe_lst (pa_cons pe_int (pa_cons pe_int (pa_cons pe_int pa_nil)))) (pps_cons pe_str (pe_lst (pa_cons pe_int (pa_cons pe_int (pa_cons pe_int pa_nil)))) (pps_cons pe_str (pe_lst (pa_cons pe_int (pa_cons pe_int (pa_cons pe_int (pa_cons pe_int pa_nil))))) (pps_cons pe_str (pe_lst (pa_cons pe_int (pa_cons pe_int (pa_cons pe_int (pa_cons pe_int pa_nil))))) (pps_cons pe_str (pe_lst (pa_cons pe_int (pa_cons pe_int (pa_cons pe_int (pa_cons pe_int pa_nil))))) (pps_cons pe_str (pe_lst (pa_cons pe_int (pa_cons pe_int (pa_cons pe_int pa_nil)))) (pps_cons pe_str (pe_lst (pa_cons pe_int (pa_cons pe_int (pa_cons pe_int pa_nil)))) (pps_cons pe_str (pe_lst (pa_cons pe_int (pa_cons pe_int (pa_cons pe_int (pa_cons pe_int pa_nil))))) (pps_cons pe_str (pe_lst (pa_cons pe_int (pa_cons pe_int (pa_cons pe_int (pa_cons pe_int pa_nil))))) (pps_cons pe_str (pe_lst (pa_cons pe_int (pa_cons pe_int (pa_cons pe_int (pa_cons pe_int pa_nil))))) (pps_cons pe_str (pe_lst (pa_cons pe_int (pa_cons pe_int (pa_cons pe_int (pa_cons pe_int (pa_cons pe_int pa_nil)))))) (pps_cons pe_str (pe_lst (pa_cons pe_int (pa_cons pe_int (pa_cons pe_int (pa_cons pe_int (pa_cons pe_int pa_nil)))))) pps_nil))))))))))))))) (by rfl) (by rfl) (by simp) (by simp)))
      (pss_one (ps_ret (pe_dget (by exact hu_of hr) (pv 1) (pv 0) (fun _ _ => rfl))))), ?_⟩
    intro p hp
    have x0 := Ex.new (o := .dK []) hp
    have gp : upd H p (.dK []) p = some (.dK []) := upd_same
    generalize upd H p (.dK []) = G0 at x0 gp ⊢
    refine ⟨(by show 1 ≤ sizeLine; decide), fun q0 h0 => ?_⟩
    have n0 := back_none x0 h0
    have y0 := Ex.new (o := .lst [V.int 0]) h0
    have x1 := x0.trans y0
    have gp := y0 _ _ gp
    have g0 : upd G0 q0 (.lst [V.int 0]) q0 = some (.lst [V.int 0]) := upd_same
    generalize upd G0 q0 (.lst [V.int 0]) = G1 at x1 gp g0 ⊢
    clear y0 x0 h0
    refine ⟨(by show 2 ≤ sizeLine; decide), fun q1 h1 => ?_⟩
    have n1 := back_none x1 h1
    have y1 := Ex.new (o := .lst [V.int 1, V.int 0]) h1
    have x2 := x1.trans y1
    have gp := y1 _ _ gp
    have g1 : upd G1 q1 (.lst [V.int 1, V.int 0]) q1 = some (.lst [V.int 1, V.int 0]) := upd_same
    have g0 := y1 _ _ g0
    generalize upd G1 q1 (.lst [V.int 1, V.int 0]) = G2 at x2 gp g0 g1 ⊢
    clear y1 x1 h1
    refine ⟨(by show 2 ≤ sizeLine; decide), fun q2 h2 => ?_⟩
    have n2 := back_none x2 h2
    have y2 := Ex.new (o := .lst [V.int 1, V.int 1]) h2
    have x3 := x2.trans y2
    have gp := y2 _ _ gp
    have g2 : upd G2 q2 (.lst [V.int 1, V.int 1]) q2 = some (.lst [V.int 1, V.int 1]) := upd_same
    have g0 := y2 _ _ g0
    have g1 := y2 _ _ g1
    generalize upd G2 q2 (.lst [V.int 1, V.int 1]) = G3 at x3 gp g0 g1 g2 ⊢
    clear y2 x2 h2
    refine ⟨(by show 3 ≤ sizeLine; decide), fun q3 h3 => ?_⟩
    have n3 := back_none x3 h3
    have y3 := Ex.new (o := .lst [V.int 1, V.int 2, V.int 1]) h3
    have x4 := x3.trans y3
    have gp := y3 _ _ gp
    have g3 : upd G3 q3 (.lst [V.int 1, V.int 2, V.int 1]) q3 = some (.lst [V.int 1, V.int 2, V.int 1]) := upd_same
    have g0 := y3 _ _ g0
    have g1 := y3 _ _ g1
    have g2 := y3 _ _ g2
    generalize upd G3 q3 (.lst [V.int 1, V.int 2, V.int 1]) = G4 at x4 gp g0 g1 g2 g3 ⊢
    clear y3 x3 h3
    refine ⟨(by show 3 ≤ sizeLine; decide), fun q4 h4 => ?_⟩
    have n4 := back_none x4 h4
    have y4 := Ex.new (o := .lst [V.int 1, V.int 2, V.int 2]) h4
    have x5 := x4.trans y4
    have gp := y4 _ _ gp
    have g4 : upd G4 q4 (.lst [V.int 1, V.int 2, V.int 2]) q4 = some (.lst [V.int 1, V.int 2, V.int 2]) := upd_same
    have g0 := y4 _ _ g0
    have g1 := y4 _ _ g1
    have g2 := y4 _ _ g2
    have g3 := y4 _ _ g3
    generalize upd G4 q4 (.lst [V.int 1, V.int 2, V.int 2]) = G5 at x5 gp g0 g1 g2 g3 g4 ⊢
    clear y4 x4 h4
    refine ⟨(by show 4 ≤ sizeLine; decide), fun q5 h5 => ?_⟩
    have n5 := back_none x5 h5
    have y5 := Ex.new (o := .lst [V.int 1, V.int 2, V.int 1, V.int 2]) h5
    have x6 := x5.trans y5
    have gp := y5 _ _ gp
    have g5 : upd G5 q5 (.lst [V.int 1, V.int 2, V.int 1, V.int 2]) q5 = some (.lst [V.int 1, V.int 2, V.int 1, V.int 2]) := upd_same
    have g0 := y5 _ _ g0
    have g1 := y5 _ _ g1
    have g2 := y5 _ _ g2
    have g3 := y5 _ _ g3
    have g4 := y5 _ _ g4
    generalize upd G5 q5 (.lst [V.int 1, V.int 2, V.int 1, V.int 2]) = G6 at x6 gp g0 g1 g2 g3 g4 g5 ⊢
    clear y5 x5 h5
    refine ⟨(by show 4 ≤ sizeLine; decide), fun q6 h6 => ?_⟩
    have n6 := back_none x6 h6
    have y6 := Ex.new (o := .lst [V.int 1, V.int 2, V.int 3, V.int 2]) h6
    have x7 := x6.trans y6
    have gp := y6 _ _ gp
    have g6 : upd G6 q6 (.lst [V.int 1, V.int 2, V.int 3, V.int 2]) q6 = some (.lst [V.int 1, V.int 2, V.int 3, V.int 2]) := upd_same
    have g0 := y6 _ _ g0
    have g1 := y6 _ _ g1
    have g2 := y6 _ _ g2
    have g3 := y6 _ _ g3
    have g4 := y6 _ _ g4
    have g5 := y6 _ _ g5
    generalize upd G6 q6 (.lst [V.int 1, V.int 2, V.int 3, V.int 2]) = G7 at x7 gp g0 g1 g2 g3 g4 g5 g6 ⊢
    clear y6 x6 h6
    refine ⟨(by show 4 ≤ sizeLine; decide), fun q7 h7 => ?_⟩
    have n7 := back_none x7 h7
    have y7 := Ex.new (o := .lst [V.int 1, V.int 2, V.int 3, V.int 0]) h7
    have x8 := x7.trans y7
    have gp := y7 _ _ gp
    have g7 : upd G7 q7 (.lst [V.int 1, V.int 2, V.int 3, V.int 0]) q7 = some (.lst [V.int 1, V.int 2, V.int 3, V.int 0]) := upd_same
    have g0 := y7 _ _ g0
    have g1 := y7 _ _ g1
    have g2 := y7 _ _ g2
    have g3 := y7 _ _ g3
    have g4 := y7 _ _ g4
    have g5 := y7 _ _ g5
    have g6 := y7 _ _ g6
    generalize upd G7 q7 (.lst [V.int 1, V.int 2, V.int 3, V.int 0]) = G8 at x8 gp g0 g1 g2 g3 g4 g5 g6 g7 ⊢
    clear y7 x7 h7
    refine ⟨(by show 3 ≤ sizeLine; decide), fun q8 h8 => ?_⟩
    have n8 := back_none x8 h8
    have y8 := Ex.new (o := .lst [V.int 0, V.int 0, V.int 0]) h8
    have x9 := x8.trans y8
    have gp := y8 _ _ gp
    have g8 : upd G8 q8 (.lst [V.int 0, V.int 0, V.int 0]) q8 = some (.lst [V.int 0, V.int 0, V.int 0]) := upd_same
    have g0 := y8 _ _ g0
    have g1 := y8 _ _ g1
    have g2 := y8 _ _ g2
    have g3 := y8 _ _ g3
    have g4 := y8 _ _ g4
    have g5 := y8 _ _ g5
    have g6 := y8 _ _ g6
    have g7 := y8 _ _ g7
    generalize upd G8 q8 (.lst [V.int 0, V.int 0, V.int 0]) = G9 at x9 gp g0 g1 g2 g3 g4 g5 g6 g7 g8 ⊢
    clear y8 x8 h8
    refine ⟨(by show 3 ≤ sizeLine; decide), fun q9 h9 => ?_⟩
    have n9 := back_none x9 h9
    have y9 := Ex.new (o := .lst [V.int 1, V.int 2, V.int 0]) h9
    have x10 := x9.trans y9
    have gp := y9 _ _ gp
    have g9 : upd G9 q9 (.lst [V.int 1, V.int 2, V.int 0]) q9 = some (.lst [V.int 1, V.int 2, V.int 0]) := upd_same
    have g0 := y9 _ _ g0
    have g1 := y9 _ _ g1
    have g2 := y9 _ _ g2
    have g3 := y9 _ _ g3
    have g4 := y9 _ _ g4
    have g5 := y9 _ _ g5
    have g6 := y9 _ _ g6
    have g7 := y9 _ _ g7
    have g8 := y9 _ _ g8
    generalize upd G9 q9 (.lst [V.int 1, V.int 2, V.int 0]) = G10 at x10 gp g0 g1 g2 g3 g4 g5 g6 g7 g8 g9 ⊢
    clear y9 x9 h9
    refine ⟨(by show 4 ≤ sizeLine; decide), fun q10 h10 => ?_⟩
    have n10 := back_none x10 h10
    have y10 := Ex.new (o := .lst [V.int 1, V.int 2, V.int 3, V.int 3]) h10
    have x11 := x10.trans y10
    have gp := y10 _ _ gp
    have g10 : upd G10 q10 (.lst [V.int 1, V.int 2, V.int 3, V.int 3]) q10 = some (.lst [V.int 1, V.int 2, V.int 3, V.int 3]) := upd_same
    have g0 := y10 _ _ g0
    have g1 := y10 _ _ g1
    have g2 := y10 _ _ g2
    have g3 := y10 _ _ g3
    have g4 := y10 _ _ g4
    have g5 := y10 _ _ g5
    have g6 := y10 _ _ g6
    have g7 := y10 _ _ g7
    have g8 := y10 _ _ g8
    have g9 := y10 _ _ g9
    generalize upd G10 q10 (.lst [V.int 1, V.int 2, V.int 3, V.int 3]) = G11 at x11 gp g0 g1 g2 g3 g4 g5 g6 g7 g8 g9 g10 ⊢
    clear y10 x10 h10
    refine ⟨(by show 4 ≤ sizeLine; decide), fun q11 h11 => ?_⟩
    have n11 := back_none x11 h11
    have y11 := Ex.new (o := .lst [V.int 1, V.int 0, V.int 0, V.int 0]) h11
    have x12 := x11.trans y11
    have gp := y11 _ _ gp
    have g11 : upd G11 q11 (.lst [V.int 1, V.int 0, V.int 0, V.int 0]) q11 = some (.lst [V.int 1, V.int 0, V.int 0, V.int 0]) := upd_same
    have g0 := y11 _ _ g0
    have g1 := y11 _ _ g1
    have g2 := y11 _ _ g2
    have g3 := y11 _ _ g3
    have g4 := y11 _ _ g4
    have g5 := y11 _ _ g5
    have g6 := y11 _ _ g6
    have g7 := y11 _ _ g7
    have g8 := y11 _ _ g8
    have g9 := y11 _ _ g9
    have g10 := y11 _ _ g10
    generalize upd G11 q11 (.lst [V.int 1, V.int 0, V.int 0, V.int 0]) = G12 at x12 gp g0 g1 g2 g3 g4 g5 g6 g7 g8 g9 g10 g11 ⊢
    clear y11 x11 h11
    refine ⟨(by show 4 ≤ sizeLine; decide), fun q12 h12 => ?_⟩
    have n12 := back_none x12 h12
    have y12 := Ex.new (o := .lst [V.int 1, V.int 2, V.int 2, V.int 2]) h12
    have x13 := x12.trans y12
    have gp := y12 _ _ gp
    have g12 : upd G12 q12 (.lst [V.int 1, V.int 2, V.int 2, V.int 2]) q12 = some (.lst [V.int 1, V.int 2, V.int 2, V.int 2]) := upd_same
    have g0 := y12 _ _ g0
    have g1 := y12 _ _ g1
    have g2 := y12 _ _ g2
    have g3 := y12 _ _ g3
    have g4 := y12 _ _ g4
    have g5 := y12 _ _ g5
    have g6 := y12 _ _ g6
    have g7 := y12 _ _ g7
    have g8 := y12 _ _ g8
    have g9 := y12 _ _ g9
    have g10 := y12 _ _ g10
    have g11 := y12 _ _ g11
    generalize upd G12 q12 (.lst [V.int 1, V.int 2, V.int 2, V.int 2]) = G13 at x13 gp g0 g1 g2 g3 g4 g5 g6 g7 g8 g9 g10 g11 g12 ⊢
    clear y12 x12 h12
    refine ⟨(by show 5 ≤ sizeLine; decide), fun q13 h13 => ?_⟩
    have n13 := back_none x13 h13
    have y13 := Ex.new (o := .lst [V.int 1, V.int 2, V.int 3, V.int 4, V.int 0]) h13
    have x14 := x13.trans y13
    have gp := y13 _ _ gp
    have g13 : upd G13 q13 (.lst [V.int 1, V.int 2, V.int 3, V.int 4, V.int 0]) q13 = some (.lst [V.int 1, V.int 2, V.int 3, V.int 4, V.int 0]) := upd_same
    have g0 := y13 _ _ g0
    have g1 := y13 _ _ g1
    have g2 := y13 _ _ g2
    have g3 := y13 _ _ g3
    have g4 := y13 _ _ g4
    have g5 := y13 _ _ g5
    have g6 := y13 _ _ g6
    have g7 := y13 _ _ g7
    have g8 := y13 _ _ g8
    have g9 := y13 _ _ g9
    have g10 := y13 _ _ g10
    have g11 := y13 _ _ g11
    have g12 := y13 _ _ g12
    generalize upd G13 q13 (.lst [V.int 1, V.int 2, V.int 3, V.int 4, V.int 0]) = G14 at x14 gp g0 g1 g2 g3 g4 g5 g6 g7 g8 g9 g10 g11 g12 g13 ⊢
    clear y13 x13 h13
    refine ⟨(by show 5 ≤ sizeLine; decide), fun q14 h14 => ?_⟩
    have n14 := back_none x14 h14
    have y14 := Ex.new (o := .lst [V.int 1, V.int 2, V.int 3, V.int 4, V.int 3]) h14
    have x15 := x14.trans y14
    have gp := y14 _ _ gp
    have g14 : upd G14 q14 (.lst [V.int 1, V.int 2, V.int 3, V.int 4, V.int 3]) q14 = some (.lst [V.int 1, V.int 2, V.int 3, V.int 4, V.int 3]) := upd_same
    have g0 := y14 _ _ g0
    have g1 := y14 _ _ g1
    have g2 := y14 _ _ g2
    have g3 := y14 _ _ g3
    have g4 := y14 _ _ g4
    have g5 := y14 _ _ g5
    have g6 := y14 _ _ g6
    have g7 := y14 _ _ g7
    have g8 := y14 _ _ g8
    have g9 := y14 _ _ g9
    have g10 := y14 _ _ g10
    have g11 := y14 _ _ g11
    have g12 := y14 _ _ g12
    have g13 := y14 _ _ g13
    generalize upd G14 q14 (.lst [V.int 1, V.int 2, V.int 3, V.int 4, V.int 3]) = G15 at x15 gp g0 g1 g2 g3 g4 g5 g6 g7 g8 g9 g10 g11 g12 g13 g14 ⊢
    clear y14 x14 h14
    refine ⟨gp, (List.range 15).map fun k => ((Sum.inr (wd k) : Key), V.ref ([q0, q1, q2, q3, q4, q5, q6, q7, q8, q9, q10, q11, q12, q13, q14].getD k 0)), rfl, (by rw [List.length_map, List.length_range]; decide), ?_⟩
    have gd : upd G15 p (.dK (mergeK [] ((List.range 15).map fun k => ((Sum.inr (wd k) : Key), V.ref ([q0, q1, q2, q3, q4, q5, q6, q7, q8, q9, q10, q11, q12, q13, q14].getD k 0))))) p = _ := upd_same
    have key := DGet.k (k := Sum.inr (wd k0)) gd
    rw [shp_get (fun k => V.ref ([q0, q1, q2, q3, q4, q5, q6, q7, q8, q9, q10, q11, q12, q13, q14].getD k 0)) k15] at key
    refine ⟨_, rfl, _, rfl, p, _, rfl, key, ?_⟩
    have all_ : ∀ j : Fin 15, H ([q0, q1, q2, q3, q4, q5, q6, q7, q8, q9, q10, q11, q12, q13, q14].getD j.val 0) = none ∧ G15 ([q0, q1, q2, q3, q4, q5, q6, q7, q8, q9, q10, q11, q12, q13, q14].getD j.val 0) = some (.lst (nI (shp j.val))) := fun j => match j with
      | 0 => ⟨n0, g0⟩
      | 1 => ⟨n1, g1⟩
      | 2 => ⟨n2, g2⟩
      | 3 => ⟨n3, g3⟩
      | 4 => ⟨n4, g4⟩
      | 5 => ⟨n5, g5⟩
      | 6 => ⟨n6, g6⟩
      | 7 => ⟨n7, g7⟩
      | 8 => ⟨n8, g8⟩
      | 9 => ⟨n9, g9⟩
      | 10 => ⟨n10, g10⟩
      | 11 => ⟨n11, g11⟩
      | 12 => ⟨n12, g12⟩
      | 13 => ⟨n13, g13⟩
      | 14 => ⟨n14, g14⟩
    obtain ⟨a1, a2⟩ := all_ ⟨k0, k15⟩
    have a1 : H ([q0, q1, q2, q3, q4, q5, q6, q7, q8, q9, q10, q11, q12, q13, q14].getD k0 0) = none := a1
    have a2 : G15 ([q0, q1, q2, q3, q4, q5, q6, q7, q8, q9, q10, q11, q12, q13, q14].getD k0 0) = some (.lst (nI (shp k0))) := a2
    have ex : Ex H (upd G15 p (.dK (mergeK [] ((List.range 15).map fun k => ((Sum.inr (wd k) : Key), V.ref ([q0, q1, q2, q3, q4, q5, q6, q7, q8, q9, q10, q11, q12, q13, q14].getD k 0)))))) := fun x o ho => by rw [upd_ne (ne_of_none ho hp)]; exact x15 _ _ ho
    refine k _ _ a1 ex ?_
    show upd G15 p _ _ = _
    rw [upd_ne (fun z => by rw [z, gp] at a2; cases a2)]
    exact a2

end

section
variable {P : Program} {w : World} {K : PySem.W.Frag} {mg : Str → Option Value} {base : Heap} {A : Ad}
theorem ok_law_bad_words (T : Txt K mg A)   : Okd P w K mg base CX0 1 A.law_bad_words P_law_bad_words spBw := by
  obtain ⟨fd, F⟩ := T.d_law_bad_words

  refine ⟨fd, F.ok sc_law_bad_words (fun vs H Q E h => ?_) (fun cdv A' outer s H vs Q E hr h => ?_), F.binds fun _ _ _ _ _ _ us hl => match us, hl with | [], _ => rfl⟩
  · obtain ⟨rfl, _⟩ := h
    rfl
  · obtain ⟨rfl, k⟩ := h
    refine ⟨_, (pss_one (ps_ret (pe_lst (pa_cons pe_str (pa_cons pe_str (pa_cons pe_str (pa_cons pe_str (pa_cons pe_str (pa_cons pe_str (pa_cons pe_str pa_nil)))))))))), ?_⟩
    exact ⟨(by show 7 ≤ sizeLine; decide), fun p hp => k p _ hp (Ex.new hp) upd_same⟩

end

section
variable {P : Program} {w : World} {K : PySem.W.Frag} {mg : Str → Option Value} {base : Heap} {A : Ad}
theorem ok_law_forced (T : Txt K mg A)  (g_law_take : Okd P w K mg base CX0 1 A.law_take P_law_take spTk) (g_law_bad_words : Okd P w K mg base CX0 1 A.law_bad_words P_law_bad_words spBw) : Okd P w K mg base CX0 2 A.law_forced P_law_forced spFcd := by
  obtain ⟨fd, F⟩ := T.d_law_forced
  obtain ⟨fd_law_take, G_law_take, b_law_take⟩ := g_law_take
  obtain ⟨fd_law_bad_words, G_law_bad_words, b_law_bad_words⟩ := g_law_bad_words
  refine ⟨fd, F.ok sc_law_forced (fun vs H Q E h => ?_) (fun cdv A' outer s H vs Q E hr h => ?_), F.binds fun _ _ _ _ _ _ us hl => match us, hl with | [_, _], _ => rfl⟩
  · obtain ⟨b, c, m0, rfl, _⟩ := h
    rfl
  · obtain ⟨b, c, m0, rfl, m2, B, k⟩ := h
    refine ⟨_, (pss_cons (ps_set (i := 2) sc_law_forced.nd rfl (Or.inr rfl) (pe_call0 G_law_bad_words (hr.mono (by decide)) (by rfl) T.g_law_bad_words T.k_law_bad_words b_law_bad_words .nil pass0))
      (pss_one (ps_ret (pe_lc (own := [("k", 3)]) (tt := tYes) (by rfl) sc_law_forced.nd (pi_range1 (by rfl) T.n_range (pa_cons (pv 1) pa_nil)) (blkOk_by (own := [("k", 3)]) (N := N_law_forced) (sc := defScope s_law_forced) (by decide +kernel)) (fun _ _ _ _ _ => (pg_name (i := 3) sc_law_forced.nd rfl (Or.inl rfl))) (fun _ _ _ _ _ => pts_nil) (fun _ _ _ _ _ => (pe_ix (ix_listK (K := K) rfl) (pv 2) (pe_call G_law_take (hr.mono (by decide)) (by rfl) T.g_law_take T.k_law_take b_law_take .nil pass0 (pa_cons (pv 0) (pa_cons pe_int pa_nil))) (fun _ _ => rfl))))))), ?_⟩
    refine ⟨rfl, fun q H1 hq e1 hw => ?_⟩
    have B1 := B.ex e1
    have nqb := (B.ne hq).1
    refine ⟨_, rfl, _, rfl, by omega, by omega, fun D hD => ?_⟩
    rw [Int.toNat_natCast]
    have eD := Ex.new (o := .lst []) hD
    obtain ⟨nDb, nDc⟩ := B1.ne hD
    have nqD : q ≠ D := ne_of_none hw hD
    have fD : H D = none := back_none e1 hD
    refine lc_range (lo := 0) (n := m0) (fun j G => Bx G b c ∧ Mut b H G ∧ WsAt G q [8, 9, 10, 11, 12, 13, 14] ∧ ∃ ks : List Nat, WsAt G D ks ∧ (∀ k ∈ ks, 8 ≤ k ∧ k < 15) ∧ ks.length = j) ⟨B1.ex eD, Mut.of_ex (e1.trans eD), eD _ _ hw, [], upd_same, (fun k h => by cases h), rfl⟩ ?_ ?_
    · rintro j G hj ⟨BG, MG, gw, ks, gD, ok, kl⟩
      refine ⟨rfl, _, rfl, _, rfl, b, c, 7, rfl, by decide, BG, fun d G2 alt B2 M2 => ?_⟩
      have d7 : d < 7 := by omega
      have gw2 := M2 _ _ nqb gw
      have gD2 := M2 _ _ nDb gD
      have at_ : atI ([8, 9, 10, 11, 12, 13, 14].map fun k => V.str (wd k)) ((d : Nat) : Int) = some (V.str (wd (8 + d))) := by
        refine atI_nat ?_
        match d, d7 with
        | 0, _ => rfl
        | 1, _ => rfl
        | 2, _ => rfl
        | 3, _ => rfl
        | 4, _ => rfl
        | 5, _ => rfl
        | 6, _ => rfl
      refine ⟨q, _, _, _, rfl, rfl, SqL.of gw2, at_, _, gD2, small1000 (by rw [List.length_map]; omega), B2.keep (fun o h => by rw [upd_ne (Ne.symm nDb)]; exact h) (fun o h => by rw [upd_ne (Ne.symm nDc)]; exact h), fun x o nx h => by rw [upd_ne (ne_of_none h fD)]; exact M2 _ _ nx (MG _ _ nx h), by show upd G2 D _ q = _; rw [upd_ne nqD]; exact gw2, ks ++ [8 + d], by show upd G2 D _ D = _; rw [upd_same, List.map_append]; rfl, fun k hk => ?_, by rw [List.length_append, kl]; rfl⟩
      rcases List.mem_append.1 hk with h | h
      · exact ok k h
      · rw [List.mem_singleton.1 h]; omega
    · rintro G ⟨BG, MG, gw, ks, gD, ok, kl⟩
      exact k D ks G fD BG MG gD ok kl

end

section
variable {P : Program} {w : World} {K : PySem.W.Frag} {mg : Str → Option Value} {base : Heap} {A : Ad}
theorem ok_law_menu (T : Txt K mg A)  (g_law_take : Okd P w K mg base CX0 1 A.law_take P_law_take spTk) : Okd P w K mg base CX0 2 A.law_menu P_law_menu spMnu := by
  obtain ⟨fd, F⟩ := T.d_law_menu
  obtain ⟨fd_law_take, G_law_take, b_law_take⟩ := g_law_take
  refine ⟨fd, F.ok sc_law_menu (fun vs H Q E h => ?_) (fun cdv A' outer s H vs Q E hr h => ?_), F.binds fun _ _ _ _ _ _ us hl => match us, hl with | [_], _ => rfl⟩
  · obtain ⟨b, c, rfl, _⟩ := h
    rfl
  · obtain ⟨b, c, rfl, B, k⟩ := h
    refine ⟨_, (pss_cons (ps_set (i := 1) sc_law_menu.nd rfl (Or.inl rfl) (pe_call G_law_take (hr.mono (by decide)) (by rfl) T.g_law_take T.k_law_take b_law_take .nil pass0 (pa_cons (pv 0) (pa_cons pe_int pa_nil))))
      (pss_cons (ps_if (pt_cmpR op_eq (pv 1) pe_int (nomark _)) (pss_one (ps_ret (pe_lst (pa_cons pe_str (pa_cons pe_str (pa_cons pe_str pa_nil)))))) pss_nil)
      (pss_cons (ps_if (pt_cmpR op_eq (pv 1) pe_int (nomark _)) (pss_one (ps_ret (pe_lst (pa_cons pe_str (pa_cons pe_str (pa_cons pe_str (pa_cons pe_str (pa_cons pe_str (pa_cons pe_str (pa_cons pe_str pa_nil)))))))))) pss_nil)
      (pss_one (ps_ret (pe_lst (pa_cons pe_str (pa_cons pe_str (pa_cons pe_str (pa_cons pe_str (pa_cons pe_str (pa_cons pe_str (pa_cons pe_str (pa_cons pe_str (pa_cons pe_str (pa_cons pe_str pa_nil)))))))))))))))), ?_⟩
    refine ⟨_, rfl, b, c, 4, rfl, by decide, B, fun d H1 hd B1 M1 => ?_⟩
    have fin : ∀ {ks : List Nat} (p : Addr), H1 p = none → (∀ k ∈ ks, k < 8) → ks.length ≤ 10 → Q (.ref p) (upd H1 p (.lst (ks.map fun k => V.str (wd k)))) := fun {ks} p hp h8 l => k p ks _ (M1.free (B1.ne hp).1 hp) (B1.ex (Ex.new hp)) (M1.ext (Ex.new hp)) upd_same h8 l
    refine ⟨_, rfl, rfl, _, rfl, ite_b (fun _ => ?_) (fun _ => ?_)⟩
    · exact ⟨(by show 3 ≤ sizeLine; decide), fun p hp => fin (ks := [2, 0, 1]) p hp (by decide) (by decide)⟩
    refine ⟨_, rfl, rfl, _, rfl, ite_b (fun _ => ?_) (fun _ => ?_)⟩
    · exact ⟨(by show 7 ≤ sizeLine; decide), fun p hp => fin (ks := [2, 1, 3, 4, 5, 6, 7]) p hp (by decide) (by decide)⟩
    · exact ⟨(by show 10 ≤ sizeLine; decide), fun p hp => fin (ks := [0, 1, 2, 3, 4, 5, 6, 7, 2, 0]) p hp (by decide) (by decide)⟩

end

section
variable {P : Program} {w : World} {K : PySem.W.Frag} {mg : Str → Option Value} {base : Heap} {A : Ad}
theorem ok_law_listed (T : Txt K mg A)   : Okd P w K mg base CX0 1 A.law_listed P_law_listed spLsd := by
  obtain ⟨fd, F⟩ := T.d_law_listed

  refine ⟨fd, F.ok sc_law_listed (fun vs H Q E h => ?_) (fun cdv A' outer s H vs Q E hr h => ?_), F.binds fun _ _ _ _ _ _ us hl => match us, hl with | [_, _], _ => rfl⟩
  · obtain ⟨k0, l, ms, rfl, _⟩ := h
    rfl
  · obtain ⟨k0, l, ms, rfl, k15, hl, ml, nd, k⟩ := h
    refine ⟨_, (pss_cons (ps_set (i := 2) sc_law_listed.nd rfl (Or.inl rfl) (pe_callTy call_list_of (by rfl) T.n_list (by decide +kernel) (pa_cons (pv 1) pa_nil)))
      (pss_cons (ps_if (pt_cmpR op_eq (pv 0) pe_str (nomark _)) (pss_one (ps_set (i := 2) sc_law_listed.nd rfl (Or.inl rfl) (pe_callB cr_sortedI (by rfl) T.n_sorted (by decide +kernel) (pa_cons (pv 2) pa_nil)))) pss_nil)
      (pss_cons (ps_if (PW.pt (pw_and (pt_cmpR op_eq (pv 0) pe_str (nomark _)) (pw_and1 (pt_cmpR op_gt (pe_ix ix_list (pv 2) pe_int (fun _ _ => rfl)) (pe_ix ix_list (pv 2) pe_int (fun _ _ => rfl)) (nomark _))))) (pss_one (ps_set (i := 2) sc_law_listed.nd rfl (Or.inl rfl) (pe_lst (pa_cons (pe_ix ix_list (pv 2) pe_int (fun _ _ => rfl)) (pa_cons (pe_ix ix_list (pv 2) pe_int (fun _ _ => rfl)) (pa_cons (pe_ix ix_list (pv 2) pe_int (fun _ _ => rfl)) (pa_cons (pe_ix ix_list (pv 2) pe_int (fun _ _ => rfl)) pa_nil))))))) pss_nil)
      (pss_cons (ps_if (pt_cmpR op_eq (pv 0) pe_str (nomark _)) (pss_cons (ps_set (i := 3) sc_law_listed.nd rfl (Or.inl rfl) (pe_bm PySem.F.plainAttrs_list PySem.F.slot_list_index PySem.F.type_list_index mt_index (pv 2) (pa_cons (pe_callB (cr_min (by rfl)) (by rfl) T.n_min (by decide +kernel) (pa_cons (pv 2) pa_nil)) pa_nil)))
      (pss_one (ps_set (i := 2) sc_law_listed.nd rfl (Or.inl rfl) (pe_op op_cat (pe_slice sl_list (pv 2) (po_some (pv 3)) po_none) (pe_slice sl_list (pv 2) po_none (po_some (pv 3))))))) pss_nil)
      (pss_one (ps_ret (pe_callTy call_tuple_of (by rfl) T.n_tuple (by decide +kernel) (pa_cons (pv 2) pa_nil)))))))), ?_⟩
    have pk : ∀ (row : List Nat) (p : Addr) (G : Hp), Ex H G → ListN G p row → row.Perm ms → (k0 < 8 → Canon (k0, row)) → ∃ p1 ys, [V.ref p] = [V.ref p1] ∧ ((SqL K G p1 ys ∧ ∀ l, G l = none → Q (V.ref l) (upd G l (.tup ys))) ∨ SqT K G p1 ys ∧ Q (V.ref p1) G) := fun row p G e hp pm cn =>
      ⟨p, _, rfl, .inl ⟨SqL.of hp, fun t ht => k t row _ (e.trans (Ex.new ht)) upd_same pm cn⟩⟩
    have nw : ∀ {j : Nat}, j < 15 → k0 ≠ j → decide (V.str (wd k0) = V.str (wd j)) = false := fun {j} hj n => by rw [wd_eq k15 hj]; exact decide_eq_false n
    refine ⟨_, rfl, l, _, rfl, .inl (SqL.of hl), fun p hp => ?_⟩
    have e1 := Ex.new (o := .lst (nI ms)) hp
    have gp : ListN (upd H p (.lst (nI ms))) p ms := upd_same
    generalize upd H p (.lst (nI ms)) = H1 at e1 gp ⊢
    by_cases k1 : k0 = 1
    · subst k1
      obtain ⟨x0, x1, rfl⟩ : ∃ x0 x1, ms = [x0, x1] := by
        match ms, ml with
        | [x0, x1], _ => exact ⟨x0, x1, rfl⟩
      refine ⟨_, rfl, rfl, _, rfl, ifT (by rw [show (Str.ofString "pair") = wd 1 from rfl]; exact decide_eq_true rfl) ?_⟩
      refine ⟨_, rfl, p, [(x0 : Int), (x1 : Int)], rfl, SqL.of gp, fun out q pm srt hq => ?_⟩
      have nd2 : x0 ≠ x1 := by simp at nd; exact nd
      obtain ⟨y0, y1, eo, pm2, lt⟩ : ∃ y0 y1 : Nat, out = [(y0 : Int), (y1 : Int)] ∧ [y0, y1].Perm [x0, x1] ∧ y0 < y1 := by
        have mem0 := (pm.mem_iff (a := (x0 : Int)))
        have mem1 := (pm.mem_iff (a := (x1 : Int)))
        have ln := pm.length_eq
        match out, ln with
        | [u, v], _ =>
          have h := (List.pairwise_cons.1 srt).1 v (List.mem_cons_self ..)
          simp at mem0 mem1 h
          by_cases lt : x0 < x1
          · exact ⟨x0, x1, by rw [show u = (x0 : Int) by omega, show v = (x1 : Int) by omega], List.Perm.refl _, lt⟩
          · exact ⟨x1, x0, by rw [show u = (x1 : Int) by omega, show v = (x0 : Int) by omega], List.Perm.swap .., by omega⟩
      subst eo
      have e2 := e1.trans (Ex.new (o := .lst (nI [y0, y1])) hq)
      refine ⟨_, rfl, rfl, _, rfl, ifF (nw (j := 5) (by decide) (by decide)) ⟨_, rfl, rfl, _, rfl, ifF (nw (j := 7) (by decide) (by decide)) ⟨_, rfl, ?_⟩⟩⟩
      exact pk [y0, y1] q _ e2 upd_same pm2 fun _ => ⟨fun _ => lt, fun z => (by cases z), fun z => (by cases z)⟩
    refine ⟨_, rfl, rfl, _, rfl, ifF (nw (j := 1) (by decide) k1) ?_⟩
    by_cases k5 : k0 = 5
    · subst k5
      obtain ⟨x0, x1, x2, x3, rfl⟩ : ∃ x0 x1 x2 x3, ms = [x0, x1, x2, x3] := by
        match ms, ml with
        | [x0, x1, x2, x3], _ => exact ⟨x0, x1, x2, x3, rfl⟩
      have sg : SqL K H1 p ([(x0 : Int), (x1 : Int), (x2 : Int), (x3 : Int)].map V.int) := SqL.of gp
      have nd4 : x0 ≠ x3 := by simp at nd; omega
      refine ⟨_, rfl, rfl, _, rfl, ifT (decide_eq_true rfl) ⟨_, rfl, p, _, _, _, rfl, rfl, sg, atI_nat (j := 0) rfl, _, rfl, p, _, _, _, rfl, rfl, sg, atI_nat (j := 3) rfl, _, _, rfl, rfl, _, rfl, ite_b (fun lt => ?_) (fun lt => ?_)⟩⟩
      · have lt := of_decide_eq_true lt
        refine ⟨_, rfl, p, _, _, _, rfl, rfl, sg, atI_nat (j := 3) rfl, _, rfl, p, _, _, _, rfl, rfl, sg, atI_nat (j := 2) rfl, _, rfl, p, _, _, _, rfl, rfl, sg, atI_nat (j := 1) rfl, _, rfl, p, _, _, _, rfl, rfl, sg, atI_nat (j := 0) rfl, (by show 4 ≤ sizeLine; decide), fun q hq => ?_⟩
        refine ⟨_, rfl, rfl, _, rfl, ifF (nw (j := 7) (by decide) (by decide)) ⟨_, rfl, ?_⟩⟩
        refine pk [x3, x2, x1, x0] q _ (e1.trans (Ex.new hq)) upd_same ?_ fun _ => ⟨fun z => (by cases z), fun _ => (by show x3 < x0; omega), fun z => (by cases z)⟩
        exact List.reverse_perm [x0, x1, x2, x3]
      · have lt := of_decide_eq_false lt
        refine ⟨_, rfl, rfl, _, rfl, ifF (nw (j := 7) (by decide) (by decide)) ⟨_, rfl, ?_⟩⟩
        exact pk _ p H1 e1 gp (List.Perm.refl _) fun _ => ⟨fun z => (by cases z), fun _ => (by show x0 < x3; omega), fun z => (by cases z)⟩
    refine ⟨_, rfl, rfl, _, rfl, ifF (nw (j := 5) (by decide) k5) ?_⟩
    by_cases k7 : k0 = 7
    · subst k7
      refine ⟨_, rfl, rfl, _, rfl, ifT (decide_eq_true rfl) ?_⟩
      obtain ⟨x0, x1, x2, x3, rfl⟩ : ∃ x0 x1 x2 x3, ms = [x0, x1, x2, x3] := by
        match ms, ml with
        | [x0, x1, x2, x3], _ => exact ⟨x0, x1, x2, x3, rfl⟩
      have sg : SqL K H1 p ([(x0 : Int), (x1 : Int), (x2 : Int), (x3 : Int)].map V.int) := SqL.of gp
      refine ⟨_, rfl, .inl ⟨rfl, _, sg⟩, _, rfl, p, [(x0 : Int), (x1 : Int), (x2 : Int), (x3 : Int)], rfl, sg, (by show 0 < 4; decide), fun z zm zl => ?_⟩
      obtain ⟨j, jl, ja, jn⟩ := first_at zm
      have jl : j < 4 := jl
      refine ⟨p, _, V.int z, j, V.int z, rfl, rfl, sg, rfl, rfl, (by show ([(x0 : Int), (x1 : Int), (x2 : Int), (x3 : Int)].map V.int)[j]? = _; rw [List.getElem?_map, ja]; rfl), eqV_ints.mpr rfl, fun m z' hm hz => ?_, ?_⟩
      · obtain ⟨y, hy, rfl⟩ := markV_int hz
        cases q : eqV (V.int y) (V.int z) with
        | false => rfl
        | true => exact absurd (eqV_ints.mp q) (jn m y hm hy)
      refine ⟨_, rfl, _, rfl, _, rfl, ?_⟩
      unfold tNoPart
      dsimp only
      refine ⟨p, _, rfl, sg, fun p1 hp1 => ?_⟩
      have ex1 := Ex.new (o := .lst (cutV (List.map V.int [(x0 : Int), x1, x2, x3]) (some (j : Int)) none)) hp1
      have g1 : upd H1 p1 (.lst (cutV (List.map V.int [(x0 : Int), x1, x2, x3]) (some (j : Int)) none)) p1 = some (.lst (nI ([x0, x1, x2, x3].drop j))) := by rw [upd_same, cut_dp (by show j ≤ 4; omega)]; show some (HO.lst ((nI [x0, x1, x2, x3]).drop j)) = _; unfold nI; rw [List.map_drop]
      have gp2 := ex1 _ _ gp
      have e2 := e1.trans ex1
      generalize upd H1 p1 (.lst (cutV (List.map V.int [(x0 : Int), x1, x2, x3]) (some (j : Int)) none)) = H2 at ex1 g1 gp2 e2 ⊢
      refine ⟨_, rfl, ?_⟩
      dsimp only
      refine ⟨_, rfl, _, rfl, ?_⟩
      refine ⟨p, _, rfl, SqL.of gp2, fun p2 hp2 => ?_⟩
      have x2' := Ex.new (o := .lst (cutV (nI [x0, x1, x2, x3]) none (some (j : Int)))) hp2
      have g2 : upd H2 p2 (.lst (cutV (nI [x0, x1, x2, x3]) none (some (j : Int)))) p2 = some (.lst (nI ([x0, x1, x2, x3].take j))) := by rw [upd_same, cut_tk]; unfold nI; rw [List.map_take]
      have g1' := x2' _ _ g1
      have e3 := e2.trans x2'
      generalize upd H2 p2 (.lst (cutV (nI [x0, x1, x2, x3]) none (some (j : Int)))) = H3 at x2' g1' g2 e3 ⊢
      refine ⟨p1, p2, _, _, rfl, rfl, g1', g2, (by unfold nI; rw [List.length_map, List.length_map, List.length_drop, List.length_take]; refine Nat.le_trans (show 4 - j + min j 4 ≤ 1000 by omega) (by decide)), fun p3 hp3 => ?_⟩
      refine ⟨_, rfl, ?_⟩
      have g3 : ListN (upd H3 p3 (.lst (nI ([x0, x1, x2, x3].drop j) ++ nI ([x0, x1, x2, x3].take j)))) p3 ([x0, x1, x2, x3].drop j ++ [x0, x1, x2, x3].take j) := by
        show upd H3 p3 _ p3 = _
        rw [upd_same]
        unfold nI
        rw [List.map_append]
      refine pk ([x0, x1, x2, x3].drop j ++ [x0, x1, x2, x3].take j) p3 _ (e3.trans (Ex.new hp3)) g3 ?_ fun _ => ⟨fun z => (by cases z), fun z => (by cases z), fun _ => ?_⟩
      · exact List.perm_append_comm.trans (by rw [List.take_append_drop])
      · show ([x0, x1, x2, x3].drop j ++ [x0, x1, x2, x3].take j).getD 0 0 = mn ([x0, x1, x2, x3].drop j ++ [x0, x1, x2, x3].take j)
        have m0 := zl (x0 : Int) (by simp)
        have m1 := zl (x1 : Int) (by simp)
        have m2 := zl (x2 : Int) (by simp)
        have m3 := zl (x3 : Int) (by simp)
        match j, jl with
        | 0, _ =>
          cases ja
          show x0 = min x0 (min x1 (min x2 x3))
          omega
        | 1, _ =>
          cases ja
          show x1 = min x1 (min x2 (min x3 x0))
          omega
        | 2, _ =>
          cases ja
          show x2 = min x2 (min x3 (min x0 x1))
          omega
        | 3, _ =>
          cases ja
          show x3 = min x3 (min x0 (min x1 x2))
          omega
    refine ⟨_, rfl, rfl, _, rfl, ifF (nw (j := 7) (by decide) k7) ⟨_, rfl, ?_⟩⟩
    exact pk ms p H1 e1 gp (List.Perm.refl _) fun _ => ⟨fun z => absurd z k1, fun z => absurd z k5, fun z => absurd z k7⟩

end

section
variable {P : Program} {w : World} {K : PySem.W.Frag} {mg : Str → Option Value} {base : Heap} {A : Ad}
theorem mn_perm29 {l m : List Nat} (h : l.Perm m) : mn l = mn m := by
  by_cases c : l = []
  · subst c
    rw [List.nil_perm.mp h]
  · have c2 : m ≠ [] := fun z => c (by subst z; exact List.perm_nil.mp h)
    have h1 := mn_le (h.mem_iff.mp (mn_mem c))
    have h2 := mn_le (h.mem_iff.mpr (mn_mem c2))
    omega
def Rw3 (G : Hp) (r : Addr) (x : Bk) : Prop := ∃ t, G r = some (.tup [.int ((mn x.2 : Nat) : Int), .str (wd x.1), .ref t]) ∧ G t = some (.tup (nI x.2))
theorem Rw3.ex {G G' : Hp} {r : Addr} {x : Bk} (h : Rw3 G r x) (e : ∀ a o, (∃ xs, o = HO.tup xs) → G a = some o → G' a = some o) : Rw3 G' r x := by
  obtain ⟨t, h1, h2⟩ := h
  exact ⟨t, e _ _ ⟨_, rfl⟩ h1, e _ _ ⟨_, rfl⟩ h2⟩
def Rws (G : Hp) (rs : List Addr) (bs : List Bk) : Prop := rs.length = bs.length ∧ ∀ (i : Nat) (t : Addr) (b : Bk), rs[i]? = some t → bs[i]? = some b → Rw3 G t b
theorem sum_cast : ∀ l : List Nat, (l.map fun n : Nat => (n : Int)).sum = ((l.sum : Nat) : Int)
  | [] => rfl
  | a :: l => by
    rw [List.map_cons, List.sum_cons, List.sum_cons, sum_cast l, Int.natCast_add]
theorem rgN29 (n : Nat) : rgV 0 (n : Int) = nI (List.range n) := by
  rw [rgV_map, List.map_map]
  rfl
theorem perm_nI {xs : List Nat} {ys : List V} (h : ys.Perm (nI xs)) : ∃ ns, ys = nI ns ∧ ns.Perm xs := by
  let f : V → Nat := fun v => match v with | .int z => z.toNat | _ => 0
  have hf : ∀ l : List Nat, (nI l).map f = l := fun l => by
    unfold nI
    rw [List.map_map]
    exact (List.map_congr_left fun x _ => Int.toNat_natCast x).trans (List.map_id l)
  refine ⟨ys.map f, ?_, ?_⟩
  · have : ∀ v ∈ ys, V.int ((f v : Nat) : Int) = v := fun v hv => by
      obtain ⟨x, _, rfl⟩ := List.mem_map.1 (h.mem_iff.1 hv)
      rfl
    unfold nI
    rw [List.map_map]
    exact ((List.map_congr_left this).trans (List.map_id ys)).symm
  · have := h.map f
    rw [hf] at this
    exact this
theorem Rw3.uq {G : Hp} {r : Addr} {x y : Bk} (h : Rw3 G r x) (h' : Rw3 G r y) (hx : x.1 < 15) (hy : y.1 < 15) : x = y := by
  obtain ⟨t, a, b⟩ := h
  obtain ⟨t', a', b'⟩ := h'
  rw [a] at a'
  injection a' with a'
  injection a' with a'
  injection a' with _ a'
  injection a' with e1 a'
  injection a' with e2 _
  injection e1 with e1
  injection e2 with e2
  subst e2
  rw [b] at b'
  injection b' with b'
  injection b' with b'
  have e3 : x.2 = y.2 := by
    have f : ∀ l : List Nat, (nI l).map (fun v => match v with | .int z => z.toNat | _ => 0) = l := fun l => by
      unfold nI
      rw [List.map_map]
      exact (List.map_congr_left fun x _ => Int.toNat_natCast x).trans (List.map_id l)
    rw [← f x.2, ← f y.2, b']
  exact Prod.ext ((wd_inj hx hy).1 e1) e3
theorem rows_of {G : Hp} {rs : List Addr} {bs : List Bk} (h : Rws G rs bs) (h15 : ∀ x ∈ bs, x.1 < 15) : ∃ bo : Addr → Bk, bs = rs.map bo ∧ ∀ r ∈ rs, Rw3 G r (bo r) := by
  classical
  have ex : ∀ r ∈ rs, ∃ x, x ∈ bs ∧ Rw3 G r x := fun r hr => by
    obtain ⟨i, hi⟩ := List.getElem?_of_mem hr
    have il := (List.getElem?_eq_some_iff.mp hi).1
    have hb : bs[i]? = some (bs[i]'(by rw [← h.1]; exact il)) := List.getElem?_eq_getElem _
    exact ⟨_, List.mem_of_getElem? hb, h.2 i r _ hi hb⟩
  let bo : Addr → Bk := fun r => if g : ∃ x, x ∈ bs ∧ Rw3 G r x then Classical.choose g else (0, [])
  have hbo : ∀ r ∈ rs, bo r ∈ bs ∧ Rw3 G r (bo r) := fun r hr => by
    have g := ex r hr
    have e : bo r = Classical.choose g := dif_pos g
    rw [e]
    exact Classical.choose_spec g
  refine ⟨bo, ?_, fun r hr => (hbo r hr).2⟩
  refine List.ext_getElem (by rw [List.length_map, h.1]) fun i h1 h2 => ?_
  rw [List.getElem_map]
  have il : i < rs.length := by rw [h.1]; exact h1
  have hr : rs[i]? = some rs[i] := List.getElem?_eq_getElem il
  have hb : bs[i]? = some bs[i] := List.getElem?_eq_getElem h1
  have m1 := hbo rs[i] (List.mem_of_getElem? hr)
  exact (h.2 i _ _ hr hb).uq m1.2 (h15 _ (List.mem_of_getElem? hb)) (h15 _ m1.1)
theorem mins_nd : ∀ {l : List Bk}, (l.flatMap (·.2)).Nodup → (∀ x ∈ l, x.2 ≠ []) → (l.map fun b => mn b.2).Nodup
  | [], _, _ => List.nodup_nil
  | a :: l, nd, ne => by
    rw [List.flatMap_cons] at nd
    obtain ⟨_, n2, n3⟩ := List.nodup_append.1 nd
    rw [List.map_cons, List.nodup_cons]
    refine ⟨fun h => ?_, mins_nd n2 fun x hx => ne x (List.mem_cons_of_mem _ hx)⟩
    obtain ⟨c, hc, e⟩ := List.mem_map.1 h
    have e : mn c.2 = mn a.2 := e
    exact absurd e.symm (n3 _ (mn_mem (ne a (List.mem_cons_self ..))) _ (List.mem_flatMap.2 ⟨c, hc, mn_mem (ne c (List.mem_cons_of_mem _ hc))⟩))
theorem inj_nd {α β : Type} {f : α → β} : ∀ {l : List α}, (l.map f).Nodup → ∀ {a b : α}, a ∈ l → b ∈ l → f a = f b → a = b
  | [], _, _, _, h, _, _ => by cases h
  | x :: l, nd, a, b, ha, hb, e => by
    rw [List.map_cons, List.nodup_cons] at nd
    rcases List.mem_cons.1 ha with ea | ha <;> rcases List.mem_cons.1 hb with eb | hb
    · rw [ea, eb]
    · rw [ea] at e
      exact absurd (List.mem_map.2 ⟨b, hb, e.symm⟩) nd.1
    · rw [eb] at e
      exact absurd (List.mem_map.2 ⟨a, ha, e⟩) nd.1
    · exact inj_nd nd.2 ha hb e

theorem ok_law_built (T : Txt K mg A)  (g_law_take : Okd P w K mg base CX0 1 A.law_take P_law_take spTk) (g_law_shape : Okd P w K mg base CX0 1 A.law_shape P_law_shape spShp) (g_law_shuffled : Okd P w K mg base CX0 2 A.law_shuffled P_law_shuffled spSf) (g_law_listed : Okd P w K mg base CX0 1 A.law_listed P_law_listed spLsd) : Okd P w K mg base CX0 3 A.law_built P_law_built spBu := by
  obtain ⟨fd, F⟩ := T.d_law_built
  obtain ⟨fd_law_take, G_law_take, b_law_take⟩ := g_law_take
  obtain ⟨fd_law_shape, G_law_shape, b_law_shape⟩ := g_law_shape
  obtain ⟨fd_law_shuffled, G_law_shuffled, b_law_shuffled⟩ := g_law_shuffled
  obtain ⟨fd_law_listed, G_law_listed, b_law_listed⟩ := g_law_listed
  refine ⟨fd, F.ok sc_law_built (fun vs H Q E h => ?_) (fun cdv A' outer s H vs Q E hr h => ?_), F.binds fun _ _ _ _ _ _ us hl => match us, hl with | [_, _, _, _], _ => rfl⟩
  · obtain ⟨b, c, m, f, most, ks, fs, rfl, _⟩ := h
    rfl
  · obtain ⟨b, c, m, f, most, ks, fs, rfl, B, hm, nm, ok8, k10, hf, nf, okf, f2, room64, k⟩ := h
    refine ⟨_, (pss_cons (ps_set (i := 4) sc_law_built.nd rfl (Or.inr rfl) (pe_call G_law_take (hr.mono (by decide)) (by rfl) T.g_law_take T.k_law_take b_law_take .nil pass0 (pa_cons (pv 0) (pa_cons (pe_op op_add (pv 1) pe_int) pa_nil))))
      (pss_cons (ps_set (i := 5) sc_law_built.nd rfl (Or.inr rfl) (pe_lc (own := [("word", 10)]) (tt := tYes) (by rfl) sc_law_built.nd (pi_list (pv 2)) (blkOk_by (own := [("word", 10)]) (N := N_law_built) (sc := defScope s_law_built) (by decide +kernel)) (fun _ _ _ _ _ => (pg_name (i := 10) sc_law_built.nd rfl (Or.inl rfl))) (fun _ _ _ _ _ => pts_nil) (fun _ _ _ _ _ => (pe_callB (call_lenK (K := K) rfl) (by rfl) T.n_len PySem.boot_len (pa_cons (pe_call G_law_shape (hr.mono (by decide)) (by rfl) T.g_law_shape T.k_law_shape b_law_shape .nil pass0 (pa_cons (pv 10) pa_nil)) pa_nil)))))
      (pss_cons (ps_set (i := 6) sc_law_built.nd rfl (Or.inl rfl) (pe_lst pa_nil))
      (pss_cons (ps_for PassesOwn.never rfl (pi_range1 (by rfl) T.n_range (pa_cons (pv 1) pa_nil)) (pg_name (i := 7) sc_law_built.nd rfl (Or.inl rfl)) (pss_cons (ps_setLc (i := 8) (own := [("at", 9)]) (tt := _) (by rfl) sc_law_built.nd rfl rfl (sw_true rfl rfl rfl (by decide +kernel)) (pi_range1 (by rfl) T.n_range (pa_cons (pe_callB call_len_seq (by rfl) T.n_len PySem.boot_len (pa_cons (pv 2) pa_nil)) pa_nil)) (blkOk_by (own := [("at", 9)]) (N := N_law_built) (sc := defScope s_law_built) (by decide +kernel)) (fun _ _ _ _ _ => (pg_name (i := 9) sc_law_built.nd rfl (Or.inl rfl))) (fun _ _ _ _ _ => (pts_one (pt_cmpR op_le (pe_ix (ix_listK (K := K) rfl) (pv 5) (pv 9) (fun _ _ => rfl)) (pv 4) (nomark _)))) (fun _ _ _ _ _ => (pv 9)))
      (pss_one (ps_if (pt_truth (pv 8) (by intro _; rfl)) (pss_cons (ps_set (i := 9) sc_law_built.nd rfl (Or.inl rfl) (pe_ix ix_list (pv 8) (pe_call G_law_take (hr.mono (by decide)) (by rfl) T.g_law_take T.k_law_take b_law_take .nil pass0 (pa_cons (pv 0) (pa_cons (pe_callB call_len_seq (by rfl) T.n_len PySem.boot_len (pa_cons (pv 8) pa_nil)) pa_nil))) (fun _ _ => rfl)))
      (pss_cons (ps_expr (pe_bm PySem.F.plainAttrs_list PySem.F.slot_list_append PySem.F.type_list_append mt_append (pv 6) (pa_cons (pe_ix ix_list (pv 2) (pv 9) (fun _ _ => rfl)) pa_nil)))
      (pss_one (ps_set (i := 4) sc_law_built.nd rfl (Or.inr rfl) (pe_op op_sub (pv 4) (pe_ix ix_list (pv 5) (pv 9) (fun _ _ => rfl))))))) pss_nil))))
      (pss_cons (ps_for PassesOwn.never rfl (pi_list (pv 3)) (pg_name (i := 10) sc_law_built.nd rfl (Or.inl rfl)) (pss_one (ps_expr (pe_bm PySem.F.plainAttrs_list PySem.F.slot_list_insert PySem.F.type_list_insert mt_insert (pv 6) (pa_cons (pe_call G_law_take (hr.mono (by decide)) (by rfl) T.g_law_take T.k_law_take b_law_take .nil pass0 (pa_cons (pv 0) (pa_cons (pe_op op_add (pe_callB call_len_seq (by rfl) T.n_len PySem.boot_len (pa_cons (pv 6) pa_nil)) pe_int) pa_nil))) (pa_cons (pv 10) pa_nil))))))
      (pss_cons (ps_set (i := 11) sc_law_built.nd rfl (Or.inl rfl) (pe_call G_law_shuffled (hr.mono (by decide)) (by rfl) T.g_law_shuffled T.k_law_shuffled b_law_shuffled .nil pass0 (pa_cons (pv 0) (pa_cons (pe_listRg (by rfl) (by rfl) T.n_list (prg_1 (by rfl) T.n_range (pe_callB (cr_sum (by rfl)) (by rfl) T.n_sum (by decide +kernel) (pa_cons (pe_lc (own := [("word", 10)]) (tt := tYes) (by rfl) sc_law_built.nd (pi_list (pv 6)) (blkOk_by (own := [("word", 10)]) (N := N_law_built) (sc := defScope s_law_built) (by decide +kernel)) (fun _ _ _ _ _ => (pg_name (i := 10) sc_law_built.nd rfl (Or.inl rfl))) (fun _ _ _ _ _ => pts_nil) (fun _ _ _ _ _ => (pe_callB (call_lenK (K := K) rfl) (by rfl) T.n_len PySem.boot_len (pa_cons (pe_call G_law_shape (hr.mono (by decide)) (by rfl) T.g_law_shape T.k_law_shape b_law_shape .nil pass0 (pa_cons (pv 10) pa_nil)) pa_nil)))) pa_nil)))) pa_nil))))
      (pss_cons (ps_set (i := 12) sc_law_built.nd rfl (Or.inl rfl) (pe_lst pa_nil))
      (pss_cons (ps_for PassesOwn.never rfl (pi_list (pv 6)) (pg_name (i := 10) sc_law_built.nd rfl (Or.inl rfl)) (pss_cons (ps_set (i := 13) sc_law_built.nd rfl (Or.inl rfl) (pe_callB call_len_seq (by rfl) T.n_len PySem.boot_len (pa_cons (pe_call G_law_shape (hr.mono (by decide)) (by rfl) T.g_law_shape T.k_law_shape b_law_shape .nil pass0 (pa_cons (pv 10) pa_nil)) pa_nil)))
      (pss_cons (ps_expr (pe_bm PySem.F.plainAttrs_list PySem.F.slot_list_append PySem.F.type_list_append mt_append (pv 12) (pa_cons (pe_tup (pa_cons (pe_callB (cr_min (by rfl)) (by rfl) T.n_min (by decide +kernel) (pa_cons (pe_slice sl_list (pv 11) po_none (po_some (pv 13))) pa_nil)) (pa_cons (pv 10) (pa_cons (pe_call G_law_listed (hr.mono (by decide)) (by rfl) T.g_law_listed T.k_law_listed b_law_listed .nil pass0 (pa_cons (pv 10) (pa_cons (pe_slice sl_list (pv 11) po_none (po_some (pv 13))) pa_nil))) pa_nil)))) pa_nil)))
      (pss_one (ps_set (i := 11) sc_law_built.nd rfl (Or.inl rfl) (pe_slice sl_list (pv 11) (po_some (pv 13)) po_none))))))
      (pss_one (ps_ret (pe_lc (own := [("row", 14)]) (tt := tYes) (by rfl) sc_law_built.nd (pi_list (pe_callB (L2.cr_sortedV) (by rfl) T.n_sorted (by decide +kernel) (pa_cons (pv 12) pa_nil))) (blkOk_by (own := [("row", 14)]) (N := N_law_built) (sc := defScope s_law_built) (by decide +kernel)) (fun _ _ _ _ _ => (pg_name (i := 14) sc_law_built.nd rfl (Or.inl rfl))) (fun _ _ _ _ _ => pts_nil) (fun _ _ _ _ _ => (pe_tup (pa_cons (pe_ix (ix_tupK (K := K) rfl) (pv 14) pe_int (fun _ _ => rfl)) (pa_cons (pe_ix (ix_tupK (K := K) rfl) (pv 14) pe_int (fun _ _ => rfl)) pa_nil))))))))))))))), ?_⟩
    have nbc := B.bc
    refine ⟨_, rfl, _, rfl, _, _, rfl, rfl, b, c, ((most : Int) + 1), rfl, by omega, B, fun room0 H1 alt B1 M1 => ?_⟩
    have r0 : room0 ≤ most := by omega
    have gm1 := M1 _ _ nm hm
    have gf1 := M1 _ _ nf hf
    refine ⟨_, rfl, m, rfl, ⟨_, SqL.of gm1⟩, fun D hD => ?_⟩
    refine lc_list (K := K) (a := m) (xs := ks.map fun k => V.str (wd k)) (fun j G => Ex H1 G ∧ ListN G D ((ks.take j).map fun k => (shp k).length)) ⟨Ex.new hD, upd_same⟩ (fun j G _ q => SqL.of (q.1 _ _ gm1)) ?_ ?_
    · rintro j x G hx ⟨eG, gD⟩
      rw [List.getElem?_map] at hx
      cases hk : ks[j]? with
      | none => rw [hk] at hx; cases hx
      | some k0 =>
      rw [hk] at hx
      cases hx
      have k8 := ok8 k0 (List.mem_of_getElem? hk)
      have jl : j < ks.length := (List.getElem?_eq_some_iff.mp hk).1
      refine ⟨rfl, _, rfl, k0, rfl, by omega, fun p G1 np e1 gp => ?_⟩
      refine ⟨p, _, rfl, .inl (SqL.of gp), _, e1 _ _ gD, small1000 (by unfold nI; rw [List.length_map, List.length_map, List.length_take]; omega), ?_⟩
      rw [nI_len]
      exact ⟨fun x o h => by rw [upd_ne (ne_of_none h hD)]; exact eG x o h |> fun z => e1 _ _ z, by show upd G1 D _ D = _; rw [upd_same]; unfold nI; rw [List.take_add_one, hk, List.map_append, List.map_append]; rfl⟩
    · rintro G ⟨eG, gD⟩
      rw [List.length_map, List.take_length] at gD
      have B2 := B1.ex eG
      have M2 := M1.ext eG
      obtain ⟨nDb, nDc⟩ := B1.ne hD
      have fD := bx_back B1 M1 hD
      refine ⟨(by show 0 ≤ sizeLine; decide), fun w hw => ?_⟩
      have ew := Ex.new (o := .lst []) hw
      have gw : WsAt (upd G w (.lst [])) w [] := upd_same
      have gD0 := gD
      have gD := ew _ _ gD
      obtain ⟨nwb, nwc⟩ := B2.ne hw
      have fw := bx_back B2 M2 hw
      have nDw : D ≠ w := ne_of_none gD0 hw
      have B3 := B2.ex ew
      have M3 := M2.ext ew
      generalize upd G w (.lst []) = H3 at gw gD B3 M3 ⊢
      clear ew eG
      refine ⟨_, rfl, _, rfl, by omega, by omega, ?_⟩
      rw [Int.toNat_natCast]
      refine for_range (lo := 0) (n := most) (fun i σ G => ∃ (v7 v8 v9 : Option V) (room : Nat) (ws : List Nat), σ = [some (.ref b), some (.int (most : Int)), some (.ref m), some (.ref f), some (.int (room : Int)), some (.ref D), some (.ref w), v7, v8, v9, none, none, none, none, none] ∧ Bx G b c ∧ Mut b H G ∧ ListN G D (ks.map fun k => (shp k).length) ∧ WsAt G w ws ∧ (∀ k ∈ ws, k < 8) ∧ (ws.map fun k => (shp k).length).sum + room ≤ most ∧ ws.length ≤ i) ⟨none, none, none, room0, [], rfl, B3, M3, gD, gw, (fun k h => by cases h), (by show 0 + room0 ≤ most; omega), Nat.le_refl _⟩ ?_ ?_
      · rintro i σ G hi ⟨v7, v8, v9, room, ws, rfl, BG, MG, gD, gw, w8, tot, wl⟩
        refine ⟨_, rfl, m, _, rfl, .inl (SqL.of (MG _ _ nm hm)), _, rfl, by rw [List.length_map]; omega, by rw [List.length_map]; omega, fun C hC => ?_⟩
        rw [Int.toNat_natCast, List.length_map]
        have nDC : D ≠ C := ne_of_none gD hC
        have nwC : w ≠ C := ne_of_none gw hC
        obtain ⟨nCb, nCc⟩ := BG.ne hC
        have fC := bx_back BG MG hC
        refine lc_range (lo := 0) (n := ks.length) (fun j G' => Ex G G' ∧ ∃ as : List Nat, ListN G' C as ∧ as.length ≤ j ∧ ∀ a ∈ as, ∃ k0, ks[a]? = some k0 ∧ (shp k0).length ≤ room) ⟨Ex.new hC, [], upd_same, Nat.le_refl _, fun a h => by cases h⟩ ?_ ?_
        · rintro j G' hj ⟨eG', as, gC, al, oka⟩
          rw [Int.zero_add]
          have hj' : ks[j]? = some ks[j] := List.getElem?_eq_getElem hj
          generalize ks[j] = k0 at hj'
          refine ⟨rfl, ?_⟩
          refine ⟨_, rfl, _, rfl, D, _, _, _, rfl, rfl, SqL.of (eG' _ _ gD), atI_nat (j := j) (by unfold nI; rw [List.getElem?_map, List.getElem?_map, hj']; rfl), ?_⟩
          refine ⟨_, rfl, _, _, rfl, rfl, _, rfl, ite_b (fun le => ?_) (fun _ => ⟨eG', as, gC, by omega, oka⟩)⟩
          have le : ((shp k0).length : Int) ≤ (room : Int) := of_decide_eq_true le
          refine ⟨_, rfl, _, gC, small1000 (by rw [nI_len]; omega), fun x o h => by rw [upd_ne (ne_of_none h hC)]; exact eG' x o h, as ++ [j], by show upd G' C _ C = _; rw [upd_same]; unfold nI; rw [List.map_append]; rfl, by rw [List.length_append]; show as.length + 1 ≤ _; omega, fun a ha => ?_⟩
          rcases List.mem_append.1 ha with h | h
          · exact oka a h
          · rw [List.mem_singleton.1 h]
            exact ⟨k0, hj', by omega⟩
        · rintro G' ⟨eG', as, gC, al, oka⟩
          have B5 := BG.ex eG'
          have M5 := MG.ext eG'
          have gD5 := eG' _ _ gD
          have gw5 := eG' _ _ gw
          refine ⟨_, rfl, _, .inl ⟨_, SqL.of gC, rfl⟩, ?_⟩
          cases as with
          | nil => exact ifF rfl ⟨_, _, _, room, ws, rfl, B5, M5, gD5, gw5, w8, tot, by omega⟩
          | cons a0 as =>
          refine ifT rfl ⟨_, rfl, _, rfl, _, rfl, C, _, rfl, .inl (SqL.of gC), b, c, _, rfl, ?_, B5, fun d G6 alt B6 M6 => ?_⟩
          · show ((nI (a0 :: as)).length : Int) < 1152921504606846976
            rw [nI_len]
            omega
          have ln : (nI (a0 :: as)).length = (a0 :: as).length := nI_len _
          have dl : d < (a0 :: as).length := by
            rw [← ln]
            rcases alt with h | ⟨h, h2⟩
            · exact Int.ofNat_lt.mp h
            · rw [h2, ln]; exact Nat.succ_pos _
          have gC6 := M6 _ _ nCb gC
          have gw6 := M6 _ _ nwb gw5
          have gD6 := M6 _ _ nDb gD5
          have M56 := M5.trans M6
          have gm6 := M56 _ _ nm hm
          have had : (a0 :: as)[d]? = some (a0 :: as)[d] := List.getElem?_eq_getElem dl
          have hin := List.getElem_mem dl
          generalize (a0 :: as)[d] = a at had hin
          obtain ⟨k0, hk0, fit⟩ := oka a hin
          have k8 := ok8 k0 (List.mem_of_getElem? hk0)
          refine ⟨C, _, _, _, rfl, rfl, SqL.of gC6, atI_nat (j := d) (by show (nI (a0 :: as))[d]? = _; unfold nI; rw [List.getElem?_map, had]; rfl), ?_⟩
          refine ⟨_, rfl, .inl ⟨rfl, _, SqL.of gw6⟩, _, rfl, _, rfl, m, _, _, _, rfl, rfl, SqL.of gm6, atI_nat (j := a) (by rw [List.getElem?_map, hk0]; rfl), w, _, _, rfl, rfl, gw6, small1000 (by rw [List.length_map]; omega), ?_⟩
          have gD7 : ListN (upd G6 w (.lst ((ws.map fun k => V.str (wd k)) ++ [V.str (wd k0)]))) D (ks.map fun k => (shp k).length) := by show upd G6 w _ D = _; rw [upd_ne nDw]; exact gD6
          have gw7 : WsAt (upd G6 w (.lst ((ws.map fun k => V.str (wd k)) ++ [V.str (wd k0)]))) w (ws ++ [k0]) := by show upd G6 w _ w = _; rw [upd_same, List.map_append]; rfl
          refine ⟨_, rfl, _, rfl, _, rfl, D, _, _, _, rfl, rfl, SqL.of gD7, atI_nat (j := a) (by unfold nI; rw [List.getElem?_map, List.getElem?_map, hk0]; rfl), _, _, rfl, rfl, ?_⟩
          have er : (room : Int) - ((shp k0).length : Int) = ((room - (shp k0).length : Nat) : Int) := by omega
          refine ⟨some (V.int (0 + (i : Int))), some (V.ref C), some (V.int (a : Int)), room - (shp k0).length, ws ++ [k0], congrArg (fun z : Int => [some (.ref b), some (.int (most : Int)), some (.ref m), some (.ref f), some (.int z), some (.ref D), some (.ref w), some (V.int (0 + (i : Int))), some (V.ref C), some (V.int (a : Int)), none, none, none, none, none]) er, B6.keep (fun o h => by rw [upd_ne (Ne.symm nwb)]; exact h) (fun o h => by rw [upd_ne (Ne.symm nwc)]; exact h), fun x o nx h => by rw [upd_ne (ne_of_none h fw)]; exact M56 _ _ nx h, gD7, gw7, fun k1 h1 => ?_, ?_, ?_⟩
          · rcases List.mem_append.1 h1 with h | h
            · exact w8 k1 h
            · rw [List.mem_singleton.1 h]; exact k8
          · rw [List.map_append, List.sum_append]
            show _ + ((shp k0).length + 0) + _ ≤ _
            omega
          · rw [List.length_append]
            show ws.length + 1 ≤ _
            omega
      · rintro σ G ⟨v7, v8, v9, room, ws, rfl, BG, MG, gD, gw, w8, tot, wl⟩
        refine ⟨_, rfl, f, rfl, ⟨_, SqL.of (MG _ _ nf hf)⟩, for_list (K := K) (a := f) (xs := fs.map fun k => V.str (wd k)) (fun i σ G => ∃ (v10 : Option V) (ws : List Nat), σ = [some (.ref b), some (.int (most : Int)), some (.ref m), some (.ref f), some (.int (room : Int)), some (.ref D), some (.ref w), v7, v8, v9, v10, none, none, none, none] ∧ Bx G b c ∧ Mut b H G ∧ WsAt G w ws ∧ (∀ k ∈ ws, k < 15 ∧ (k < 8 ∨ k ∈ fs)) ∧ (ws.map fun k => (shp k).length).sum ≤ most + 5 * i ∧ ws.length ≤ most + i) ⟨none, ws, rfl, BG, MG, gw, (fun k h => ⟨by have := w8 k h; omega, .inl (w8 k h)⟩), by omega, by omega⟩ (fun i σ G _ ⟨_, _, _, _, M, _⟩ => SqL.of (M _ _ nf hf)) ?_ ?_⟩
        · rintro i x σ G hx ⟨v10, ws, rfl, BG, MG, gw, wok, tot, wl⟩
          rw [List.getElem?_map] at hx
          cases hk : fs[i]? with
          | none => rw [hk] at hx; cases hx
          | some k0 =>
          rw [hk] at hx
          cases hx
          have kf := List.mem_of_getElem? hk
          have il : i < fs.length := (List.getElem?_eq_some_iff.mp hk).1
          refine ⟨_, rfl, .inl ⟨rfl, _, SqL.of gw⟩, _, rfl, _, rfl, w, _, rfl, .inl (SqL.of gw), _, _, rfl, rfl, b, c, _, rfl, ?_, BG, fun d G6 alt B6 M6 => ?_⟩
          · rw [List.length_map]; omega
          have gw6 := M6 _ _ nwb gw
          refine ⟨_, rfl, w, _, (d : Int), _, rfl, rfl, gw6, small1000 (by rw [List.length_map]; omega), by omega, ?_, ?_⟩
          · rw [List.length_map] at alt
            have : (2 : Int) ^ 63 = 9223372036854775808 := (by decide)
            omega
          rw [Int.toNat_natCast]
          refine ⟨some (V.str (wd k0)), ws.take d ++ [k0] ++ ws.drop d, rfl, B6.keep (fun o h => by rw [upd_ne (Ne.symm nwb)]; exact h) (fun o h => by rw [upd_ne (Ne.symm nwc)]; exact h), fun x o nx h => by rw [upd_ne (ne_of_none h fw)]; exact M6 _ _ nx (MG _ _ nx h), by show upd G6 w _ w = _; rw [upd_same, List.map_append, List.map_append, List.map_take, List.map_drop]; rfl, fun k1 h1 => ?_, ?_, ?_⟩
          · rcases List.mem_append.1 h1 with h | h
            · rcases List.mem_append.1 h with h | h
              · exact wok k1 (List.mem_of_mem_take h)
              · rw [List.mem_singleton.1 h]; exact ⟨(okf k0 kf).2, .inr kf⟩
            · exact wok k1 (List.mem_of_mem_drop h)
          · have s0 : (ws.map fun k => (shp k).length).sum = ((ws.take d).map fun k => (shp k).length).sum + ((ws.drop d).map fun k => (shp k).length).sum := by
              rw [← List.sum_append, ← List.map_append, List.take_append_drop]
            have s1 := (shp_pos (okf k0 kf).2).2
            rw [List.map_append, List.map_append, List.sum_append, List.sum_append]
            show _ + ((shp k0).length + 0) + _ ≤ _
            omega
          · have s0 : ws.length = (ws.take d).length + (ws.drop d).length := by
              rw [← List.length_append, List.take_append_drop]
            rw [List.length_append, List.length_append]
            show _ + 1 + _ ≤ _
            omega
        · rintro σ G ⟨v10, ws, rfl, BG, MG, gw, wok, tot, wl⟩
          rw [List.length_map] at tot wl
          refine ⟨_, rfl, _, rfl, w, rfl, ⟨_, SqL.of gw⟩, fun D2 hD2 => ?_⟩
          have wb : ws.length ≤ 66 := by omega
          refine lc_list (K := K) (a := w) (xs := ws.map fun k => V.str (wd k)) (fun j G' => Ex G G' ∧ ListN G' D2 ((ws.take j).map fun k => (shp k).length)) ⟨Ex.new hD2, upd_same⟩ (fun j G' _ q => SqL.of (q.1 _ _ gw)) ?_ ?_
          · rintro j x G' hx ⟨eG, gD⟩
            rw [List.getElem?_map] at hx
            cases hk : ws[j]? with
            | none => rw [hk] at hx; cases hx
            | some k0 =>
            rw [hk] at hx
            cases hx
            have k8 := wok k0 (List.mem_of_getElem? hk)
            have jl : j < ws.length := (List.getElem?_eq_some_iff.mp hk).1
            refine ⟨rfl, _, rfl, k0, rfl, k8.1, fun p G1 np e1 gp => ?_⟩
            refine ⟨p, _, rfl, .inl (SqL.of gp), _, e1 _ _ gD, small1000 (by unfold nI; rw [List.length_map, List.length_map, List.length_take]; omega), ?_⟩
            rw [nI_len]
            exact ⟨fun x o h => by rw [upd_ne (ne_of_none h hD2)]; exact e1 _ _ (eG x o h), by show upd G1 D2 _ D2 = _; rw [upd_same]; unfold nI; rw [List.take_add_one, hk, List.map_append, List.map_append]; rfl⟩
          · rintro G' ⟨eG, gD2⟩
            rw [List.length_map, List.take_length] at gD2
            have B5 := BG.ex eG
            have M5 := MG.ext eG
            have gw5 := eG _ _ gw
            obtain ⟨S, hS⟩ : ∃ S, (ws.map fun k => (shp k).length).sum = S := ⟨_, rfl⟩
            have S64 : S ≤ 64 := by omega
            have ei : nI (ws.map fun k => (shp k).length) = ((ws.map fun k => (shp k).length).map fun n : Nat => (n : Int)).map V.int := by unfold nI; rw [List.map_map, List.map_map, List.map_map]; rfl
            have es : ((ws.map fun k => (shp k).length).map fun n : Nat => (n : Int)).sum = (S : Int) := by
              rw [← hS]
              exact sum_cast _
            refine ⟨D2, _, rfl, (by rw [← ei]; exact SqL.of gD2), ?_⟩
            rw [es]
            refine ⟨_, rfl, RgOk.of_le (by omega) (by omega) (by omega) (by omega), fun q hq => ?_⟩
            rw [rgN29]
            have eq := Ex.new (o := .lst (nI (List.range S))) hq
            have gq : upd G' q (.lst (nI (List.range S))) q = some (.lst (nI (List.range S))) := upd_same
            have nqb := (B5.ne hq).1
            have B6 := B5.ex eq
            have M6 := M5.ext eq
            have gw6 := eq _ _ gw5
            refine ⟨b, c, q, _, rfl, gq, by rw [nI_len, List.length_range]; omega, nqb, B6, fun nm ys G7 fnm B7 Mx hys pm => ?_⟩
            obtain ⟨ns, rfl, pn⟩ := perm_nI pm
            have M7 := M6.trans Mx
            have gw7 := Mx _ _ nwb gw6
            refine ⟨(by show 0 ≤ sizeLine; decide), fun bl hbl => ?_⟩
            have ebl := Ex.new (o := .lst []) hbl
            obtain ⟨nblb, nblc⟩ := B7.ne hbl
            have fbl := bx_back B7 M7 hbl
            have nwbl : w ≠ bl := ne_of_none gw7 hbl
            have gnm8 := ebl _ _ hys
            have gw8 := ebl _ _ gw7
            have gb8 : upd G7 bl (.lst []) bl = some (.lst []) := upd_same
            have B8 := B7.ex ebl
            have M8 := M7.ext ebl
            generalize upd G7 bl (.lst []) = G8 at gnm8 gw8 gb8 B8 M8 ⊢
            refine ⟨_, rfl, w, rfl, ⟨_, SqL.of gw8⟩, for_list (K := K) (a := w) (xs := ws.map fun k => V.str (wd k)) (fun i σ G => ∃ (v10 v13 : Option V) (nm : Addr) (rest : List Nat) (rs : List Addr) (bs : List Bk), σ = [some (.ref b), some (.int (most : Int)), some (.ref m), some (.ref f), some (.int (room : Int)), some (.ref D), some (.ref w), v7, v8, v9, v10, some (.ref nm), some (.ref bl), v13, none] ∧ Bx G b c ∧ Mut b H G ∧ WsAt G w ws ∧ ListN G nm rest ∧ nm ≠ bl ∧ G bl = some (.lst (rs.map V.ref)) ∧ rs.length = i ∧ bs.map (·.1) = ws.take i ∧ Rws G rs bs ∧ (∀ x ∈ bs, x.2.length = (shp x.1).length ∧ (x.1 < 8 → Canon x)) ∧ (bs.flatMap (·.2) ++ rest).Perm (List.range S) ∧ rest.length = ((ws.drop i).map fun k => (shp k).length).sum) ⟨v10, none, nm, ns, [], [], rfl, B8, M8, gw8, gnm8, ne_of_none hys hbl, gb8, rfl, rfl, ⟨rfl, fun i t b h => by cases h⟩, (fun x h => by cases h), pn, by rw [pn.length_eq, List.length_range]; exact hS.symm⟩ (fun i σ G _ ⟨_, _, _, _, _, _, _, _, _, g, _⟩ => SqL.of g) ?_ ?_⟩
            · rintro i x σ G hx ⟨v10, v13, nm, rest, rs, bs, rfl, BG, MG, gw, gnm, nnb, gbl, rl, bw, rw_, bok, bp, rln⟩
              rw [List.getElem?_map] at hx
              cases hk : ws[i]? with
              | none => rw [hk] at hx; cases hx
              | some k0 =>
              rw [hk] at hx
              cases hx
              have k15 := (wok k0 (List.mem_of_getElem? hk)).1
              have il : i < ws.length := (List.getElem?_eq_some_iff.mp hk).1
              refine ⟨_, rfl, k0, rfl, k15, fun p G1 np e1 gp => ?_⟩
              refine ⟨p, _, rfl, .inl (SqL.of gp), ?_⟩
              rw [nI_len]
              refine ⟨_, rfl, .inl ⟨rfl, _, SqL.of (e1 _ _ gbl)⟩, _, rfl, ?_⟩
              unfold tNoPart
              dsimp only
              have dcons : ws.drop i = k0 :: ws.drop (i + 1) := by
                rw [List.drop_eq_getElem_cons il, (List.getElem?_eq_some_iff.mp hk).2]
              have rln2 : rest.length = (shp k0).length + ((ws.drop (i + 1)).map fun k => (shp k).length).sum := by rw [rln, dcons]; rfl
              obtain ⟨z1, z5⟩ := shp_pos k15
              have gnm1 := e1 _ _ gnm
              have ndr : (bs.flatMap (·.2) ++ rest).Nodup := bp.nodup_iff.2 List.nodup_range
              have ndt : (rest.take (shp k0).length).Nodup := ((List.nodup_append.1 ndr).2.1).sublist (List.take_sublist ..)
              have tkl : (rest.take (shp k0).length).length = (shp k0).length := by rw [List.length_take]; omega
              refine ⟨_, rfl, _, rfl, nm, _, rfl, SqL.of gnm1, fun p1 hp1 => ?_⟩
              have x1 := Ex.new (o := .lst (cutV (nI rest) none (some ((shp k0).length : Int)))) hp1
              have g1 : upd G1 p1 (.lst (cutV (nI rest) none (some ((shp k0).length : Int)))) p1 = some (.lst (nI (rest.take (shp k0).length))) := by rw [upd_same, cut_tk]; unfold nI; rw [List.map_take]
              have e12 := e1.trans x1
              generalize upd G1 p1 (.lst (cutV (nI rest) none (some ((shp k0).length : Int)))) = G2 at x1 g1 e12 ⊢
              refine ⟨p1, (rest.take (shp k0).length).map (fun n : Nat => (n : Int)), rfl, (by rw [List.map_map]; exact SqL.of g1), by rw [List.length_map, tkl]; omega, fun z zm zl => ?_⟩
              obtain ⟨zn, zmem, rfl⟩ := List.mem_map.1 zm
              have zmn : zn = mn (rest.take (shp k0).length) := Nat.le_antisymm (Int.ofNat_le.mp (zl _ (List.mem_map.2 ⟨_, mn_mem (fun e => by rw [e] at zmem; cases zmem), rfl⟩))) (mn_le zmem)
              refine ⟨_, rfl, _, rfl, _, rfl, ?_⟩
              refine ⟨_, rfl, _, rfl, nm, _, rfl, SqL.of (e12 _ _ gnm), fun p2 hp2 => ?_⟩
              have x2 := Ex.new (o := .lst (cutV (nI rest) none (some ((shp k0).length : Int)))) hp2
              have g2 : upd G2 p2 (.lst (cutV (nI rest) none (some ((shp k0).length : Int)))) p2 = some (.lst (nI (rest.take (shp k0).length))) := by rw [upd_same, cut_tk]; unfold nI; rw [List.map_take]
              have e13 := e12.trans x2
              generalize upd G2 p2 (.lst (cutV (nI rest) none (some ((shp k0).length : Int)))) = G3 at x2 g2 e13 ⊢
              refine ⟨k0, p2, _, rfl, k15, g2, tkl, ndt, fun t row G4 e4 ht pmr cn => ?_⟩
              have e14 := e13.trans e4
              refine ⟨(by show 3 ≤ sizeLine; decide), fun r hr => ?_⟩
              have e5 := Ex.new (o := .tup [V.int (zn : Int), V.str (wd k0), V.ref t]) hr
              have gr5 : upd G4 r (.tup [V.int (zn : Int), V.str (wd k0), V.ref t]) r = some (.tup [V.int (zn : Int), V.str (wd k0), V.ref t]) := upd_same
              have ht5 := e5 _ _ ht
              have e15 := e14.trans e5
              generalize upd G4 r (.tup [V.int (zn : Int), V.str (wd k0), V.ref t]) = G5 at e5 gr5 ht5 e15 ⊢
              have gbl5 := e15 _ _ gbl
              have bl0 : rs.length ≤ 70 := by omega
              refine ⟨bl, _, _, rfl, rfl, gbl5, small1000 (by rw [List.length_map]; omega), ?_⟩
              have kp6 : ∀ x o, x ≠ bl → G5 x = some o → upd G5 bl (.lst (rs.map V.ref ++ [V.ref r])) x = some o := fun x o n h => by rw [upd_ne n]; exact h
              have gb6 : upd G5 bl (.lst (rs.map V.ref ++ [V.ref r])) bl = some (.lst ((rs ++ [r]).map V.ref)) := by rw [upd_same, List.map_append]; rfl
              have gn6 := kp6 _ _ nnb (e15 _ _ gnm)
              have B6 := (BG.ex e15).keep (fun o h => kp6 _ o (Ne.symm nblb) h) (fun o h => kp6 _ o (Ne.symm nblc) h)
              have gw6 := kp6 _ _ nwbl (e15 _ _ gw)
              have gr6 := kp6 _ _ (fun e => by rw [e, gbl5] at gr5; cases gr5) gr5
              have ht6 := kp6 _ _ (fun e => by rw [e, gbl5] at ht5; cases ht5) ht5
              generalize upd G5 bl (.lst (rs.map V.ref ++ [V.ref r])) = G6 at kp6 gb6 gn6 B6 gw6 gr6 ht6 ⊢
              refine ⟨_, rfl, ?_⟩
              dsimp only
              refine ⟨_, rfl, _, rfl, nm, _, rfl, SqL.of gn6, fun p3 hp3 => ?_⟩
              have e7 := Ex.new (o := .lst (cutV (nI rest) (some ((shp k0).length : Int)) none)) hp3
              have g3 : upd G6 p3 (.lst (cutV (nI rest) (some ((shp k0).length : Int)) none)) p3 = some (.lst (nI (rest.drop (shp k0).length))) := by rw [upd_same, cut_dp (by rw [nI_len]; omega)]; unfold nI; rw [List.map_drop]
              have n3 : p3 ≠ bl := fun e => by rw [e, gb6] at hp3; cases hp3
              have B7 := B6.ex e7
              have gb7 := e7 _ _ gb6
              have gw7 := e7 _ _ gw6
              have gr7 := e7 _ _ gr6
              have ht7 := e7 _ _ ht6
              have kp7 : ∀ x o, x ≠ bl → G x = some o → upd G6 p3 (.lst (cutV (nI rest) (some ((shp k0).length : Int)) none)) x = some o := fun x o n h => e7 _ _ (kp6 _ _ n (e15 _ _ h))
              generalize upd G6 p3 (.lst (cutV (nI rest) (some ((shp k0).length : Int)) none)) = G7' at B7 gb7 gw7 gr7 ht7 kp7 g3 ⊢
              refine ⟨some (V.str (wd k0)), some (V.int ((shp k0).length : Int)), p3, rest.drop (shp k0).length, rs ++ [r], bs ++ [(k0, row)], rfl, B7, fun x o nx h => kp7 _ _ (ne_of_none h fbl) (MG _ _ nx h), gw7, g3, n3, gb7, by rw [List.length_append, rl]; rfl, ?_, ⟨?_, fun a1 t1 b1 h1 h2 => ?_⟩, fun x hx => ?_, ?_, ?_⟩
              · rw [List.map_append, bw, List.take_add_one, hk]; rfl
              · rw [List.length_append, List.length_append, rw_.1]; rfl
              · have tupnb : ∀ a o, (∃ xs, o = HO.tup xs) → G a = some o → G7' a = some o := fun a o hx h => kp7 a o (fun e => by
                  obtain ⟨xs, rfl⟩ := hx
                  rw [e, gbl] at h
                  cases h) h
                by_cases ha : a1 < rs.length
                · rw [List.getElem?_append_left ha] at h1
                  rw [List.getElem?_append_left (by rw [← rw_.1]; exact ha)] at h2
                  exact (rw_.2 a1 t1 b1 h1 h2).ex tupnb
                · have a2 : a1 < (rs ++ [r]).length := (List.getElem?_eq_some_iff.mp h1).1
                  rw [List.length_append] at a2
                  have a3 : a1 = rs.length := by have : ([r] : List Addr).length = 1 := rfl; omega
                  rw [a3, List.getElem?_append_right (Nat.le_refl _), Nat.sub_self] at h1
                  rw [a3, rw_.1, List.getElem?_append_right (Nat.le_refl _), Nat.sub_self] at h2
                  cases h1
                  cases h2
                  refine ⟨t, ?_, ht7⟩
                  rw [gr7, zmn, mn_perm29 pmr.symm]
              · rcases List.mem_append.1 hx with h | h
                · exact bok x h
                · rw [List.mem_singleton.1 h]
                  exact ⟨pmr.length_eq.trans tkl, cn⟩
              · rw [List.flatMap_append, List.append_assoc]
                refine List.Perm.trans (List.Perm.append_left _ ?_) bp
                show (row ++ [] ++ rest.drop (shp k0).length).Perm rest
                rw [List.append_nil]
                exact (pmr.append_right _).trans (by rw [List.take_append_drop])
              · rw [List.length_drop]; omega
            · rintro σ G ⟨v10, v13, nm, rest, rs, bs, rfl, BG, MG, gw, gnm, nnb, gbl, rl, bw, rw_, bok, bp, rln⟩
              rw [List.length_map] at bw rl rln
              rw [List.take_length] at bw
              rw [List.drop_length] at rln
              have r0 : rest = [] := List.eq_nil_of_length_eq_zero rln
              rw [r0, List.append_nil] at bp
              have nd : (bs.flatMap (·.2)).Nodup := bp.nodup_iff.2 List.nodup_range
              have b15 : ∀ x ∈ bs, x.1 < 15 ∧ (x.1 < 8 ∨ x.1 ∈ fs) := fun x hx => wok x.1 (by rw [← bw]; exact List.mem_map.2 ⟨x, hx, rfl⟩)
              have bne : ∀ x ∈ bs, x.2 ≠ [] := fun x hx e => by
                have h1 := (shp_pos (b15 x hx).1).1
                have h2 := (bok x hx).1
                rw [e] at h2
                have : ([] : List Nat).length = 0 := rfl
                omega
              obtain ⟨bo, hbo⟩ := rows_of rw_ fun x hx => (b15 x hx).1
              have ndm := mins_nd nd bne
              rw [hbo.1, List.map_map] at ndm
              refine ⟨_, rfl, bl, rs, fun r => ((mn (bo r).2 : Nat) : Int), rfl, SqL.of gbl, fun r hr => ?_, fun r hr r' hr' e => inj_nd ndm hr hr' (Int.ofNat.inj e), fun rs' p pm' srt' hp => ?_⟩
              · obtain ⟨t, h1, _⟩ := hbo.2 r hr
                exact ⟨_, _, h1⟩
              have e9 := Ex.new (o := .lst (rs'.map V.ref)) hp
              have gp9 : upd G p (.lst (rs'.map V.ref)) p = some (.lst (rs'.map V.ref)) := upd_same
              generalize upd G p (.lst (rs'.map V.ref)) = G9 at e9 gp9 ⊢
              have bd : Bd S (rs'.map bo) := by
                have pb : (rs'.map bo).Perm bs := by rw [hbo.1]; exact pm'.map bo
                refine ⟨fun x hx => ?_, (pb.flatMap_right _).trans bp, ?_⟩
                · have hx := pb.mem_iff.1 hx
                  exact ⟨(b15 x hx).1, (bok x hx).1, (bok x hx).2⟩
                · rw [List.map_map, List.pairwise_map]
                  have nd2 : (rs'.map ((fun b => mn b.2) ∘ bo)).Nodup := (pm'.map _).nodup_iff.2 ndm
                  rw [List.nodup_iff_pairwise_ne, List.pairwise_map] at nd2
                  exact (srt'.and nd2).imp fun {a b} h => by
                    have h1 := h.1
                    have h2 := h.2
                    show mn (bo a).2 < mn (bo b).2
                    have h2 : mn (bo a).2 ≠ mn (bo b).2 := h2
                    have h1 : ((mn (bo a).2 : Nat) : Int) ≤ ((mn (bo b).2 : Nat) : Int) := h1
                    omega
              have l64 : rs'.length ≤ 70 := by rw [pm'.length_eq, rl]; omega
              refine ⟨p, rfl, ⟨_, SqL.of gp9⟩, fun A1 hA1 => ?_⟩
              have fA1 := bx_back BG MG (back_none e9 hA1)
              refine lc_list (K := K) (a := p) (xs := rs'.map V.ref) (fun j G' => Ex G9 G' ∧ ∃ ts : List Addr, G' A1 = some (.lst (ts.map V.ref)) ∧ ts.length = j ∧ ∀ (i : Nat) (t : Addr) (x : Bk), ts[i]? = some t → (rs'.map bo)[i]? = some x → Pc15 G' t x) ⟨Ex.new hA1, [], upd_same, rfl, fun i t x h => by cases h⟩ (fun j G' _ q => SqL.of (q.1 _ _ gp9)) ?_ ?_
              · rintro j x G' hx ⟨eG, ts, gA, tl, tk⟩
                rw [List.getElem?_map] at hx
                cases hk : rs'[j]? with
                | none => rw [hk] at hx; cases hx
                | some r =>
                rw [hk] at hx
                cases hx
                have jl := (List.getElem?_eq_some_iff.mp hk).1
                obtain ⟨t0, h1, h2⟩ := hbo.2 r (pm'.mem_iff.1 (List.mem_of_getElem? hk))
                have h1 := eG _ _ (e9 _ _ h1)
                have h2 := eG _ _ (e9 _ _ h2)
                refine ⟨rfl, _, rfl, r, _, _, _, rfl, rfl, SqT.of h1, atI_nat (j := 1) rfl, _, rfl, r, _, _, _, rfl, rfl, SqT.of h1, atI_nat (j := 2) rfl, (by show 2 ≤ sizeLine; decide), fun q1 hq1 => ?_⟩
                have eq1 := Ex.new (o := .tup [V.str (wd (bo r).1), V.ref t0]) hq1
                have gq1 : upd G' q1 (.tup [V.str (wd (bo r).1), V.ref t0]) q1 = some (.tup [V.str (wd (bo r).1), V.ref t0]) := upd_same
                have gA1 := eq1 _ _ gA
                have h2 := eq1 _ _ h2
                generalize upd G' q1 (.tup [V.str (wd (bo r).1), V.ref t0]) = G1' at eq1 gq1 gA1 h2 ⊢
                have kA : ∀ x o, x ≠ A1 → G1' x = some o → upd G1' A1 (.lst (ts.map V.ref ++ [V.ref q1])) x = some o := fun x o n h => by rw [upd_ne n]; exact h
                have tup : ∀ {x : Addr} {xs : List V}, G1' x = some (.tup xs) → upd G1' A1 (.lst (ts.map V.ref ++ [V.ref q1])) x = some (.tup xs) := fun {x xs} h => kA x _ (fun e => by rw [e, gA1] at h; cases h) h
                refine ⟨_, gA1, small1000 (by rw [List.length_map]; omega), fun x o h => kA x o (ne_of_none h hA1) (eq1 _ _ (eG x o h)), ts ++ [q1], by rw [upd_same, List.map_append]; rfl, by rw [List.length_append, tl]; rfl, fun i t x h1 h2' => ?_⟩
                by_cases hi : i < ts.length
                · rw [List.getElem?_append_left hi] at h1
                  obtain ⟨u, a1, a2⟩ := tk i t x h1 h2'
                  exact ⟨u, tup (eq1 _ _ a1), tup (eq1 _ _ a2)⟩
                · have a2 : i < (ts ++ [q1]).length := (List.getElem?_eq_some_iff.mp h1).1
                  rw [List.length_append] at a2
                  have a3 : i = ts.length := by have : ([q1] : List Addr).length = 1 := rfl; omega
                  rw [a3, List.getElem?_append_right (Nat.le_refl _), Nat.sub_self] at h1
                  cases h1
                  rw [a3, tl, List.getElem?_map, hk] at h2'
                  cases h2'
                  exact ⟨t0, tup gq1, tup h2⟩
              · rintro G' ⟨eG, ts, gA, tl, tk⟩
                rw [List.length_map] at tl
                have pb : (rs'.map bo).Perm bs := by rw [hbo.1]; exact pm'.map bo
                exact k A1 (rs'.map bo) S G' fA1 (BG.ex (e9.trans eG)) (MG.ext (e9.trans eG)) ⟨ts, gA, by rw [tl, List.length_map], tk⟩ bd S64 fun x hx => (b15 x (pb.mem_iff.1 hx)).2

end

section
variable {P : Program} {w : World} {K : PySem.W.Frag} {mg : Str → Option Value} {base : Heap} {A : Ad}
theorem ok_law_step (T : Txt K mg A)   : Okd P w K mg base CX0 1 A.law_step P_law_step spStp := by
  obtain ⟨fd, F⟩ := T.d_law_step

  refine ⟨fd, F.ok sc_law_step (fun vs H Q E h => ?_) (fun cdv A' outer s H vs Q E hr h => ?_), F.binds fun _ _ _ _ _ _ us hl => match us, hl with | [_], _ => rfl⟩
  · obtain ⟨l, ms, rfl, _⟩ := h
    rfl
  · obtain ⟨l, ms, rfl, hl, l2, l4, k⟩ := h
    refine ⟨_, (pss_cons (ps_if (pt_cmpR op_eq (pe_callB call_len_seq (by rfl) T.n_len PySem.boot_len (pa_cons (pv 0) pa_nil)) pe_int (nomark _)) (pss_one (ps_ret (pe_tup (pa_cons pe_str (pa_cons (pe_tup (pa_cons (pe_callB (cr_min (by rfl)) (by rfl) T.n_min (by decide +kernel) (pa_cons (pv 0) pa_nil)) (pa_cons (pe_callB (cr_max (by rfl)) (by rfl) T.n_max (by decide +kernel) (pa_cons (pv 0) pa_nil)) pa_nil))) pa_nil))))) pss_nil)
      (pss_cons (ps_if (pt_cmpR op_eq (pe_callB call_len_seq (by rfl) T.n_len PySem.boot_len (pa_cons (pv 0) pa_nil)) pe_int (nomark _)) (pss_one (ps_ret (pe_tup (pa_cons pe_str (pa_cons (pe_tup (pa_cons (pe_ix ix_list (pv 0) pe_int (fun _ _ => rfl)) (pa_cons (pe_callB (cr_min (by rfl)) (by rfl) T.n_min (by decide +kernel) (pa_cons (pe_slice sl_list (pv 0) (po_some pe_int) po_none) pa_nil)) (pa_cons (pe_callB (cr_max (by rfl)) (by rfl) T.n_max (by decide +kernel) (pa_cons (pe_slice sl_list (pv 0) (po_some pe_int) po_none) pa_nil)) pa_nil)))) pa_nil))))) pss_nil)
      (pss_cons (ps_set (i := 1) sc_law_step.nd rfl (Or.inl rfl) (pe_bm PySem.F.plainAttrs_list PySem.F.slot_list_index PySem.F.type_list_index mt_index (pv 0) (pa_cons (pe_callB (cr_min (by rfl)) (by rfl) T.n_min (by decide +kernel) (pa_cons (pv 0) pa_nil)) pa_nil)))
      (pss_cons (ps_set (i := 2) sc_law_step.nd rfl (Or.inl rfl) (pe_op op_cat (pe_callTy call_list_of (by rfl) T.n_list (by decide +kernel) (pa_cons (pe_slice sl_list (pv 0) (po_some (pv 1)) po_none) pa_nil)) (pe_callTy call_list_of (by rfl) T.n_list (by decide +kernel) (pa_cons (pe_slice sl_list (pv 0) po_none (po_some (pv 1))) pa_nil))))
      (pss_cons (ps_if (pt_cmpR op_gt (pe_ix ix_list (pv 2) pe_int (fun _ _ => rfl)) (pe_ix ix_list (pv 2) pe_int (fun _ _ => rfl)) (nomark _)) (pss_one (ps_set (i := 2) sc_law_step.nd rfl (Or.inl rfl) (pe_lst (pa_cons (pe_ix ix_list (pv 2) pe_int (fun _ _ => rfl)) (pa_cons (pe_ix ix_list (pv 2) pe_int (fun _ _ => rfl)) (pa_cons (pe_ix ix_list (pv 2) pe_int (fun _ _ => rfl)) (pa_cons (pe_ix ix_list (pv 2) pe_int (fun _ _ => rfl)) pa_nil))))))) pss_nil)
      (pss_one (ps_ret (pe_tup (pa_cons pe_str (pa_cons (pe_tup (pa_cons (pe_ix ix_list (pv 2) pe_int (fun _ _ => rfl)) (pa_cons (pe_ix ix_list (pv 2) pe_int (fun _ _ => rfl)) (pa_cons (pe_ix ix_list (pv 2) pe_int (fun _ _ => rfl)) (pa_cons (pe_ix ix_list (pv 2) pe_int (fun _ _ => rfl)) pa_nil))))) pa_nil)))))))))), ?_⟩
    have pk2 : ∀ (row : List Nat) (wd_ : Str) (G : Hp) (t s : Addr), Ex H G → G t = none → row.Perm ms → upd G t (.tup (nI row)) s = none → Q (.ref s) (upd (upd G t (.tup (nI row))) s (.tup [.str wd_, .ref t])) := fun row wd_ G t s e ht pm hs => by
      have e1 := Ex.new (o := .tup (nI row)) ht
      have e2 := Ex.new (o := .tup [.str wd_, .ref t]) hs
      exact k s _ (back_none (e.trans e1) hs) ((e.trans e1).trans e2) ⟨wd_, t, row, upd_same, e2 _ _ upd_same, pm⟩
    refine ⟨_, rfl, l, _, rfl, .inl (SqL.of hl), rfl, _, rfl, ?_⟩
    rw [nI_len]
    by_cases c2 : ms.length = 2
    · obtain ⟨x0, x1, rfl⟩ : ∃ x0 x1, ms = [x0, x1] := by
        match ms, c2 with
        | [x0, x1], _ => exact ⟨x0, x1, rfl⟩
      have sg : SqL K H l ([(x0 : Int), (x1 : Int)].map V.int) := SqL.of hl
      refine ifT (decide_eq_true rfl) ⟨_, rfl, l, [(x0 : Int), (x1 : Int)], rfl, sg, (by show 0 < 2; decide), fun z zm zl => ⟨_, rfl, l, [(x0 : Int), (x1 : Int)], rfl, sg, (by show 0 < 2; decide), fun u um ul => ?_⟩⟩
      obtain ⟨y0, y1, e0, e1, pm⟩ : ∃ y0 y1 : Nat, z = (y0 : Int) ∧ u = (y1 : Int) ∧ [y0, y1].Perm [x0, x1] := by
        have a0 := zl (x0 : Int) (by simp)
        have a1 := zl (x1 : Int) (by simp)
        have b0 := ul (x0 : Int) (by simp)
        have b1 := ul (x1 : Int) (by simp)
        simp at zm um
        by_cases h : x0 ≤ x1
        · exact ⟨x0, x1, by omega, by omega, List.Perm.refl _⟩
        · exact ⟨x1, x0, by omega, by omega, List.Perm.swap ..⟩
      subst e0
      subst e1
      exact ⟨by show 2 ≤ sizeLine; decide, fun t ht => ⟨by show 2 ≤ sizeLine; decide, fun s hs => pk2 [y0, y1] _ H t s (Ex.refl _) ht pm hs⟩⟩
    refine ifF (decide_eq_false fun e => c2 (Int.ofNat.inj (V.int.inj e))) ?_
    refine ⟨_, rfl, l, _, rfl, .inl (SqL.of hl), rfl, _, rfl, ?_⟩
    rw [nI_len]
    by_cases c3 : ms.length = 3
    · obtain ⟨x0, x1, x2, rfl⟩ : ∃ x0 x1 x2, ms = [x0, x1, x2] := by
        match ms, c3 with
        | [x0, x1, x2], _ => exact ⟨x0, x1, x2, rfl⟩
      have sg : SqL K H l ([(x0 : Int), (x1 : Int), (x2 : Int)].map V.int) := SqL.of hl
      refine ifT (decide_eq_true rfl) ⟨_, rfl, l, _, _, _, rfl, rfl, sg, atI_nat (j := 0) rfl, _, rfl, _, rfl, ?_⟩
      unfold tNoPart
      dsimp only
      refine ⟨l, _, rfl, sg, fun p1 hp1 => ?_⟩
      have f1 := Ex.new (o := .lst (cutV ([(x0 : Int), (x1 : Int), (x2 : Int)].map V.int) (some 1) none)) hp1
      have g1 : upd H p1 (.lst (cutV ([(x0 : Int), (x1 : Int), (x2 : Int)].map V.int) (some 1) none)) p1 = some (.lst ([(x1 : Int), (x2 : Int)].map V.int)) := by rw [upd_same]; exact congrArg (fun l => some (HO.lst l)) (cut_dp (k := 1) (by show 1 ≤ 3; decide))
      generalize upd H p1 (.lst (cutV ([(x0 : Int), (x1 : Int), (x2 : Int)].map V.int) (some 1) none)) = H1 at f1 g1 ⊢
      refine ⟨p1, [(x1 : Int), (x2 : Int)], rfl, SqL.of g1, (by show 0 < 2; decide), fun z zm zl => ?_⟩
      refine ⟨_, rfl, _, rfl, ?_⟩
      refine ⟨l, _, rfl, SqL.of (f1 _ _ hl), fun p2 hp2 => ?_⟩
      have f2 := Ex.new (o := .lst (cutV (nI [x0, x1, x2]) (some 1) none)) hp2
      have g2 : upd H1 p2 (.lst (cutV (nI [x0, x1, x2]) (some 1) none)) p2 = some (.lst ([(x1 : Int), (x2 : Int)].map V.int)) := by rw [upd_same]; exact congrArg (fun l => some (HO.lst l)) (cut_dp (k := 1) (by show 1 ≤ 3; decide))
      generalize upd H1 p2 (.lst (cutV (nI [x0, x1, x2]) (some 1) none)) = H2 at f2 g2 ⊢
      refine ⟨p2, [(x1 : Int), (x2 : Int)], rfl, SqL.of g2, (by show 0 < 2; decide), fun u um ul => ?_⟩
      obtain ⟨y0, y1, e0, e1, pm⟩ : ∃ y0 y1 : Nat, z = (y0 : Int) ∧ u = (y1 : Int) ∧ [y0, y1].Perm [x1, x2] := by
        have a0 := zl (x1 : Int) (by simp)
        have a1 := zl (x2 : Int) (by simp)
        have b0 := ul (x1 : Int) (by simp)
        have b1 := ul (x2 : Int) (by simp)
        simp at zm um
        by_cases h : x1 ≤ x2
        · exact ⟨x1, x2, by omega, by omega, List.Perm.refl _⟩
        · exact ⟨x2, x1, by omega, by omega, List.Perm.swap ..⟩
      subst e0
      subst e1
      exact ⟨by show 3 ≤ sizeLine; decide, fun t ht => ⟨by show 2 ≤ sizeLine; decide, fun s hs => pk2 [x0, y0, y1] _ H2 t s (f1.trans f2) ht (pm.cons x0) hs⟩⟩
    refine ifF (decide_eq_false fun e => c3 (Int.ofNat.inj (V.int.inj e))) ?_
    obtain ⟨x0, x1, x2, x3, rfl⟩ : ∃ x0 x1 x2 x3, ms = [x0, x1, x2, x3] := by
      match ms, l2, l4, c2, c3 with
      | [x0, x1, x2, x3], _, _, _, _ => exact ⟨x0, x1, x2, x3, rfl⟩
      | [x0, x1, x2], _, _, _, h => exact absurd rfl h
      | [x0, x1], _, _, h, _ => exact absurd rfl h
    have sg : SqL K H l ([(x0 : Int), (x1 : Int), (x2 : Int), (x3 : Int)].map V.int) := SqL.of hl
    refine ⟨_, rfl, .inl ⟨rfl, _, sg⟩, _, rfl, l, [(x0 : Int), (x1 : Int), (x2 : Int), (x3 : Int)], rfl, sg, (by show 0 < 4; decide), fun z zm zl => ?_⟩
    obtain ⟨j, jl, ja, jn⟩ := first_at zm
    have jl : j < 4 := jl
    refine ⟨l, _, V.int z, j, V.int z, rfl, rfl, sg, rfl, rfl, (by show ([(x0 : Int), (x1 : Int), (x2 : Int), (x3 : Int)].map V.int)[j]? = _; rw [List.getElem?_map, ja]; rfl), eqV_ints.mpr rfl, fun m z' hm hz => ?_, ?_⟩
    · obtain ⟨y, hy, rfl⟩ := markV_int hz
      cases q : eqV (V.int y) (V.int z) with
      | false => rfl
      | true => exact absurd (eqV_ints.mp q) (jn m y hm hy)
    refine ⟨_, rfl, _, rfl, _, rfl, ?_⟩
    unfold tNoPart
    dsimp only
    refine ⟨l, _, rfl, sg, fun p1 hp1 => ?_⟩
    have f1 := Ex.new (o := .lst (cutV ([(x0 : Int), (x1 : Int), (x2 : Int), (x3 : Int)].map V.int) (some (j : Int)) none)) hp1
    have g1 : upd H p1 (.lst (cutV ([(x0 : Int), (x1 : Int), (x2 : Int), (x3 : Int)].map V.int) (some (j : Int)) none)) p1 = some (.lst (nI ([x0, x1, x2, x3].drop j))) := by rw [upd_same, cut_dp (by show j ≤ 4; omega)]; show some (HO.lst ((nI [x0, x1, x2, x3]).drop j)) = _; unfold nI; rw [List.map_drop]
    generalize upd H p1 (.lst (cutV ([(x0 : Int), (x1 : Int), (x2 : Int), (x3 : Int)].map V.int) (some (j : Int)) none)) = H1 at f1 g1 ⊢
    refine ⟨p1, _, rfl, .inl (SqL.of g1), fun c1 hc1 => ?_⟩
    have f2 := Ex.new (o := .lst (nI ([x0, x1, x2, x3].drop j))) hc1
    have gc1 : upd H1 c1 (.lst (nI ([x0, x1, x2, x3].drop j))) c1 = some (.lst (nI ([x0, x1, x2, x3].drop j))) := upd_same
    generalize upd H1 c1 (.lst (nI ([x0, x1, x2, x3].drop j))) = H2 at f2 gc1 ⊢
    refine ⟨_, rfl, ?_⟩
    dsimp only
    refine ⟨_, rfl, _, rfl, l, _, rfl, SqL.of (f2 _ _ (f1 _ _ hl)), fun p2 hp2 => ?_⟩
    have f3 := Ex.new (o := .lst (cutV (nI [x0, x1, x2, x3]) none (some (j : Int)))) hp2
    have g3 : upd H2 p2 (.lst (cutV (nI [x0, x1, x2, x3]) none (some (j : Int)))) p2 = some (.lst (nI ([x0, x1, x2, x3].take j))) := by rw [upd_same, cut_tk]; unfold nI; rw [List.map_take]
    have gc1 := f3 _ _ gc1
    generalize upd H2 p2 (.lst (cutV (nI [x0, x1, x2, x3]) none (some (j : Int)))) = H3 at f3 g3 gc1 ⊢
    refine ⟨p2, _, rfl, .inl (SqL.of g3), fun c2' hc2 => ?_⟩
    have f4 := Ex.new (o := .lst (nI ([x0, x1, x2, x3].take j))) hc2
    have gc2 : upd H3 c2' (.lst (nI ([x0, x1, x2, x3].take j))) c2' = some (.lst (nI ([x0, x1, x2, x3].take j))) := upd_same
    have gc1 := f4 _ _ gc1
    generalize upd H3 c2' (.lst (nI ([x0, x1, x2, x3].take j))) = H4 at f4 gc2 gc1 ⊢
    refine ⟨c1, c2', _, _, rfl, rfl, gc1, gc2, (by unfold nI; rw [List.length_map, List.length_map, List.length_drop, List.length_take]; refine Nat.le_trans (show 4 - j + min j 4 ≤ 1000 by omega) (by decide)), fun p3 hp3 => ?_⟩
    obtain ⟨y0, y1, y2, y3, ey⟩ : ∃ y0 y1 y2 y3 : Nat, [x0, x1, x2, x3].drop j ++ [x0, x1, x2, x3].take j = [y0, y1, y2, y3] := by
      match j, jl with
      | 0, _ => exact ⟨_, _, _, _, rfl⟩
      | 1, _ => exact ⟨_, _, _, _, rfl⟩
      | 2, _ => exact ⟨_, _, _, _, rfl⟩
      | 3, _ => exact ⟨_, _, _, _, rfl⟩
    have py : [y0, y1, y2, y3].Perm [x0, x1, x2, x3] := by
      rw [← ey]
      exact List.perm_append_comm.trans (by rw [List.take_append_drop])
    have en : nI ([x0, x1, x2, x3].drop j) ++ nI ([x0, x1, x2, x3].take j) = nI [y0, y1, y2, y3] := by rw [← ey]; unfold nI; rw [List.map_append]
    rw [en]
    have f5 := Ex.new (o := .lst (nI [y0, y1, y2, y3])) hp3
    have g5 : ListN (upd H4 p3 (.lst (nI [y0, y1, y2, y3]))) p3 [y0, y1, y2, y3] := upd_same
    have f15 := (((f1.trans f2).trans f3).trans f4).trans f5
    generalize upd H4 p3 (.lst (nI [y0, y1, y2, y3])) = H5 at f5 g5 f15 ⊢
    have sy : SqL K H5 p3 ([(y0 : Int), (y1 : Int), (y2 : Int), (y3 : Int)].map V.int) := SqL.of g5
    refine ⟨_, rfl, p3, _, _, _, rfl, rfl, sy, atI_nat (j := 1) rfl, _, rfl, p3, _, _, _, rfl, rfl, sy, atI_nat (j := 3) rfl, _, _, rfl, rfl, _, rfl, ite_b (fun _ => ?_) (fun _ => ?_)⟩
    · refine ⟨_, rfl, p3, _, _, _, rfl, rfl, sy, atI_nat (j := 0) rfl, _, rfl, p3, _, _, _, rfl, rfl, sy, atI_nat (j := 3) rfl, _, rfl, p3, _, _, _, rfl, rfl, sy, atI_nat (j := 2) rfl, _, rfl, p3, _, _, _, rfl, rfl, sy, atI_nat (j := 1) rfl, (by show 4 ≤ sizeLine; decide), fun q hq => ?_⟩
      have f6 := Ex.new (o := .lst (nI [y0, y3, y2, y1])) hq
      have g6 : ListN (upd H5 q (.lst (nI [y0, y3, y2, y1]))) q [y0, y3, y2, y1] := upd_same
      have sz : SqL K (upd H5 q (.lst (nI [y0, y3, y2, y1]))) q ([(y0 : Int), (y3 : Int), (y2 : Int), (y1 : Int)].map V.int) := SqL.of g6
      refine ⟨_, rfl, q, _, _, _, rfl, rfl, sz, atI_nat (j := 0) rfl, _, rfl, q, _, _, _, rfl, rfl, sz, atI_nat (j := 1) rfl, _, rfl, q, _, _, _, rfl, rfl, sz, atI_nat (j := 2) rfl, _, rfl, q, _, _, _, rfl, rfl, sz, atI_nat (j := 3) rfl, ⟨by show 4 ≤ sizeLine; decide, fun t ht => ⟨by show 2 ≤ sizeLine; decide, fun s hs => pk2 [y0, y3, y2, y1] _ _ t s (f15.trans f6) ht (List.Perm.trans ?_ py) hs⟩⟩⟩
      exact (List.reverse_perm [y1, y2, y3]).cons y0
    · refine ⟨_, rfl, p3, _, _, _, rfl, rfl, sy, atI_nat (j := 0) rfl, _, rfl, p3, _, _, _, rfl, rfl, sy, atI_nat (j := 1) rfl, _, rfl, p3, _, _, _, rfl, rfl, sy, atI_nat (j := 2) rfl, _, rfl, p3, _, _, _, rfl, rfl, sy, atI_nat (j := 3) rfl, ⟨by show 4 ≤ sizeLine; decide, fun t ht => ⟨by show 2 ≤ sizeLine; decide, fun s hs => pk2 [y0, y1, y2, y3] _ _ t s f15 ht py hs⟩⟩⟩

end

section
variable {P : Program} {w : World} {K : PySem.W.Frag} {mg : Str → Option Value} {base : Heap} {A : Ad}
theorem ok_law_reading (T : Txt K mg A)  (g_law_step : Okd P w K mg base CX0 1 A.law_step P_law_step spStp) : Okd P w K mg base CX0 2 A.law_reading P_law_reading spRd9 := by
  obtain ⟨fd, F⟩ := T.d_law_reading
  obtain ⟨fd_law_step, G_law_step, b_law_step⟩ := g_law_step
  refine ⟨fd, F.ok sc_law_reading (fun vs H Q E h => ?_) (fun cdv A' outer s H vs Q E hr h => ?_), F.binds fun _ _ _ _ _ _ us hl => match us, hl with | [_, _], _ => rfl⟩
  · obtain ⟨p, cl, bs, row, n, rfl, _⟩ := h
    rfl
  · obtain ⟨p, cl, bs, row, n, rfl, hb, bd, n64, ok, hcl, rl, k⟩ := h
    refine ⟨_, (pss_cons (ps_set (i := 2) sc_law_reading.nd rfl (Or.inl rfl) (pe_lst pa_nil))
      (pss_cons (ps_set (i := 3) sc_law_reading.nd rfl (Or.inl rfl) pe_int)
      (pss_cons (ps_for PassesOwn.never rfl (pi_list (pv 0)) (pg_name (i := 4) sc_law_reading.nd rfl (Or.inl rfl)) (pss_cons (ps_set (i := 5) sc_law_reading.nd rfl (Or.inl rfl) (pe_callTy call_list_of (by rfl) T.n_list (by decide +kernel) (pa_cons (pe_ix ix_tup (pv 4) pe_int (fun _ _ => rfl)) pa_nil)))
      (pss_one (ps_if (pt_cmpR op_eq (pe_ix ix_tup (pv 4) pe_int (fun _ _ => rfl)) pe_str (nomark _)) (pss_cut (ps_if (pt_cmpR op_ge (pe_ix ix_list (pv 1) (pv 3) (fun _ _ => rfl)) pe_int (nomark _)) (pss_one (ps_expr (pe_bm PySem.F.plainAttrs_list PySem.F.slot_list_append PySem.F.type_list_append mt_append (pv 5) (pa_cons (pe_ix ix_list (pv 1) (pv 3) (fun _ _ => rfl)) pa_nil)))) pss_nil)
      (pss_cons (ps_set (i := 3) sc_law_reading.nd rfl (Or.inl rfl) (pe_op op_add (pv 3) pe_int))
      (pss_one (ps_expr (pe_bm PySem.F.plainAttrs_list PySem.F.slot_list_append PySem.F.type_list_append mt_append (pv 2) (pa_cons (pe_call G_law_step (hr.mono (by decide)) (by rfl) T.g_law_step T.k_law_step b_law_step .nil pass0 (pa_cons (pv 5) pa_nil)) pa_nil)))))) (pss_one (ps_if (pt_cmpR op_in_seq (pe_ix ix_tup (pv 4) pe_int (fun _ _ => rfl)) (pe_tup (pa_cons pe_str (pa_cons pe_str pa_nil))) (by with_unfolding_all rfl)) (pss_one (ps_expr (pe_bm PySem.F.plainAttrs_list PySem.F.slot_list_append PySem.F.type_list_append mt_append (pv 2) (pa_cons (pe_call G_law_step (hr.mono (by decide)) (by rfl) T.g_law_step T.k_law_step b_law_step .nil pass0 (pa_cons (pe_lst (pa_cons (pe_ix ix_list (pv 5) pe_int (fun _ _ => rfl)) (pa_cons (pe_ix ix_list (pv 5) pe_int (fun _ _ => rfl)) (pa_cons (pe_ix ix_list (pv 5) pe_int (fun _ _ => rfl)) pa_nil)))) pa_nil)) pa_nil)))) (pss_one (ps_if (pt_cmpR op_in_seq (pe_ix ix_tup (pv 4) pe_int (fun _ _ => rfl)) (pe_tup (pa_cons pe_str (pa_cons pe_str (pa_cons pe_str pa_nil)))) (by with_unfolding_all rfl)) (pss_one (ps_expr (pe_bm PySem.F.plainAttrs_list PySem.F.slot_list_append PySem.F.type_list_append mt_append (pv 2) (pa_cons (pe_call G_law_step (hr.mono (by decide)) (by rfl) T.g_law_step T.k_law_step b_law_step .nil pass0 (pa_cons (pv 5) pa_nil)) pa_nil)))) pss_nil))))))))
      (pss_one (ps_ret (pv 2)))))), ?_⟩
    obtain ⟨ts, hp, tl, tk⟩ := hb
    refine ⟨(by show 0 ≤ sizeLine; decide), fun l hl => ?_⟩
    have e0 := Ex.new (o := .lst []) hl
    have gl0 : RdA (upd H l (.lst [])) l [] := RdA.new upd_same
    generalize upd H l (.lst []) = H0 at e0 gl0 ⊢
    have hp0 := e0 _ _ hp
    refine ⟨_, rfl, p, rfl, ⟨_, SqL.of hp0⟩, for_list (K := K) (a := p) (xs := ts.map V.ref) (fun i σ G => ∃ v4 v5 : Option V, σ = [some (.ref p), some (.ref cl), some (.ref l), some (.int (clN (bs.take i) : Int)), v4, v5] ∧ Ex H G ∧ RdA G l (rdS (bs.take i) row)) ⟨none, none, rfl, e0, gl0⟩ (fun i σ G _ ⟨_, _, _, e, _⟩ => SqL.of (e _ _ hp)) ?_ ?_⟩
    · rintro i y σ G hi ⟨v4, v5, rfl, eG, gR⟩
      rw [List.getElem?_map] at hi
      cases hk : ts[i]? with
      | none => rw [hk] at hi; cases hi
      | some r =>
      rw [hk] at hi
      cases hi
      have il := (List.getElem?_eq_some_iff.mp hk).1
      have hb : bs[i]? = some (bs[i]'(by rw [← tl]; exact il)) := List.getElem?_eq_getElem _
      generalize bs[i]'(by rw [← tl]; exact il) = b at hb
      have hbm := List.mem_of_getElem? hb
      have b8 := ok b hbm
      have blen := (bd.pw b hbm).2.1
      obtain ⟨t, h1, h2⟩ := tk i r b hk hb
      have g1 := eG _ _ h1
      have g2 := eG _ _ h2
      have ew : ∀ j : Nat, j < 15 → decide (V.str (wd b.1) = V.str (wd j)) = decide (b.1 = j) := fun j hj => wd_eq (by omega) hj
      have tk1 : rdS (bs.take (i + 1)) row = rdS (bs.take i) row ++ (if b.1 = 2 then [b.2 ++ pkd row[clN (bs.take i)]?] else if 1 < b.1 then [b.2] else []) := by
        rw [List.take_add_one, hb]
        exact rd_snoc b _ _
      have ck1 : clN (bs.take (i + 1)) = clN (bs.take i) + if b.1 = 2 then 1 else 0 := by
        rw [List.take_add_one, hb]
        exact cl_snoc b _
      have rlen : (rdS (bs.take i) row).length ≤ 64 := by
        have h1 := rd_len (bs.take i) row
        have h2 := bd.many
        rw [List.length_take] at h1
        omega
      have app : ∀ (G2 G3 : Hp) (s : Addr) (ms ms2 : List Nat), Ex G G2 → Ex G2 G3 → G2 s = none → StpAt G3 s ms → ms.Perm ms2 → ∃ xs : List V, G3 l = some (.lst xs) ∧ xs.length ≤ 1000 ∧ Ex H (upd G3 l (.lst (xs ++ [V.ref s]))) ∧ RdA (upd G3 l (.lst (xs ++ [V.ref s]))) l (rdS (bs.take i) row ++ [ms2]) := fun G2 G3 s ms ms2 e2 e3 hs st pm => by
        obtain ⟨us, a, ul, uk⟩ := gR.ex (e2.trans e3)
        refine ⟨us.map V.ref, a, by rw [List.length_map, ul]; omega, fun x o h => by rw [upd_ne (ne_of_none h hl)]; exact e3 _ _ (e2 _ _ (eG _ _ h)), ?_⟩
        have e4 : ∀ (x : Addr) (o : HO), x ≠ l → G3 x = some o → upd G3 l (.lst (us.map V.ref ++ [V.ref s])) x = some o := fun x o n h => by rw [upd_ne n]; exact h
        refine RdA.app (H := G3) (ts := us) (t := s) (by rw [upd_same, List.map_append]; rfl) ul (fun i t ms h1 h2 => (uk i t ms h1 h2).but e4 ⟨_, a⟩) ?_
        obtain ⟨w, t, rw_, s1, s2, s3⟩ := st.but e4 ⟨_, a⟩
        exact ⟨w, t, rw_, s1, s2, s3.trans pm⟩
      refine ⟨_, rfl, r, _, _, _, rfl, rfl, SqT.of g1, atI_nat (j := 1) rfl, t, _, rfl, .inr (SqT.of g2), fun r5 hr5 => ?_⟩
      have f1 := Ex.new (o := .lst (nI b.2)) hr5
      have g5 : ListN (upd G r5 (.lst (nI b.2))) r5 b.2 := upd_same
      have nl : r5 ≠ l := fun z => by obtain ⟨us, a, _⟩ := gR; rw [z, a] at hr5; cases hr5
      have fr5 := back_none eG hr5
      have gR1 := gR.ex f1
      have eG1 := eG.trans f1
      generalize upd G r5 (.lst (nI b.2)) = G1 at f1 g5 gR1 eG1 ⊢
      refine ⟨_, rfl, r, _, _, _, rfl, rfl, SqT.of (f1 _ _ g1), atI_nat (j := 0) rfl, rfl, _, rfl, ?_⟩
      show if decide (V.str (wd b.1) = V.str (wd 2)) = true then _ else _
      rw [ew 2 (by decide)]
      refine ite_b (fun c => ?_) (fun c => ?_)
      · have c := of_decide_eq_true c
        have b2 : b.2.length = 2 := by rw [blen, c]; rfl
        rw [if_pos c] at tk1 ck1
        have ct : clN (bs.take i) < row.length := by
          rw [rl]
          have := cl_take bs (i + 1)
          omega
        have hz : row[clN (bs.take i)]? = some row[clN (bs.take i)] := List.getElem?_eq_getElem ct
        generalize row[clN (bs.take i)] = z at hz
        rw [hz] at tk1
        have az : atI (row.map V.int) (clN (bs.take i) : Int) = some (V.int z) := atI_nat (by rw [List.getElem?_map, hz]; rfl)
        have hclG := eG1 _ _ hcl
        refine ⟨fun σ G2 => σ = [some (.ref p), some (.ref cl), some (.ref l), some (.int (clN (bs.take i) : Int)), some (.ref r), some (.ref r5)] ∧ Ex G G2 ∧ ListN G2 r5 (b.2 ++ pkd (some z)), ?_, ?_⟩
        · refine ⟨_, rfl, _, rfl, cl, _, _, _, rfl, rfl, SqL.of hclG, az, _, _, rfl, rfl, _, rfl, ?_⟩
          refine ite_b (fun d => ?_) (fun d => ?_)
          · have d := of_decide_eq_true d
            refine ⟨_, rfl, .inl ⟨rfl, _, SqL.of g5⟩, _, rfl, _, rfl, cl, _, _, _, rfl, rfl, SqL.of hclG, az, r5, _, _, rfl, rfl, g5, small1000 (by rw [nI_len]; omega), ?_⟩
            refine ⟨rfl, fun x o h => by rw [upd_ne (ne_of_none h hr5)]; exact f1 _ _ h, ?_⟩
            show upd G1 r5 _ r5 = _
            rw [upd_same, show pkd (some z) = [z.toNat] from if_pos d]
            unfold nI
            rw [List.map_append]
            show some (HO.lst (_ ++ [V.int z])) = some (HO.lst (_ ++ [V.int (z.toNat : Int)]))
            rw [Int.toNat_of_nonneg d]
          · have d := of_decide_eq_false d
            refine ⟨rfl, f1, ?_⟩
            rw [show pkd (some z) = [] from if_neg d, List.append_nil]
            exact g5
        rintro σ G2 ⟨rfl, eG2, gr⟩
        obtain ⟨us, gl2, ul, uk⟩ := gR.ex eG2
        have m23 : 2 ≤ (b.2 ++ pkd (some z)).length ∧ (b.2 ++ pkd (some z)).length ≤ 4 := by
          rw [List.length_append, b2]
          unfold pkd
          dsimp only
          split <;> exact ⟨Nat.le_add_right _ _, (show 2 + _ ≤ 4 from by first | exact (by decide : 2 + 1 ≤ 4) | exact (by decide : 2 + 0 ≤ 4))⟩
        refine ⟨_, rfl, _, _, rfl, rfl, ⟨_, rfl, .inl ⟨rfl, _, SqL.of gl2⟩, _, rfl, r5, _, rfl, gr, m23.1, m23.2, fun s G3 hs e3 st => ?_⟩⟩
        obtain ⟨xs, a1, a2, a3, a4⟩ := app G2 G3 s _ _ eG2 e3 hs st (List.Perm.refl _)
        refine ⟨l, _, _, rfl, rfl, a1, small1000 a2, ?_⟩
        exact ⟨_, _, by rw [ck1]; rfl, a3, by rw [tk1]; exact a4⟩
      · have c := of_decide_eq_false c
        rw [if_neg c] at tk1 ck1
        refine ⟨_, rfl, r, _, _, _, rfl, rfl, SqT.of (f1 _ _ g1), atI_nat (j := 0) rfl, (by show 2 ≤ sizeLine; decide), fun q hq => ?_⟩
        have f2 := Ex.new (o := .tup [V.str (Str.ofString "hook"), V.str (Str.ofString "relay")]) hq
        have gq : upd G1 q (.tup [V.str (Str.ofString "hook"), V.str (Str.ofString "relay")]) q = some (.tup [V.str (Str.ofString "hook"), V.str (Str.ofString "relay")]) := upd_same
        have f12 := f1.trans f2
        have g52 : ListN (upd G1 q (.tup [V.str (Str.ofString "hook"), V.str (Str.ofString "relay")])) r5 b.2 := f2 _ _ g5
        generalize upd G1 q (.tup [V.str (Str.ofString "hook"), V.str (Str.ofString "relay")]) = G2 at f2 gq f12 g52 ⊢
        refine ⟨_, _, rfl, Or.inr (SqT.of gq), rfl, rfl, _, rfl, ?_⟩
        rw [in_hr b8]
        refine ite_b (fun d => ?_) (fun d => ?_)
        · have d := of_decide_eq_true d
          have b3 : b.2.length = 3 := by rcases d with d | d <;> rw [blen, d] <;> rfl
          rw [if_pos (show 1 < b.1 by omega)] at tk1
          obtain ⟨x0, x1, x2, eb⟩ := len3 b3
          rw [eb] at g52
          obtain ⟨us, gl2, ul, uk⟩ := gR.ex f12
          have at_ : ∀ (j : Nat) (y : Nat), [x0, x1, x2][j]? = some y → atI (nI [x0, x1, x2]) (j : Int) = some (V.int (y : Int)) := fun j y h => atI_nat (by unfold nI; rw [List.getElem?_map, h]; rfl)
          refine ⟨_, rfl, .inl ⟨rfl, _, SqL.of gl2⟩, _, rfl, r5, _, _, _, rfl, rfl, SqL.of g52, at_ 1 x1 rfl, _, rfl, r5, _, _, _, rfl, rfl, SqL.of g52, at_ 0 x0 rfl, _, rfl, r5, _, _, _, rfl, rfl, SqL.of g52, at_ 2 x2 rfl, (by show 3 ≤ sizeLine; decide), fun l3 hl3 => ?_⟩
          have f3 := Ex.new (o := .lst [V.int (x1 : Int), V.int (x0 : Int), V.int (x2 : Int)]) hl3
          refine ⟨l3, [x1, x0, x2], rfl, upd_same, (show 2 ≤ 3 by decide), (show 3 ≤ 4 by decide), fun s G3 hs e3 st => ?_⟩
          obtain ⟨xs, a1, a2, a3, a4⟩ := app _ G3 s _ b.2 (f12.trans f3) e3 hs st (by rw [eb]; exact List.Perm.swap _ _ _)
          refine ⟨l, _, _, rfl, rfl, a1, small1000 a2, ?_⟩
          exact ⟨_, _, by rw [ck1]; rfl, a3, by rw [tk1]; exact a4⟩
        · have d := of_decide_eq_false d
          refine ⟨_, rfl, r, _, _, _, rfl, rfl, SqT.of (f12 _ _ g1), atI_nat (j := 0) rfl, (by show 3 ≤ sizeLine; decide), fun q3 hq3 => ?_⟩
          have f3 := Ex.new (o := .tup [V.str (Str.ofString "clamp"), V.str (Str.ofString "trail"), V.str (Str.ofString "wheel")]) hq3
          have gq3 : upd G2 q3 (.tup [V.str (Str.ofString "clamp"), V.str (Str.ofString "trail"), V.str (Str.ofString "wheel")]) q3 = some (.tup [V.str (Str.ofString "clamp"), V.str (Str.ofString "trail"), V.str (Str.ofString "wheel")]) := upd_same
          have f123 := f12.trans f3
          have g53 : ListN (upd G2 q3 (.tup [V.str (Str.ofString "clamp"), V.str (Str.ofString "trail"), V.str (Str.ofString "wheel")])) r5 b.2 := f3 _ _ g52
          generalize upd G2 q3 (.tup [V.str (Str.ofString "clamp"), V.str (Str.ofString "trail"), V.str (Str.ofString "wheel")]) = G3 at f3 gq3 f123 g53 ⊢
          refine ⟨_, _, rfl, Or.inr (SqT.of gq3), rfl, rfl, _, rfl, ?_⟩
          rw [in_ctw b8]
          refine ite_b (fun f => ?_) (fun f => ?_)
          · have f := of_decide_eq_true f
            have b4 : b.2.length = 4 := by
              have : b.1 = 5 ∨ b.1 = 6 ∨ b.1 = 7 := by omega
              rcases this with h | h | h <;> rw [blen, h] <;> rfl
            rw [if_pos (show 1 < b.1 by omega)] at tk1
            obtain ⟨us, gl2, ul, uk⟩ := gR.ex f123
            refine ⟨_, rfl, .inl ⟨rfl, _, SqL.of gl2⟩, _, rfl, r5, _, rfl, g53, by omega, by omega, fun s G4 hs e3 st => ?_⟩
            obtain ⟨xs, a1, a2, a3, a4⟩ := app _ G4 s _ b.2 f123 e3 hs st (List.Perm.refl _)
            refine ⟨l, _, _, rfl, rfl, a1, small1000 a2, ?_⟩
            exact ⟨_, _, by rw [ck1]; rfl, a3, by rw [tk1]; exact a4⟩
          · have f := of_decide_eq_false f
            rw [if_neg (show ¬ 1 < b.1 by omega), List.append_nil] at tk1
            exact ⟨_, _, by rw [ck1]; rfl, eG.trans f123, by rw [tk1]; exact gR.ex f123⟩
    · rintro σ G ⟨v4, v5, rfl, eG, gR⟩
      rw [List.length_map, tl, List.take_length] at gR
      exact ⟨_, rfl, k l G hl eG gR⟩

end

section
variable {P : Program} {w : World} {K : PySem.W.Frag} {mg : Str → Option Value} {base : Heap} {A : Ad}
theorem inV_iI {x : Int} : ∀ xs : List Int, inV (V.int x) (xs.map V.int) = xs.contains x
  | [] => rfl
  | y :: l => by
    show (eqV (V.int y) (V.int x) || inV (V.int x) (l.map V.int)) = _
    rw [inV_iI l, List.contains_cons]
    congr 1
    show (y == x) = (x == y)
    rw [Bool.eq_iff_iff, beq_iff_eq, beq_iff_eq]
    exact eq_comm
theorem all_row {fs : List Nat} : ∀ {k : Nat} {j : Nat} {row : List Int}, (allC fs k)[j]? = some row → k ≤ 64 → row.length ≤ 64 := fun {k j row} h hk => by
  have : ∀ k, ∀ r ∈ allC fs k, r.length = k := fun k => by
    induction k with
    | zero =>
      intro r hr
      rw [List.mem_singleton.1 hr]
      rfl
    | succ k ih =>
      intro r hr
      obtain ⟨a, ha, hr⟩ := List.mem_flatMap.1 hr
      obtain ⟨x, _, rfl⟩ := List.mem_map.1 hr
      rw [List.length_append, ih a ha]
      rfl
  rw [this k row (List.mem_of_getElem? h)]
  exact hk
theorem pre_len {fs : List Nat} {k j m : Nat} {row : List Int} (h : (allC fs k)[j]? = some row) : ((((allC fs k).take j).flatMap fun row => ((-1 : Int) :: (left fs row).map fun x : Nat => (x : Int)).map fun x => row ++ [x]) ++ ((((-1 : Int) :: (left fs row).map fun x : Nat => (x : Int)).take m).map fun x => row ++ [x])).length ≤ (allC fs (k + 1)).length := by
  have e : allC fs k = (allC fs k).take j ++ row :: (allC fs k).drop (j + 1) := by
    have jl := (List.getElem?_eq_some_iff.mp h).1
    have := (List.take_append_drop j (allC fs k)).symm
    rw [List.drop_eq_getElem_cons jl, (List.getElem?_eq_some_iff.mp h).2] at this
    exact this
  show _ ≤ ((allC fs k).flatMap _).length
  conv => rhs; rw [e]
  rw [List.flatMap_append, List.flatMap_cons, List.length_append, List.length_append, List.length_append, List.length_map, List.length_map, List.length_take]
  omega
theorem flat_ii : ∀ xs : List Int, (xs.map V.int).all flatV = true
  | [] => rfl
  | _ :: xs => flat_ii xs

theorem ok_law_all_choices (T : Txt K mg A)   : Okd P w K mg base CX0 1 A.law_all_choices P_law_all_choices spAc := by
  obtain ⟨fd, F⟩ := T.d_law_all_choices

  refine ⟨fd, F.ok sc_law_all_choices (fun vs H Q E h => ?_) (fun cdv A' outer s H vs Q E hr h => ?_), F.binds fun _ _ _ _ _ _ us hl => match us, hl with | [_, _], _ => rfl⟩
  · obtain ⟨c, fl, fs, rfl, _⟩ := h
    rfl
  · obtain ⟨c, fl, fs, rfl, hl, nd, f64, c64, nr, k⟩ := h
    refine ⟨_, (pss_cons (ps_set (i := 2) sc_law_all_choices.nd rfl (Or.inl rfl) (pe_lst (pa_cons (pe_lst pa_nil) pa_nil)))
      (pss_cons (ps_for PassesOwn.never rfl (pi_range1 (by rfl) T.n_range (pa_cons (pv 0) pa_nil)) (pg_name (i := 3) sc_law_all_choices.nd rfl (Or.inl rfl)) (pss_cons (ps_set (i := 4) sc_law_all_choices.nd rfl (Or.inl rfl) (pe_lst pa_nil))
      (pss_cons (ps_for PassesOwn.never rfl (pi_list (pv 2)) (pg_name (i := 5) sc_law_all_choices.nd rfl (Or.inr rfl)) (pss_one (ps_for PassesOwn.never rfl (pi_list (pe_op op_cat (pe_lst (pa_cons (pe_un un_neg pe_int) pa_nil)) (pe_lc (own := [("one", 7)]) (tt := _) (by rfl) sc_law_all_choices.nd (pi_list (pv 1)) (blkOk_by (own := [("one", 7)]) (N := N_law_all_choices) (sc := defScope s_law_all_choices) (by decide +kernel)) (fun _ _ _ _ _ => (pg_name (i := 7) sc_law_all_choices.nd rfl (Or.inl rfl))) (fun _ _ _ _ _ => (pts_one (pt_cmpR (op_notInK (K := K) rfl) (pv 7) (pv 5) (by with_unfolding_all rfl)))) (fun _ _ _ _ _ => (pv 7))))) (pg_name (i := 6) sc_law_all_choices.nd rfl (Or.inl rfl)) (pss_one (ps_expr (pe_bm PySem.F.plainAttrs_list PySem.F.slot_list_append PySem.F.type_list_append mt_append (pv 4) (pa_cons (pe_op op_cat (pv 5) (pe_lst (pa_cons (pv 6) pa_nil))) pa_nil)))))))
      (pss_one (ps_set (i := 2) sc_law_all_choices.nd rfl (Or.inl rfl) (pv 4))))))
      (pss_one (ps_ret (pv 2))))), ?_⟩
    refine ⟨(by show 0 ≤ sizeLine; decide), fun z0 hz0 => ?_⟩
    have e0 := Ex.new (o := .lst []) hz0
    have g0 : upd H z0 (.lst []) z0 = some (.lst []) := upd_same
    generalize upd H z0 (.lst []) = H0 at e0 g0 ⊢
    refine ⟨(by show 1 ≤ sizeLine; decide), fun p0 hp0 => ?_⟩
    have e1 := Ex.new (o := .lst [V.ref z0]) hp0
    have r1 : RwI (upd H0 p0 (.lst [V.ref z0])) p0 (allC fs 0) := ⟨[z0], upd_same, rfl, fun i q r h1 h2 => by
      match i with
      | 0 => cases h1; cases h2; exact e1 _ _ g0
      | i + 1 => cases h1⟩
    have fp0 := back_none e0 hp0
    have e01 := e0.trans e1
    generalize upd H0 p0 (.lst [V.ref z0]) = H1 at r1 e01 ⊢
    refine ⟨_, rfl, _, rfl, by omega, by omega, ?_⟩
    rw [Int.toNat_natCast]
    refine for_range (lo := 0) (n := c) (fun i σ G => ∃ (p : Addr) (v3 v4 v5 v6 : Option V), σ = [some (.int (c : Int)), some (.ref fl), some (.ref p), v3, v4, v5, v6, none] ∧ H p = none ∧ Ex H G ∧ RwI G p (allC fs i)) ⟨p0, none, none, none, none, rfl, fp0, e01, r1⟩ ?_ ?_
    · rintro i σ G hi ⟨p, v3, v4, v5, v6, rfl, fp, eG, qs, gp, ql, qk⟩
      refine ⟨(by show 0 ≤ sizeLine; decide), fun lo hlo => ?_⟩
      have f1 := Ex.new (o := .lst []) hlo
      have glo : upd G lo (.lst []) lo = some (.lst []) := upd_same
      have npl : p ≠ lo := ne_of_none gp hlo
      have flo := back_none eG hlo
      generalize upd G lo (.lst []) = G1 at f1 glo ⊢
      have hlen : (allC fs (i + 1)).length ≤ 300 := Nat.le_trans (all_len nd (by omega)) nr
      refine ⟨_, rfl, p, rfl, ⟨_, SqL.of (f1 _ _ gp)⟩, for_list (K := K) (a := p) (xs := qs.map V.ref) (fun j σ G' => ∃ (v5 v6 : Option V), σ = [some (.int (c : Int)), some (.ref fl), some (.ref p), some (.int (0 + (i : Int))), some (.ref lo), v5, v6, none] ∧ Mut lo G1 G' ∧ RwI G' lo (((allC fs i).take j).flatMap fun row => ((-1 : Int) :: (left fs row).map fun x : Nat => (x : Int)).map fun x => row ++ [x])) ⟨v5, v6, rfl, Mut.refl _ _, [], glo, rfl, fun i q r h => by cases h⟩ (fun j σ G' _ ⟨_, _, _, M, _⟩ => SqL.of (M _ _ npl (f1 _ _ gp))) ?_ ?_⟩
      · rintro j y σ G' hj ⟨v5, v6, rfl, M, rw_⟩
        rw [List.getElem?_map] at hj
        cases hk : qs[j]? with
        | none => rw [hk] at hj; cases hj
        | some q =>
        rw [hk] at hj
        cases hj
        have jl := (List.getElem?_eq_some_iff.mp hk).1
        have hb : (allC fs i)[j]? = some ((allC fs i)[j]'(by rw [← ql]; exact jl)) := List.getElem?_eq_getElem _
        generalize (allC fs i)[j]'(by rw [← ql]; exact jl) = row at hb
        have gq := f1 _ _ (qk j q row hk hb)
        refine ⟨_, rfl, (by show 1 ≤ sizeLine; decide), fun a1 ha1 => ?_⟩
        have gfl : ListN G' fl fs := M _ _ (ne_of_none hl flo) (f1 _ _ (eG _ _ hl))
        have nqlo : q ≠ lo := fun e => by
          have := qk j q row hk hb
          rw [e, hlo] at this
          cases this
        have gq' := M _ _ nqlo gq
        obtain ⟨qs2, glo2, ql2, qk2⟩ := rw_
        have f2 := Ex.new (o := .lst [V.int (-1)]) ha1
        have ga1 : upd G' a1 (.lst [V.int (-1)]) a1 = some (.lst [V.int (-1)]) := upd_same
        generalize upd G' a1 (.lst [V.int (-1)]) = G2 at f2 ga1 ⊢
        refine ⟨_, rfl, fl, rfl, ⟨_, SqL.of (f2 _ _ gfl)⟩, fun D hD => ?_⟩
        refine lc_list (K := K) (a := fl) (xs := nI fs) (fun m G'' => Ex G2 G'' ∧ ListN G'' D (left (fs.take m) row)) ⟨Ex.new hD, upd_same⟩ (fun m G'' _ h => SqL.of (h.1 _ _ (f2 _ _ gfl))) ?_ ?_
        · rintro m y G'' hm ⟨ef, gD⟩
          obtain ⟨ml, rfl⟩ := nat_at hm
          have hx2 := getD_some9 ml
          generalize fs.getD m 0 = x0 at hx2 ⊢
          refine ⟨rfl, _, rfl, _, rfl, _, _, rfl, Or.inl (SqL.of (ef _ _ (f2 _ _ gq'))), (by first | exact flat_ii row | rfl), (by first | rfl | exact flat_ii row), _, rfl, ?_⟩
          rw [inV_iI]
          have dn : D ≠ a1 := fun e => by rw [e, ga1] at hD; cases hD
          refine ite_b (fun c0 => ?_) (fun c0 => ?_)
          · have c0 : (!row.contains (x0 : Int)) = true := c0
            refine ⟨_, rfl, _, gD, small1000 (by rw [nI_len]; have := List.length_filter_le (fun x : Nat => !row.contains (x : Int)) (fs.take m); rw [List.length_take] at this; unfold left; omega), fun z o h => by rw [upd_ne (ne_of_none h hD)]; exact ef _ _ h, ?_⟩
            show upd G'' D _ D = _
            rw [upd_same]
            unfold left
            rw [List.take_add_one, hx2, List.filter_append]
            show _ = some (HO.lst (nI (_ ++ List.filter _ [x0])))
            rw [List.filter_cons, if_pos c0]
            unfold nI
            rw [List.map_append]
            rfl
          · have c0 : (!row.contains (x0 : Int)) = false := c0
            refine ⟨ef, ?_⟩
            unfold left
            rw [List.take_add_one, hx2, List.filter_append]
            show ListN G'' D (_ ++ List.filter _ [x0])
            rw [List.filter_cons, if_neg (by rw [c0]; decide), List.filter_nil, List.append_nil]
            exact gD
        · rintro G'' ⟨ef, gD⟩
          rw [nI_len, List.take_length] at gD
          have ga1 := ef _ _ ga1
          refine ⟨a1, D, _, _, rfl, rfl, ga1, gD, (by rw [nI_len]; exact Nat.le_trans (show 1 + (left fs row).length ≤ 65 by have := List.length_filter_le (fun x : Nat => !row.contains (x : Int)) fs; unfold left; omega) (by decide)), fun q2 hq2 => ?_⟩
          have f3 := Ex.new (o := .lst ([V.int (-1)] ++ nI (left fs row))) hq2
          have gq2 : upd G'' q2 (.lst ([V.int (-1)] ++ nI (left fs row))) q2 = some (.lst ((((-1 : Int) :: (left fs row).map fun x : Nat => (x : Int))).map V.int)) := by rw [upd_same]; unfold nI; rw [List.map_cons, List.map_map]; rfl
          have f23 := (f2.trans ef).trans f3
          have nq2 : q2 ≠ lo := fun e => by rw [e, ef _ _ (f2 _ _ glo2)] at hq2; cases hq2
          generalize upd G'' q2 (.lst ([V.int (-1)] ++ nI (left fs row))) = G3 at f3 gq2 f23 ⊢
          have glo3 := f23 _ _ glo2
          have gq3 := f23 _ _ gq'
          refine ⟨q2, rfl, ⟨_, SqL.of gq2⟩, for_list (K := K) (a := q2) (xs := ((-1 : Int) :: (left fs row).map fun x : Nat => (x : Int)).map V.int) (fun m σ F => ∃ (v6 : Option V), σ = [some (.int (c : Int)), some (.ref fl), some (.ref p), some (.int (0 + (i : Int))), some (.ref lo), some (.ref q), v6, none] ∧ Mut lo G3 F ∧ RwI F lo ((((allC fs i).take j).flatMap fun row => ((-1 : Int) :: (left fs row).map fun x : Nat => (x : Int)).map fun x => row ++ [x]) ++ ((((-1 : Int) :: (left fs row).map fun x : Nat => (x : Int)).take m).map fun x => row ++ [x]))) ⟨v6, rfl, Mut.refl _ _, by rw [List.take_zero, List.map_nil, List.append_nil]; exact ⟨qs2, glo3, ql2, fun i q r h1 h2 => f23 _ _ (qk2 i q r h1 h2)⟩⟩ (fun m σ F _ ⟨_, _, M, _⟩ => SqL.of (M _ _ nq2 gq2)) ?_ ?_⟩
          · rintro m y σ F hm ⟨v6, rfl, M3, qs3, glo4, ql3, qk3⟩
            rw [List.getElem?_map] at hm
            cases hx : ((-1 : Int) :: (left fs row).map fun x : Nat => (x : Int))[m]? with
            | none => rw [hx] at hm; cases hm
            | some x0 =>
            rw [hx] at hm
            cases hm
            have row64 : row.length ≤ 64 := all_row hb (by omega)
            have gqF := M3 _ _ nqlo gq3
            refine ⟨_, rfl, .inl ⟨rfl, _, SqL.of glo4⟩, _, rfl, _, rfl, (by show 1 ≤ sizeLine; decide), fun b hb1 => ?_⟩
            have g1 := Ex.new (o := .lst [V.int x0]) hb1
            have gb : upd F b (.lst [V.int x0]) b = some (.lst [V.int x0]) := upd_same
            generalize upd F b (.lst [V.int x0]) = F1 at g1 gb ⊢
            refine ⟨q, b, _, _, rfl, rfl, g1 _ _ gqF, gb, (by rw [List.length_map]; exact Nat.le_trans (show row.length + 1 ≤ 65 by omega) (by decide)), fun d hd => ?_⟩
            have g2 := Ex.new (o := .lst (row.map V.int ++ [V.int x0])) hd
            have gd : upd F1 d (.lst (row.map V.int ++ [V.int x0])) d = some (.lst ((row ++ [x0]).map V.int)) := by rw [upd_same, List.map_append]; rfl
            have g12 := g1.trans g2
            generalize upd F1 d (.lst (row.map V.int ++ [V.int x0])) = F2 at g2 gd g12 ⊢
            have l3 : qs3.length ≤ 1000 := by
              have h1 : qs3.length ≤ (allC fs (i + 1)).length := by
                rw [ql3]
                exact pre_len hb
              omega
            refine ⟨lo, _, _, rfl, rfl, g12 _ _ glo4, small1000 (by rw [List.length_map]; omega), some (V.int x0), rfl, fun z o nz h => by rw [upd_ne nz]; exact g12 _ _ (M3 _ _ nz h), ?_⟩
            have nd2 : d ≠ lo := fun e => by rw [e, g1 _ _ glo4] at hd; cases hd
            rw [List.take_add_one, hx, List.map_append, ← List.append_assoc]
            refine RwI.app (H := upd F2 lo (.lst (qs3.map V.ref ++ [V.ref d]))) (q := d) (qs := qs3) (by rw [upd_same, List.map_append]; rfl) ql3 (fun i' q' r' h1 h2 => ?_) (fun _ _ _ h => h) (by rw [upd_ne nd2]; exact gd)
            have hq' := qk3 i' q' r' h1 h2
            rw [upd_ne (fun e => ?_)]
            · exact g12 _ _ hq'
            · rw [e, glo4] at hq'
              have hq' := HO.lst.inj (Option.some.inj hq')
              cases qs3 with
              | nil => cases h1
              | cons a l =>
                cases r' with
                | nil => cases hq'
                | cons u v => exact V.noConfusion (List.cons.inj hq').1
          · rintro σ F ⟨v6, rfl, M3, rw3⟩
            refine ⟨_, _, rfl, fun z o nz h => M3 _ _ nz (f23 _ _ (M _ _ nz h)), ?_⟩
            rw [List.length_map, List.take_length] at rw3
            rw [List.take_add_one, hb, List.flatMap_append]
            show RwI F lo (_ ++ ((_ : List (List Int)) ++ []))
            rw [List.append_nil]
            exact rw3
      · rintro σ G' ⟨v5, v6, rfl, M, rw_⟩
        rw [List.length_map, ql, List.take_length] at rw_
        exact ⟨_, rfl, lo, _, _, _, _, rfl, flo, fun x o h => M _ _ (ne_of_none h flo) (f1 _ _ (eG _ _ h)), rw_⟩
    · rintro σ G ⟨p, v3, v4, v5, v6, rfl, fp, eG, rw_⟩
      exact ⟨_, rfl, k p G fp eG rw_⟩

end

section
variable {P : Program} {w : World} {K : PySem.W.Frag} {mg : Str → Option Value} {base : Heap} {A : Ad}
theorem ok_law_count (T : Txt K mg A)   : Okd P w K mg base CX0 1 A.law_count P_law_count spCnt := by
  obtain ⟨fd, F⟩ := T.d_law_count

  refine ⟨fd, F.ok sc_law_count (fun vs H Q E h => ?_) (fun cdv A' outer s H vs Q E hr h => ?_), F.binds fun _ _ _ _ _ _ us hl => match us, hl with | [_, _], _ => rfl⟩
  · obtain ⟨c, f, rfl, _⟩ := h
    rfl
  · obtain ⟨c, f, rfl, c64, f64, k⟩ := h
    refine ⟨_, (pss_cons (ps_set (i := 2) sc_law_count.nd rfl (Or.inl rfl) pe_int)
      (pss_cons (ps_set (i := 3) sc_law_count.nd rfl (Or.inl rfl) pe_int)
      (pss_cons (ps_for PassesOwn.never rfl (pi_range1 (by rfl) T.n_range (pa_cons (pe_op op_add (pv 0) pe_int) pa_nil)) (pg_name (i := 4) sc_law_count.nd rfl (Or.inl rfl)) (pss_cons (ps_set (i := 2) sc_law_count.nd rfl (Or.inl rfl) (pe_op op_add (pv 2) (pv 3)))
      (pss_one (ps_set (i := 3) sc_law_count.nd rfl (Or.inl rfl) (pe_op op_fdivW (pe_op op_mul (pe_op op_mul (pv 3) (pe_op op_sub (pv 0) (pv 4))) (pe_callB (call_max2 (by rfl)) (by rfl) T.n_max (by decide +kernel) (pa_cons pe_int (pa_cons (pe_op op_sub (pv 1) (pv 4)) pa_nil)))) (pe_op op_add (pv 4) pe_int))))))
      (pss_one (ps_ret (pv 2)))))), ?_⟩
    refine ⟨_, rfl, _, _, rfl, rfl, _, rfl, by omega, by omega, ?_⟩
    rw [show ((c : Int) + 1).toNat = c + 1 by omega]
    refine for_range (lo := 0) (n := c + 1) (fun i σ G => ∃ v4 : Option V, σ = [some (.int (c : Int)), some (.int (f : Int)), some (.int (cntS c f i).1), some (.int (cntS c f i).2), v4] ∧ G = H) ⟨none, rfl, rfl⟩ ?_ ?_
    · rintro i σ G hi ⟨v4, rfl, rfl⟩
      rw [Int.zero_add]
      refine ⟨_, rfl, _, rfl, _, _, rfl, rfl, _, rfl, _, rfl, _, rfl, _, _, rfl, rfl, _, _, rfl, rfl, Or.inr ⟨by omega, by omega⟩, ?_⟩
      have mx : ∀ z : Int, -100 ≤ z → z ≤ 64 → -(2 ^ 64) < (if z > 0 then z else 0) ∧ (if z > 0 then z else 0) < 2 ^ 64 := fun z h1 h2 => by
        split <;> constructor <;> omega
      refine ⟨_, rfl, _, rfl, _, _, rfl, rfl, 0, _, rfl, _, _, rfl, rfl, Or.inr (mx _ (by omega) (by omega)), _, rfl, _, _, rfl, rfl, _, _, rfl, rfl, wide_div (b := 60) (by omega) (by omega) (by decide) (by decide), some (V.int (i : Int)), rfl, rfl⟩
    · rintro σ G ⟨v4, rfl, rfl⟩
      exact ⟨_, rfl, k⟩

end

section
variable {P : Program} {w : World} {K : PySem.W.Frag} {mg : Str → Option Value} {base : Heap} {A : Ad}
def spIn9 : Sp := fun vs H Q _ => ∃ z : Int, vs = [.int z] ∧ Q (.bl true) H

theorem ok_law_is_number (T : Txt K mg A)   : Okd P w K mg base CX0 1 A.law_is_number P_law_is_number spIn9 := by
  obtain ⟨fd, F⟩ := T.d_law_is_number

  refine ⟨fd, F.ok sc_law_is_number (fun vs H Q E h => ?_) (fun cdv A' outer s H vs Q E hr h => ?_), F.binds fun _ _ _ _ _ _ us hl => match us, hl with | [_], _ => rfl⟩
  · obtain ⟨z, rfl, _⟩ := h
    rfl
  · obtain ⟨z, rfl, k⟩ := h
    refine ⟨_, (pss_one (ps_ret (pe_and (pe_callB call_isi (by rfl) T.n_isinstance (by decide +kernel) (pa_cons (pv 0) (pa_cons (pe_bltn (v := .ty "int") (u := .type "int") (by rfl) T.n_int (by decide +kernel) rfl) pa_nil))) (pe_one (pe_not (pe_callB call_isi (by rfl) T.n_isinstance (by decide +kernel) (pa_cons (pv 0) (pa_cons (pe_bltn (v := .ty "bool") (u := .type "bool") (by rfl) T.n_bool (by decide +kernel) rfl) pa_nil)))))))), ?_⟩
    exact ⟨_, rfl, _, _, _, _, true, rfl, ClsV.ty "int", TyX.base (TyOf.int z), kit_ty (by decide +kernel), _, rfl, ifT rfl ⟨_, rfl, _, _, _, _, false, rfl, ClsV.ty "bool", TyX.base (TyOf.int z), kit_ty (by decide +kernel), _, rfl, k⟩⟩

end

section
variable {P : Program} {w : World} {K : PySem.W.Frag} {mg : Str → Option Value} {base : Heap} {A : Ad}
theorem okh_law_is_number (T : Txt K mg A)   : Okh P w K mg base CX0 1 A.law_is_number P_law_is_number spIn9 := by
  obtain ⟨fd, F⟩ := T.d_law_is_number

  refine ⟨fd, F.okH sc_law_is_number (fun vs H Q E h => ?_) (fun cdv A' outer s H vs Q E p hot hr h => ?_), F.binds fun _ _ _ _ _ _ us hl => match us, hl with | [_], _ => rfl⟩
  · obtain ⟨z, rfl, _⟩ := h
    rfl
  · obtain ⟨z, rfl, k⟩ := h
    refine ⟨_, (pss_one (ps_ret (pe_and (pe_callB call_isi (by rfl) T.n_isinstance (by decide +kernel) (pa_cons (pv 0) (pa_cons (pe_bltn (v := .ty "int") (u := .type "int") (by rfl) T.n_int (by decide +kernel) rfl) pa_nil))) (pe_one (pe_not (pe_callB call_isi (by rfl) T.n_isinstance (by decide +kernel) (pa_cons (pv 0) (pa_cons (pe_bltn (v := .ty "bool") (u := .type "bool") (by rfl) T.n_bool (by decide +kernel) rfl) pa_nil)))))))), ?_⟩
    exact ⟨_, rfl, _, _, _, _, true, rfl, ClsV.ty "int", TyX.base (TyOf.int z), kit_ty (by decide +kernel), _, rfl, ifT rfl ⟨_, rfl, _, _, _, _, false, rfl, ClsV.ty "bool", TyX.base (TyOf.int z), kit_ty (by decide +kernel), _, rfl, k⟩⟩

end

section
variable {P : Program} {w : World} {K : PySem.W.Frag} {mg : Str → Option Value} {base : Heap} {A : Ad}
theorem ne_ix {as : List Addr} (h : as.Nodup) {a b : Addr} (i j : Nat) (hi : as[i]? = some a) (hj : as[j]? = some b) (n : i ≠ j) : a ≠ b := by
  intro e
  subst e
  have := (List.getElem?_inj (List.getElem?_eq_some_iff.mp hi).1 h).mp (hi.trans hj.symm)
  exact n this
theorem oke_law_fault (T : Txt K mg A)   (h_law_is_number : Okh P w K mg base CX0 1 A.law_is_number P_law_is_number spIn9) : Oke P w K mg base 2 A.law_fault P_law_fault (seFa A) := by
  obtain ⟨fd, F⟩ := T.d_law_fault

  obtain ⟨fdh_law_is_number, H_law_is_number, hb_law_is_number⟩ := h_law_is_number
  refine ⟨fd, HotE.okE F sc_law_fault (fun a c d vs H Q E h => ?_) (fun cdv A' outer s H vs Q E p c d hot zc hr h => ?_), F.binds fun _ _ _ _ _ _ us hl => match us, hl with | [_], _ => rfl⟩
  · obtain ⟨rfl, _⟩ := h
    rfl
  · obtain ⟨rfl, h⟩ := h
    refine ⟨_, (pss_cons (ps_set (i := 1) sc_law_fault.nd rfl (Or.inl rfl) (pe_lst pa_nil))
      (pss_cons (ps_if (PW.pt (pw_and (pt_val (pe_callB (HotE.call_isP (K := K) rfl ⟨p.2, ⟨hot.1, hot.2⟩, List.mem_cons_self, zc⟩) (by rfl) T.n_isinstance (by decide +kernel) (pa_cons (pv 0) (pa_cons (pe_glob (v := .ref A.InvalidImage) rfl T.e_InvalidImage.g rfl) pa_nil)))) (pw_and1 (pt_val (L2H.pe_callH H_law_is_number (hr.mono (by decide)) ⟨p, ⟨hot.1, hot.2⟩, List.mem_cons_self⟩ (by rfl) T.g_law_is_number T.k_law_is_number hb_law_is_number (passH0 (fun _ => E0)) (pa_cons (HotE.pe_xfP T.e_InvalidImage.xfc T.f_InvalidImage.nf ⟨p.2, ⟨hot.1, hot.2⟩, List.mem_cons_self, zc⟩ (pv 0)) pa_nil)))))) (pss_one (ps_expr (pe_bm PySem.F.plainAttrs_list PySem.F.slot_list_append PySem.F.type_list_append mt_append (pv 1) (pa_cons (pe_tup (pa_cons pe_str (pa_cons (HotE.pe_xfP T.e_InvalidImage.xfc T.f_InvalidImage.nf ⟨p.2, ⟨hot.1, hot.2⟩, List.mem_cons_self, zc⟩ (pv 0)) pa_nil))) pa_nil)))) pss_nil)
      (pss_cons (ps_if (PW.pt (pw_and (pt_val (pe_callB (HotE.call_isP (K := K) rfl ⟨p.2, ⟨hot.1, hot.2⟩, List.mem_cons_self, zc⟩) (by rfl) T.n_isinstance (by decide +kernel) (pa_cons (pv 0) (pa_cons (pe_glob (v := .ref A.Unrepairable) rfl T.e_Unrepairable.g rfl) pa_nil)))) (pw_and1 (pt_val (pe_callB call_isi (by rfl) T.n_isinstance (by decide +kernel) (pa_cons (HotE.pe_xfP T.e_Unrepairable.xfc T.f_Unrepairable.nf ⟨p.2, ⟨hot.1, hot.2⟩, List.mem_cons_self, zc⟩ (pv 0)) (pa_cons (pe_bltn (v := .ty "list") (u := .type "list") (by rfl) T.n_list (by decide +kernel) rfl) pa_nil))))))) (pss_one (ps_if (pt_not (pt_truth (HotL.pe_lcH (own := [("record", 2)]) (tt := _) ⟨p, ⟨hot.1, hot.2⟩, List.mem_cons_self⟩ sc_law_fault.nd (HotL.pi_listH (HotE.pe_xfP T.e_Unrepairable.xfc T.f_Unrepairable.nf ⟨p.2, ⟨hot.1, hot.2⟩, List.mem_cons_self, zc⟩ (pv 0))) (blkOk_by (own := [("record", 2)]) (N := N_law_fault) (sc := defScope s_law_fault) (by decide +kernel)) (fun _ _ _ _ _ => (pg_name (i := 2) sc_law_fault.nd rfl (Or.inl rfl))) (fun _ _ _ _ _ => (pts_one (pt_not (pt_val (L2H.pe_callH H_law_is_number (hr.mono (by decide)) ⟨p, ⟨hot.1, hot.2⟩, List.mem_cons_self⟩ (by rfl) T.g_law_is_number T.k_law_is_number hb_law_is_number (passH0 (fun _ => E0)) (pa_cons (pv 2) pa_nil)))))) (fun _ _ _ _ _ => (pv 2))) (by intro _; rfl))) (pss_one (ps_expr (pe_bm PySem.F.plainAttrs_list PySem.F.slot_list_append PySem.F.type_list_append mt_append (pv 1) (pa_cons (pe_tup (pa_cons pe_str (pa_cons (HotE.pe_xfP T.e_Unrepairable.xfc T.f_Unrepairable.nf ⟨p.2, ⟨hot.1, hot.2⟩, List.mem_cons_self, zc⟩ (pv 0)) pa_nil))) pa_nil)))) pss_nil)) pss_nil)
      (pss_cons (ps_if (PW.pt (pw_and (pt_val (pe_callB (HotE.call_isP (K := K) rfl ⟨p.2, ⟨hot.1, hot.2⟩, List.mem_cons_self, zc⟩) (by rfl) T.n_isinstance (by decide +kernel) (pa_cons (pv 0) (pa_cons (pe_glob (v := .ref A.InvalidNumber) rfl T.e_InvalidNumber.g rfl) pa_nil)))) (pw_and1 (pt_val (L2H.pe_callH H_law_is_number (hr.mono (by decide)) ⟨p, ⟨hot.1, hot.2⟩, List.mem_cons_self⟩ (by rfl) T.g_law_is_number T.k_law_is_number hb_law_is_number (passH0 (fun _ => E0)) (pa_cons (HotE.pe_xfP T.e_InvalidNumber.xfc T.f_InvalidNumber.nf ⟨p.2, ⟨hot.1, hot.2⟩, List.mem_cons_self, zc⟩ (pv 0)) pa_nil)))))) (pss_one (ps_expr (pe_bm PySem.F.plainAttrs_list PySem.F.slot_list_append PySem.F.type_list_append mt_append (pv 1) (pa_cons (pe_tup (pa_cons pe_str (pa_cons (HotE.pe_xfP T.e_InvalidNumber.xfc T.f_InvalidNumber.nf ⟨p.2, ⟨hot.1, hot.2⟩, List.mem_cons_self, zc⟩ (pv 0)) pa_nil))) pa_nil)))) pss_nil)
      (pss_cons (ps_if (pt_val (pe_callB (HotE.call_isP (K := K) rfl ⟨p.2, ⟨hot.1, hot.2⟩, List.mem_cons_self, zc⟩) (by rfl) T.n_isinstance (by decide +kernel) (pa_cons (pv 0) (pa_cons (pe_glob (v := .ref A.InvalidChange) rfl T.e_InvalidChange.g rfl) pa_nil)))) (pss_one (ps_expr (pe_bm PySem.F.plainAttrs_list PySem.F.slot_list_append PySem.F.type_list_append mt_append (pv 1) (pa_cons (pe_tup (pa_cons pe_str (pa_cons pe_int pa_nil))) pa_nil)))) pss_nil)
      (pss_cons (ps_if (PW.pt (pw_or (pt_not (pt_val (pe_callB (HotE.call_isP (K := K) rfl ⟨p.2, ⟨hot.1, hot.2⟩, List.mem_cons_self, zc⟩) (by rfl) T.n_isinstance (by decide +kernel) (pa_cons (pv 0) (pa_cons (pe_bltn (v := .ty "ValueError") (u := .type "ValueError") (by rfl) T.n_ValueError (by decide +kernel) rfl) pa_nil))))) (pw_or1 (pt_val (pe_callB (HotE.call_isPT (K := K) rfl ⟨p.2, ⟨hot.1, hot.2⟩, List.mem_cons_self, zc⟩) (by rfl) T.n_isinstance (by decide +kernel) (pa_cons (pv 0) (pa_cons (pe_tup (pa_cons (pe_glob (v := .ref A.NotState) rfl T.e_NotState.g rfl) (pa_cons (pe_glob (v := .ref A.UnequalSizes) rfl T.e_UnequalSizes.g rfl) (pa_cons (pe_glob (v := .ref A.InvalidKind) rfl T.e_InvalidKind.g rfl) pa_nil)))) pa_nil))))))) (pss_one (ps_expr (pe_bm PySem.F.plainAttrs_list PySem.F.slot_list_append PySem.F.type_list_append mt_append (pv 1) (pa_cons (pe_tup (pa_cons pe_str (pa_cons pe_int pa_nil))) pa_nil)))) pss_nil)
      (pss_one (ps_ret (pv 1))))))))), ?_⟩
    rcases h with ⟨k, dd, rfl, rfl, hd, kq⟩ | ⟨gp, g, dd, rfl, rfl, hd, hg, kq⟩
    · have xC := T.e_InvalidImage.exc T.cn T.ct
      refine ⟨(by show 0 ≤ sizeLine; decide), fun l hl => ?_⟩
      have e0 := Ex.new (o := .lst []) hl
      have gl : upd H l (.lst []) l = some (.lst []) := upd_same
      have hd0 := e0 _ _ hd
      generalize upd H l (.lst []) = H0 at e0 gl hd0 ⊢
      refine ⟨_, rfl, A.InvalidImage, _, _, true, rfl, rfl, Or.inr ⟨dd, _, rfl, hd0⟩, xC, ClsV.own _, kit_self, _, rfl, ifT rfl ⟨_, rfl, rfl, rfl, dd, _, _, rfl, hd0, rfl, (k : Int), rfl, _, rfl, ifT rfl ?_⟩⟩
      refine ⟨_, rfl, .inl ⟨rfl, _, SqL.of gl⟩, _, rfl, rfl, rfl, dd, _, _, rfl, hd0, rfl, (by show 2 ≤ sizeLine; decide), fun t ht => ?_⟩
      have tl : t ≠ l := fun z => by rw [z, gl] at ht; cases ht
      have fl : H l = none := hl
      refine ⟨l, _, _, rfl, rfl, (by rw [upd_ne (Ne.symm tl)]; exact gl), small1000 (Nat.zero_le _), ?_⟩
      have e1 : Ex H (upd (upd H0 t (.tup [.str "image", .int (k : Int)])) l (.lst ([] ++ [.ref t]))) := fun x o h => by
        rw [upd_ne (fun z => by rw [z, fl] at h; cases h), upd_ne (fun z => by rw [z] at h; rw [e0 _ _ h] at ht; cases ht)]
        exact e0 _ _ h
      have g1 : upd (upd H0 t (.tup [.str "image", .int (k : Int)])) l (.lst ([] ++ [.ref t])) l = some (.lst [.ref t]) := upd_same
      have g2 : upd (upd H0 t (.tup [.str "image", .int (k : Int)])) l (.lst ([] ++ [.ref t])) t = some (.tup [.str "image", .int (k : Int)]) := by rw [upd_ne tl]; exact upd_same
      generalize upd (upd H0 t (.tup [.str "image", .int (k : Int)])) l (.lst ([] ++ [.ref t])) = H1 at e1 g1 g2 ⊢
      have hd1 := e1 _ _ hd
      refine ⟨_, rfl, A.InvalidImage, _, _, false, rfl, rfl, Or.inr ⟨dd, _, rfl, hd1⟩, xC, ClsV.own _, T.e_InvalidImage.kit_ne T.e_Unrepairable (ne_ix T.nd 1 3 rfl rfl (by decide)) (ne_ix T.nd 0 3 rfl rfl (by decide)), _, rfl, ifF rfl ?_⟩
      refine ⟨_, rfl, A.InvalidImage, _, _, false, rfl, rfl, Or.inr ⟨dd, _, rfl, hd1⟩, xC, ClsV.own _, T.e_InvalidImage.kit_ne T.e_InvalidNumber (ne_ix T.nd 1 4 rfl rfl (by decide)) (ne_ix T.nd 0 4 rfl rfl (by decide)), _, rfl, ifF rfl ?_⟩
      refine ⟨_, rfl, A.InvalidImage, _, _, false, rfl, rfl, Or.inr ⟨dd, _, rfl, hd1⟩, xC, ClsV.own _, T.e_InvalidImage.kit_ne T.e_InvalidChange (ne_ix T.nd 1 7 rfl rfl (by decide)) (ne_ix T.nd 0 7 rfl rfl (by decide)), _, rfl, ifF rfl ?_⟩
      refine ⟨_, rfl, A.InvalidImage, _, _, true, rfl, rfl, Or.inr ⟨dd, _, rfl, hd1⟩, xC, ClsV.ty "ValueError", T.e_InvalidImage.kit_ve, _, rfl, iteF ?_⟩
      refine ⟨_, rfl, (by show 3 ≤ sizeLine; decide), fun q hq => ?_⟩
      have e2 := Ex.new (o := .tup [V.ref A.NotState, V.ref A.UnequalSizes, V.ref A.InvalidKind]) hq
      refine ⟨A.InvalidImage, q, _, [.ref A.NotState, .ref A.UnequalSizes, .ref A.InvalidKind], false, rfl, rfl, Or.inr ⟨dd, _, rfl, e2 _ _ hd1⟩, xC, upd_same, .cons (ClsV.own _) (.cons (ClsV.own _) (.cons (ClsV.own _) .nil)), ?_, _, rfl, ifF rfl ?_⟩
      · have h1 := T.e_InvalidImage.kit_ne T.e_NotState (ne_ix T.nd 1 2 rfl rfl (by decide)) (ne_ix T.nd 0 2 rfl rfl (by decide))
        have h2 := T.e_InvalidImage.kit_ne T.e_UnequalSizes (ne_ix T.nd 1 5 rfl rfl (by decide)) (ne_ix T.nd 0 5 rfl rfl (by decide))
        have h3 := T.e_InvalidImage.kit_ne T.e_InvalidKind (ne_ix T.nd 1 6 rfl rfl (by decide)) (ne_ix T.nd 0 6 rfl rfl (by decide))
        simp only [PySem.W.kitAny, h1, h2, h3]
      exact ⟨_, rfl, kq l _ hl (e1.trans e2) ⟨t, e2 _ _ g1, e2 _ _ g2⟩⟩
    · have xC := T.e_Unrepairable.exc T.cn T.ct
      refine ⟨(by show 0 ≤ sizeLine; decide), fun l hl => ?_⟩
      have e0 := Ex.new (o := .lst []) hl
      have gl : upd H l (.lst []) l = some (.lst []) := upd_same
      have hd0 := e0 _ _ hd
      have hg0 : ListN (upd H l (.lst [])) g gp := e0 _ _ hg
      generalize upd H l (.lst []) = H0 at e0 gl hd0 hg0 ⊢
      refine ⟨_, rfl, A.Unrepairable, _, _, false, rfl, rfl, Or.inr ⟨dd, _, rfl, hd0⟩, xC, ClsV.own _, T.e_Unrepairable.kit_ne T.e_InvalidImage (ne_ix T.nd 3 1 rfl rfl (by decide)) (ne_ix T.nd 0 1 rfl rfl (by decide)), _, rfl, ifF rfl ?_⟩
      refine ⟨_, rfl, A.Unrepairable, _, _, true, rfl, rfl, Or.inr ⟨dd, _, rfl, hd0⟩, xC, ClsV.own _, kit_self, _, rfl, ifT rfl ?_⟩
      refine ⟨_, rfl, rfl, rfl, dd, _, _, rfl, hd0, rfl, _, _, _, _, true, rfl, ClsV.ty "list", TyX.base (TyOf.lst hg0), kit_ty (by decide +kernel), _, rfl, ifT rfl ?_⟩
      refine ⟨_, rfl, rfl, rfl, dd, _, _, rfl, hd0, rfl, g, rfl, ⟨_, SqL.of hg0⟩, fun D hD => ?_⟩
      have hgD : ListN (upd H0 D (.lst [])) g gp := (Ex.new hD) _ _ hg0
      refine lc_list (K := K) (a := g) (xs := nI gp) (fun j G => G = upd H0 D (.lst [])) rfl (fun j G _ q => by rw [q]; exact SqL.of hgD) ?_ ?_
      · rintro j x G hx rfl
        obtain ⟨jl, rfl⟩ := nat_at hx
        exact ⟨rfl, _, rfl, _, rfl, _, rfl, ifF rfl rfl⟩
      rintro G rfl
      refine ⟨_, .inl ⟨_, SqL.of upd_same, rfl⟩, ifT rfl ?_⟩
      have e0 := e0.trans (Ex.new (o := .lst []) hD)
      have gl := (Ex.new (o := .lst []) hD) _ _ gl
      have hd0 := e0 _ _ hd
      have hg0 : ListN (upd H0 D (.lst [])) g gp := e0 _ _ hg
      generalize upd H0 D (.lst []) = H0 at e0 gl hd0 hg0 ⊢
      refine ⟨_, rfl, .inl ⟨rfl, _, SqL.of gl⟩, _, rfl, rfl, rfl, dd, _, _, rfl, hd0, rfl, (by show 2 ≤ sizeLine; decide), fun t ht => ?_⟩
      have tl : t ≠ l := fun z => by rw [z, gl] at ht; cases ht
      have fl : H l = none := hl
      refine ⟨l, _, _, rfl, rfl, (by rw [upd_ne (Ne.symm tl)]; exact gl), small1000 (Nat.zero_le _), ?_⟩
      have e1 : Ex H (upd (upd H0 t (.tup [.str "group", .ref g])) l (.lst ([] ++ [.ref t]))) := fun x o h => by
        rw [upd_ne (fun z => by rw [z, fl] at h; cases h), upd_ne (fun z => by rw [z] at h; rw [e0 _ _ h] at ht; cases ht)]
        exact e0 _ _ h
      have g1 : upd (upd H0 t (.tup [.str "group", .ref g])) l (.lst ([] ++ [.ref t])) l = some (.lst [.ref t]) := upd_same
      have g2 : upd (upd H0 t (.tup [.str "group", .ref g])) l (.lst ([] ++ [.ref t])) t = some (.tup [.str "group", .ref g]) := by rw [upd_ne tl]; exact upd_same
      generalize upd (upd H0 t (.tup [.str "group", .ref g])) l (.lst ([] ++ [.ref t])) = H1 at e1 g1 g2 ⊢
      have hd1 := e1 _ _ hd
      refine ⟨_, rfl, A.Unrepairable, _, _, false, rfl, rfl, Or.inr ⟨dd, _, rfl, hd1⟩, xC, ClsV.own _, T.e_Unrepairable.kit_ne T.e_InvalidNumber (ne_ix T.nd 3 4 rfl rfl (by decide)) (ne_ix T.nd 0 4 rfl rfl (by decide)), _, rfl, ifF rfl ?_⟩
      refine ⟨_, rfl, A.Unrepairable, _, _, false, rfl, rfl, Or.inr ⟨dd, _, rfl, hd1⟩, xC, ClsV.own _, T.e_Unrepairable.kit_ne T.e_InvalidChange (ne_ix T.nd 3 7 rfl rfl (by decide)) (ne_ix T.nd 0 7 rfl rfl (by decide)), _, rfl, ifF rfl ?_⟩
      refine ⟨_, rfl, A.Unrepairable, _, _, true, rfl, rfl, Or.inr ⟨dd, _, rfl, hd1⟩, xC, ClsV.ty "ValueError", T.e_Unrepairable.kit_ve, _, rfl, iteF ?_⟩
      refine ⟨_, rfl, (by show 3 ≤ sizeLine; decide), fun q hq => ?_⟩
      have e2 := Ex.new (o := .tup [V.ref A.NotState, V.ref A.UnequalSizes, V.ref A.InvalidKind]) hq
      refine ⟨A.Unrepairable, q, _, [.ref A.NotState, .ref A.UnequalSizes, .ref A.InvalidKind], false, rfl, rfl, Or.inr ⟨dd, _, rfl, e2 _ _ hd1⟩, xC, upd_same, .cons (ClsV.own _) (.cons (ClsV.own _) (.cons (ClsV.own _) .nil)), ?_, _, rfl, ifF rfl ?_⟩
      · have h1 := T.e_Unrepairable.kit_ne T.e_NotState (ne_ix T.nd 3 2 rfl rfl (by decide)) (ne_ix T.nd 0 2 rfl rfl (by decide))
        have h2 := T.e_Unrepairable.kit_ne T.e_UnequalSizes (ne_ix T.nd 3 5 rfl rfl (by decide)) (ne_ix T.nd 0 5 rfl rfl (by decide))
        have h3 := T.e_Unrepairable.kit_ne T.e_InvalidKind (ne_ix T.nd 3 6 rfl rfl (by decide)) (ne_ix T.nd 0 6 rfl rfl (by decide))
        simp only [PySem.W.kitAny, h1, h2, h3]
      exact ⟨_, rfl, kq l _ hl (e1.trans e2) ⟨t, g, e2 _ _ g1, e2 _ _ g2, e2 _ _ (e1 _ _ hg)⟩⟩

end

section
variable {P : Program} {w : World} {K : PySem.W.Frag} {mg : Str → Option Value} {base : Heap} {A : Ad}
theorem ErrK.exm_base {K : PySem.W.Frag} {mg : Str → Option Value} {M C : Addr} {x : Str} (E : ErrK K mg M C x) (F : ErrM K mg M) (sb : PySem.W.mroIn K M (.type "BaseException") = some true) : PySem.W.exmOne K (.ref C) (.ref M) = some true := by
  unfold PySem.W.exmOne
  rw [show PySem.W.subIn K (.ref M) (.type "BaseException") = some true from sb, if_pos (by simp)]
  rw [kitCls_ref F.cls F.ty]
  show PySem.W.mroIn K C _ = _
  rw [E.mro]
  simp [veM]
theorem ok_law_told (T : Txt K mg A)  (g_involvement : Okd P w K mg base (L2N.CX P w) 7 A.involvement P_involvement (spInv9 A)) (e_law_fault : Oke P w K mg base 2 A.law_fault P_law_fault (seFa A)) : Okd P w K mg base CX0 8 A.law_told P_law_told spTo9 := by
  obtain ⟨fd, F⟩ := T.d_law_told
  obtain ⟨fd_involvement, G_involvement, b_involvement⟩ := g_involvement
  obtain ⟨fde_law_fault, E_law_fault, eb_law_fault⟩ := e_law_fault
  refine ⟨fd, F.ok sc_law_told (fun vs H Q E h => ?_) (fun cdv A' outer s H vs Q E hr h => ?_), F.binds fun _ _ _ _ _ _ us hl => match us, hl with | [_], _ => rfl⟩
  · obtain ⟨a, xs, rfl, _⟩ := h
    rfl
  · obtain ⟨a, xs, rfl, ha, x64, kI, kG⟩ := h
    refine ⟨_, (pss_cons (ps_set (i := 1) sc_law_told.nd rfl (Or.inl rfl) (pe_callTy call_list_of (by rfl) T.n_list (by decide +kernel) (pa_cons (pv 0) pa_nil)))
      (pss_cons (L2N.ps_try_as (i := 3) rfl rfl sc_law_told.nd rfl rfl ⟨rfl, by decide, .inl T.e_MendError.g⟩ L2N.takes0N (fun W pn xe tk _ => (pss_one (ps_set (i := 2) sc_law_told.nd rfl (Or.inl rfl) (pe_callS G_involvement (hr.mono (by decide)) rfl T.g_involvement T.k_involvement b_involvement (fun σ => L2N.passAt tk σ) (pa_cons (pv 1) pa_nil))))) (fun a oe cls d pn hz hf => (pss_one (ps_ret (HotE.pe_callE E_law_fault (L2H.roomH_mark (hr.mono (by decide)) _) (HotE.hotP_suite hz hf) (by rfl) T.g_law_fault T.k_law_fault eb_law_fault (passH0 (fun _ => E0)) (pa_cons (pv 3) pa_nil))))))
      (pss_cons (ps_if (PW.pt (pw_or (pt_not (pt_val (pe_callB call_isi (by rfl) T.n_isinstance (by decide +kernel) (pa_cons (pv 2) (pa_cons (pe_bltn (v := .ty "list") (u := .type "list") (by rfl) T.n_list (by decide +kernel) rfl) pa_nil))))) (pw_or1 (pt_truth (pe_lc (own := [("word", 4)]) (tt := _) (by rfl) sc_law_told.nd (pi_list (pv 2)) (blkOk_by (own := [("word", 4)]) (N := N_law_told) (sc := defScope s_law_told) (by decide +kernel)) (fun _ _ _ _ _ => (pg_name (i := 4) sc_law_told.nd rfl (Or.inl rfl))) (fun _ _ _ _ _ => (pts_one (pt_not (pt_val (pe_callB (call_isiQ (K := K) rfl) (by rfl) T.n_isinstance (by decide +kernel) (pa_cons (pv 4) (pa_cons (pe_bltn (v := .ty "str") (u := .type "str") (by rfl) T.n_str (by decide +kernel) rfl) pa_nil))))))) (fun _ _ _ _ _ => (pv 4))) (by intro _; rfl))))) (pss_one (ps_ret (pe_lst (pa_cons (pe_tup (pa_cons pe_str (pa_cons pe_int pa_nil))) pa_nil)))) pss_nil)
      (pss_one (ps_ret (pe_lst (pa_cons (pe_tup (pa_cons pe_str (pa_cons (pv 2) pa_nil))) (pa_cons (pe_tup (pa_cons pe_str (pa_cons (pv 1) pa_nil))) pa_nil)))))))), ?_⟩
    refine ⟨_, rfl, a, _, rfl, .inl (SqL.of ha), fun h hh => ?_⟩
    have e0 := Ex.new (o := .lst (xs.map V.int)) hh
    have gh : upd H h (.lst (xs.map V.int)) h = some (.lst (xs.map V.int)) := upd_same
    generalize upd H h (.lst (xs.map V.int)) = H0 at e0 gh ⊢
    refine ⟨_, rfl, h, xs, rfl, gh, x64, fun sN bs fb => ?_, fun k hk d H' e hd => ?_, fun sN gp hb d p H' e hd hp => ?_⟩
    · obtain ⟨k1, k2, k3⟩ := (kG sN).2 bs fb
      refine ⟨k1, k2, fun p H1 hp e1 gp => ?_⟩
      have gh1 := e1 _ _ gh
      refine ⟨_, rfl, _, _, _, _, true, rfl, ClsV.ty "list", TyX.base (TyOf.lst gp), kit_ty (by decide +kernel), _, rfl, ?_⟩
      refine iteF ⟨_, rfl, p, rfl, ⟨_, SqL.of gp⟩, fun D hD => ?_⟩
      have eD := Ex.new (o := .lst []) hD
      have gpD := eD _ _ gp
      refine lc_list (K := K) (a := p) (xs := (List.range xs.length).map fun x => V.str (invW bs x)) (fun j G => G = upd H1 D (.lst [])) rfl (fun j G _ q => by rw [q]; exact SqL.of gpD) ?_ ?_
      · rintro j x G hx rfl
        rw [List.getElem?_map] at hx
        cases hk : (List.range xs.length)[j]? with
        | none => rw [hk] at hx; cases hx
        | some y =>
        rw [hk] at hx
        cases hx
        exact ⟨rfl, _, rfl, _, _, _, _, true, rfl, ClsV.ty "str", TyX.base (TyOf.str _), kit_ty (by decide +kernel), _, rfl, iteF rfl⟩
      rintro G rfl
      refine ⟨_, .inl ⟨_, SqL.of upd_same, rfl⟩, ifF rfl ?_⟩
      have e2 := (e0.trans e1).trans eD
      have gh2 := eD _ _ gh1
      generalize upd H1 D (.lst []) = H2 at gpD e2 gh2 ⊢
      refine ⟨_, rfl, (by show 2 ≤ sizeLine; decide), fun t1 ht1 => ⟨_, rfl, (by show 2 ≤ sizeLine; decide), fun t2 ht2 => ⟨(by show 2 ≤ sizeLine; decide), fun r hr => ?_⟩⟩⟩
      have x1 := Ex.new (o := .tup [V.str (Str.ofString "words"), V.ref p]) ht1
      have x2 := Ex.new (o := .tup [V.str (Str.ofString "kept"), V.ref h]) ht2
      have x3 := Ex.new (o := .lst [V.ref t1, V.ref t2]) hr
      exact k3 r _ (back_none e2 (back_none x1 (back_none x2 hr))) (((e2.trans x1).trans x2).trans x3) ⟨t1, t2, p, h, upd_same, x3 _ _ (x2 _ _ upd_same), x3 _ _ upd_same, x3 _ _ (x2 _ _ (x1 _ _ gpD)), x3 _ _ (x2 _ _ (x1 _ _ gh2))⟩
    · refine ⟨true, T.e_InvalidImage.exm_base T.e_MendError T.m_sub, fun _ a ha => ?_, fun q => nomatch q⟩
      exact ⟨_, rfl, rfl, Or.inl ⟨k, d, rfl, rfl, hd, fun r H2 hr e2 q => kI k hk r H2 (back_none (e0.trans e) hr) ((e0.trans e).trans e2) q⟩⟩
    · refine ⟨true, T.e_Unrepairable.exm_base T.e_MendError T.m_sub, fun _ a ha => ?_, fun q => nomatch q⟩
      exact ⟨_, rfl, rfl, Or.inr ⟨gp, p, d, rfl, rfl, hd, hp, fun r H2 hr e2 q => (kG sN).1 gp hb r H2 (back_none (e0.trans e) hr) ((e0.trans e).trans e2) q⟩⟩

end

section
variable {P : Program} {w : World} {K : PySem.W.Frag} {mg : Str → Option Value} {base : Heap} {A : Ad}
theorem ok_law_refusals_told (T : Txt K mg A)  (g_law_built : Okd P w K mg base CX0 3 A.law_built P_law_built spBu) (g_law_menu : Okd P w K mg base CX0 2 A.law_menu P_law_menu spMnu) (g_law_forced : Okd P w K mg base CX0 2 A.law_forced P_law_forced spFcd) (g_law_take : Okd P w K mg base CX0 1 A.law_take P_law_take spTk) (g_law_image : Okd P w K mg base CX0 2 A.law_image P_law_image spIm) (g_law_bad_words : Okd P w K mg base CX0 1 A.law_bad_words P_law_bad_words spBw) (g_law_told : Okd P w K mg base CX0 8 A.law_told P_law_told spTo9) : Okd P w K mg base CX0 9 A.law_refusals_told P_law_refusals_told spRt9 := by
  obtain ⟨fd, F⟩ := T.d_law_refusals_told
  obtain ⟨fd_law_built, G_law_built, b_law_built⟩ := g_law_built
  obtain ⟨fd_law_menu, G_law_menu, b_law_menu⟩ := g_law_menu
  obtain ⟨fd_law_forced, G_law_forced, b_law_forced⟩ := g_law_forced
  obtain ⟨fd_law_take, G_law_take, b_law_take⟩ := g_law_take
  obtain ⟨fd_law_image, G_law_image, b_law_image⟩ := g_law_image
  obtain ⟨fd_law_bad_words, G_law_bad_words, b_law_bad_words⟩ := g_law_bad_words
  obtain ⟨fd_law_told, G_law_told, b_law_told⟩ := g_law_told
  refine ⟨fd, F.ok sc_law_refusals_told (fun vs H Q E h => ?_) (fun cdv A' outer s H vs Q E hr h => ?_), F.binds fun _ _ _ _ _ _ us hl => match us, hl with | [_], _ => rfl⟩
  · obtain ⟨b, c, rfl, _⟩ := h
    rfl
  · obtain ⟨b, c, rfl, B, k⟩ := h
    refine ⟨_, (pss_cons (ps_set (i := 1) sc_law_refusals_told.nd rfl (Or.inl rfl) (pe_call G_law_built (hr.mono (by decide)) (by rfl) T.g_law_built T.k_law_built b_law_built .nil pass0 (pa_cons (pv 0) (pa_cons pe_int (pa_cons (pe_call G_law_menu (hr.mono (by decide)) (by rfl) T.g_law_menu T.k_law_menu b_law_menu .nil pass0 (pa_cons (pv 0) pa_nil)) (pa_cons (pe_call G_law_forced (hr.mono (by decide)) (by rfl) T.g_law_forced T.k_law_forced b_law_forced .nil pass0 (pa_cons (pv 0) (pa_cons (pe_call G_law_take (hr.mono (by decide)) (by rfl) T.g_law_take T.k_law_take b_law_take .nil pass0 (pa_cons (pv 0) (pa_cons pe_int pa_nil))) pa_nil))) pa_nil))))))
      (pss_cons (ps_set (i := 2) sc_law_refusals_told.nd rfl (Or.inl rfl) (pe_call G_law_image (hr.mono (by decide)) (by rfl) T.g_law_image T.k_law_image b_law_image .nil pass0 (pa_cons (pv 1) pa_nil)))
      (pss_cons (ps_set (i := 3) sc_law_refusals_told.nd rfl (Or.inl rfl) (pe_callB call_len_seq (by rfl) T.n_len PySem.boot_len (pa_cons (pv 2) pa_nil)))
      (pss_cons (ps_setLc (i := 4) (own := [("piece", 9)]) (tt := _) (by rfl) sc_law_refusals_told.nd rfl rfl (sw_true rfl rfl rfl (by decide +kernel)) (pi_list (pv 1)) (blkOk_by (own := [("piece", 9)]) (N := N_law_refusals_told) (sc := defScope s_law_refusals_told) (by decide +kernel)) (fun _ _ _ _ _ => (pg_name (i := 9) sc_law_refusals_told.nd rfl (Or.inl rfl))) (fun _ _ _ _ _ => (pts_one (pt_cmpR (L2.op_inK (K := K) rfl) (pe_ix (ix_tupK (K := K) rfl) (pv 9) pe_int (fun _ _ => rfl)) (pe_call0 G_law_bad_words (hr.mono (by decide)) (by rfl) T.g_law_bad_words T.k_law_bad_words b_law_bad_words .nil pass0) (by with_unfolding_all rfl)))) (fun _ _ _ _ _ => (pe_callB (DaS.cr_sortTK (K := K) rfl (by exact hr.units)) (by rfl) T.n_sorted (by decide +kernel) (pa_cons (pe_ix (ix_tupK (K := K) rfl) (pv 9) pe_int (fun _ _ => rfl)) pa_nil))))
      (pss_cut (ps_if (PW.pt (pw_and (pt_truth (pv 4) (by intro _; rfl)) (pw_and1 (pt_cmpR (op_neD hr.units) (pe_call G_law_told (hr.mono (by decide)) (by rfl) T.g_law_told T.k_law_told b_law_told .nil pass0 (pa_cons (pv 2) pa_nil)) (pe_lst (pa_cons (pe_tup (pa_cons pe_str (pa_cons (pe_ix ix_list (pv 4) pe_int (fun _ _ => rfl)) pa_nil))) pa_nil)) (nomark _))))) (pss_one (ps_ret pe_bl)) pss_nil)
      (pss_cons (ps_if (pt_cmpR op_eq (pv 3) pe_int (nomark _)) (pss_one (ps_ret (pe_cmpR (op_eqD hr.units) (pe_call G_law_told (hr.mono (by decide)) (by rfl) T.g_law_told T.k_law_told b_law_told .nil pass0 (pa_cons (pv 2) pa_nil)) (pe_lst (pa_cons (pe_tup (pa_cons pe_str (pa_cons (pe_lst pa_nil) pa_nil))) (pa_cons (pe_tup (pa_cons pe_str (pa_cons (pe_lst pa_nil) pa_nil))) pa_nil))) (nomark _)))) pss_nil)
      (pss_cons (ps_set (i := 5) sc_law_refusals_told.nd rfl (Or.inl rfl) (pe_call G_law_take (hr.mono (by decide)) (by rfl) T.g_law_take T.k_law_take b_law_take .nil pass0 (pa_cons (pv 0) (pa_cons (pv 3) pa_nil))))
      (pss_cons (ps_set (i := 6) sc_law_refusals_told.nd rfl (Or.inl rfl) (pe_call G_law_take (hr.mono (by decide)) (by rfl) T.g_law_take T.k_law_take b_law_take .nil pass0 (pa_cons (pv 0) (pa_cons (pv 3) pa_nil))))
      (pss_cons (ps_set (i := 7) sc_law_refusals_told.nd rfl (Or.inl rfl) (pe_call G_law_take (hr.mono (by decide)) (by rfl) T.g_law_take T.k_law_take b_law_take .nil pass0 (pa_cons (pv 0) (pa_cons pe_int pa_nil))))
      (pss_cons (ps_set (i := 8) sc_law_refusals_told.nd rfl (Or.inl rfl) (pe_ix ix_list (pe_lst (pa_cons (pe_un un_neg pe_int) (pa_cons (pv 3) (pa_cons (pe_op op_add (pe_op op_add (pv 3) pe_int) (pv 7)) (pa_cons (pe_op op_sub (pe_un un_neg pe_int) (pv 7)) pa_nil))))) (pe_call G_law_take (hr.mono (by decide)) (by rfl) T.g_law_take T.k_law_take b_law_take .nil pass0 (pa_cons (pv 0) (pa_cons pe_int pa_nil))) (fun _ _ => rfl)))
      (pss_cons (ps_asg (pv 8) (pg_sub (pv 2) (pv 5) set_list))
      (pss_cons (ps_asg (pv 8) (pg_sub (pv 2) (pv 6) set_list))
      (pss_one (ps_ret (pe_cmpR (op_eqD hr.units) (pe_call G_law_told (hr.mono (by decide)) (by rfl) T.g_law_told T.k_law_told b_law_told .nil pass0 (pa_cons (pv 2) pa_nil)) (pe_lst (pa_cons (pe_tup (pa_cons pe_str (pa_cons (pe_callB (call_min2 (by rfl)) (by rfl) T.n_min (by decide +kernel) (pa_cons (pv 5) (pa_cons (pv 6) pa_nil))) pa_nil))) pa_nil)) (nomark _)))))))))))))))), ?_⟩
    refine ⟨_, rfl, _, rfl, b, c, rfl, B, fun mm ks H1 hm B1 M1 wm k8 kl => ?_⟩
    refine ⟨_, rfl, _, rfl, b, c, 3, rfl, by decide, B1, fun d H2 hd B2 M2 => ?_⟩
    have d2 : d ≤ 2 := by omega
    refine ⟨b, c, d, rfl, d2, B2, fun f fs H3 hf B3 M3 wf f8 fl => ?_⟩
    have mb : mm ≠ b := (B.ne hm).1
    have fb : f ≠ b := (B2.ne hf).1
    refine ⟨b, c, mm, f, 9, ks, fs, rfl, B3, M3 _ _ mb (M2 _ _ mb wm), mb, k8, kl, wf, fb, f8, by omega, by omega, fun p bs n H4 hp B4 M4 gb bd n64 kinds => ?_⟩
    refine ⟨_, rfl, p, bs, n, rfl, gb, bd, n64, fun a ys H5 ha e5 ga im => ?_⟩
    have ab : a ≠ b := (B4.ne ha).1
    have B5 := B4.ex e5
    have gb5 := gb.ex e5
    obtain ⟨ts, gp, tl, tk⟩ := gb5
    refine ⟨_, rfl, a, _, rfl, .inl (SqL.of ga), ?_⟩
    rw [nI_len, im.len]
    refine ⟨_, rfl, p, rfl, ⟨_, SqL.of gp⟩, fun D hD => ?_⟩
    refine lc_list (K := K) (a := p) (xs := ts.map V.ref) (fun j G => Ex H5 G ∧ ∃ us : List Addr, G D = some (.lst (us.map V.ref)) ∧ us.length ≤ j ∧ ((us = [] ∧ (bs.take j).find? (fun b => decide (8 ≤ b.1)) = none) ∨ ∃ u0 ur x vs, us = u0 :: ur ∧ (bs.take j).find? (fun b => decide (8 ≤ b.1)) = some x ∧ ListN G u0 vs ∧ vs.Perm x.2 ∧ vs.Pairwise (· ≤ ·))) ⟨Ex.new hD, [], upd_same, Nat.le_refl _, .inl ⟨rfl, rfl⟩⟩ (fun j G _ q => SqL.of (q.1 _ _ gp)) ?_ ?_
    · rintro j x G hx ⟨eG, us, gD, ul, uq⟩
      obtain ⟨r, hr, rfl⟩ := ref_at hx
      have jl := (List.getElem?_eq_some_iff.mp hr).1
      have hb : bs[j]? = some (bs[j]'(by rw [← tl]; exact jl)) := List.getElem?_eq_getElem _
      generalize bs[j]'(by rw [← tl]; exact jl) = x at hb
      have x15 := (bd.pw x (List.mem_of_getElem? hb)).1
      have jb : j < bs.length := (List.getElem?_eq_some_iff.mp hb).1
      have many := bd.many
      obtain ⟨t, h1, h2⟩ := tk j r x hr hb
      have tk1 : (bs.take (j + 1)).find? (fun b => decide (8 ≤ b.1)) = ((bs.take j).find? (fun b => decide (8 ≤ b.1))).or (if 8 ≤ x.1 then some x else none) := by
        rw [List.take_add_one, hb, List.find?_append]
        congr 1
        show ([x] : List Bk).find? _ = _
        by_cases z : 8 ≤ x.1
        · rw [List.find?_cons_of_pos (by rw [decide_eq_true z]), if_pos z]
        · rw [List.find?_cons_of_neg (by rw [decide_eq_false z]; exact Bool.false_ne_true), if_neg z]
          rfl
      refine ⟨rfl, _, rfl, r, _, _, _, rfl, rfl, SqT.of (eG _ _ h1), atI_nat (j := 0) rfl, rfl, fun q G2 hq e2 wq => ?_⟩
      refine ⟨_, _, rfl, Or.inl (SqL.of wq), rfl, rfl, _, rfl, ?_⟩
      rw [in_bad x15]
      refine ite_b (fun z => ?_) (fun z => ?_)
      · have z := of_decide_eq_true z
        obtain ⟨xs9, vs, s1, s2, s3, s4, s5, s6, s7⟩ := sort9 (SqT.of (K := K) (e2 _ _ (eG _ _ h2)))
        refine ⟨_, rfl, r, _, _, _, rfl, rfl, SqT.of (e2 _ _ (eG _ _ h1)), atI_nat (j := 1) rfl, t, xs9, rfl, s1, s2, s3, s4, fun s hs => ?_⟩
        rw [s5]
        have e3 := Ex.new (o := .lst (nI vs)) hs
        have gs : ListN (upd G2 s (.lst (nI vs))) s vs := upd_same
        generalize upd G2 s (.lst (nI vs)) = G3 at e3 gs ⊢
        have eG3 := (eG.trans e2).trans e3
        have gD3 := e3 _ _ (e2 _ _ gD)
        refine ⟨_, gD3, small1000 (by rw [List.length_map]; omega), fun x o ho => by rw [upd_ne (ne_of_none ho hD)]; exact eG3 _ _ ho, us ++ [s], by rw [upd_same, List.map_append]; rfl, by rw [List.length_append]; show us.length + 1 ≤ _; omega, .inr ?_⟩
        have up : ∀ (y : Addr) (ws : List Nat), ListN G3 y ws → (∃ us : List Addr, us ≠ [] ∧ G3 D = some (.lst (us.map V.ref)) ∨ y ≠ D) → True := fun _ _ _ _ => trivial
        rcases uq with ⟨rfl, uq⟩ | ⟨u0, ur, x0, vs0, rfl, uq, l0, p0, w0⟩
        · rw [uq, if_pos z] at tk1
          refine ⟨s, [], x, vs, rfl, tk1, ?_, s6, s7⟩
          have sD : s ≠ D := fun e => by rw [e] at hs; rw [e2 _ _ gD] at hs; cases hs
          show upd G3 D _ s = _
          rw [upd_ne sD]
          exact gs
        · rw [uq] at tk1
          refine ⟨u0, ur ++ [s], x0, vs0, rfl, tk1, ?_, p0, w0⟩
          have uD : u0 ≠ D := fun e => by
            rw [e, show ListN G D vs0 = (G D = some (.lst (nI vs0))) from rfl, gD] at l0
            have := HO.lst.inj (Option.some.inj l0)
            cases vs0 with
            | nil => cases this
            | cons y l => cases this
          show upd G3 D _ u0 = _
          rw [upd_ne uD]
          exact e3 _ _ (e2 _ _ l0)
      · have z := of_decide_eq_false z
        refine ⟨eG.trans e2, us, e2 _ _ gD, by omega, ?_⟩
        rcases uq with ⟨rfl, uq⟩ | ⟨u0, ur, x0, vs0, rfl, uq, l0, p0, w0⟩
        · rw [uq, if_neg z] at tk1
          exact .inl ⟨rfl, tk1⟩
        · rw [uq] at tk1
          exact .inr ⟨u0, ur, x0, vs0, rfl, tk1, e2 _ _ l0, p0, w0⟩
    rintro G ⟨eG, us, gD, ul, uq⟩
    rw [List.length_map, tl, List.take_length] at uq
    have gaG := eG _ _ ga
    have yl : ys.length ≤ 64 := by rw [im.len]; exact n64
    refine ⟨fun σ G2 => σ = [some (.ref b), some (.ref p), some (.ref a), some (.int (n : Int)), some (.ref D), none, none, none, none, none] ∧ Ex G G2 ∧ (0 < n ∨ ∀ x ∈ bs, x.1 < 8), ?_, ?_⟩
    · rcases uq with ⟨rfl, uq⟩ | ⟨u0, ur, x0, vs0, rfl, uq, l0, p0, w0⟩
      · refine ⟨_, rfl, _, .inl ⟨_, SqL.of gD, rfl⟩, ifF rfl ⟨rfl, Ex.refl _, .inr fun x hx => ?_⟩⟩
        have := List.find?_eq_none.1 uq x hx
        by_cases z : x.1 < 8
        · exact z
        · rw [decide_eq_true (show 8 ≤ x.1 by omega)] at this
          exact absurd rfl this
      · have xm := List.mem_of_find?_eq_some uq
        have x8 : 8 ≤ x0.1 := of_decide_eq_true (List.find?_some (p := fun b : Bk => decide (8 ≤ b.1)) uq)
        have npos : 0 < n := by
          have := bd.many
          have := List.length_pos_of_mem xm
          omega
        have bad : badF ys = some (grpF ys (mn x0.2)) := by rw [im.refused, uq]; rfl
        have vg : vs0 = grpF ys (mn x0.2) := srt_is p0 w0 (bd.ndb xm) (im.gp xm).2 (grpF_asc _)
        refine ⟨_, rfl, _, .inl ⟨_, SqL.of gD, rfl⟩, ifT rfl ?_⟩
        refine ⟨_, rfl, a, upI ys, rfl, by rw [← nI_up]; exact gaG, by rw [upI_len]; exact yl, (fun k hk => by rw [stray_up im.rec_] at hk; cases hk), fun sn => ⟨fun gp hgp r G3 hr e3 tl3 => ?_, fun cs hcs => ?_⟩⟩
        · rw [natI_up, bad] at hgp
          cases hgp
          obtain ⟨t, g, t1, t2, t3⟩ := tl3
          have gD3 := e3 _ _ gD
          refine ⟨_, rfl, D, _, _, _, rfl, rfl, SqL.of gD3, atI_nat (j := 0) rfl, (by show 2 ≤ sizeLine; decide), fun q hq => ⟨(by show 1 ≤ sizeLine; decide), fun z hz => ?_⟩⟩
          have x1 := Ex.new (o := .tup [V.str (Str.ofString "group"), V.ref u0]) hq
          have x2 := Ex.new (o := .lst [V.ref q]) hz
          have x12 := x1.trans x2
          have d1 := dp_tG (K := K) (x12 _ _ t1) (x12 _ _ t2) (x12 _ _ t3)
          have d2 := dp_tG (K := K) (r := z) (t := q) (g := u0) (gp := vs0) upd_same (x2 _ _ upd_same) (x12 _ _ (e3 _ _ l0))
          rw [vg] at d2
          refine ⟨_, _, d1, d2, (lay_tG _).shaped (by decide), (lay_tG _).shaped (by decide), _, rfl, ifF ?_ ⟨rfl, e3.trans x12, .inl npos⟩⟩
          rw [(lay_tG _).refl]
          rfl
        · rw [natI_up] at hcs
          exact (im_bad_ne im xm x8 hcs).elim
    rintro σ G2 ⟨rfl, eG2, nn⟩
    have ga2 := eG2 _ _ gaG
    have B6 := ((B5.ex eG).ex eG2)
    refine ⟨_, rfl, rfl, _, rfl, ?_⟩
    refine ite_b (fun z => ?_) (fun z => ?_)
    · have z : n = 0 := by have := of_decide_eq_true z; injection this with this; omega
      obtain ⟨ey, eb⟩ := im_n0 im z
      have ok : ∀ x ∈ bs, x.1 < 8 := fun x hx => by rw [eb] at hx; cases hx
      refine ⟨_, rfl, a, upI ys, rfl, by rw [← nI_up]; exact ga2, by rw [upI_len]; exact yl, (fun k hk => by rw [stray_up im.rec_] at hk; cases hk), fun sn => ⟨fun gp hgp => ?_, fun cs hcs => ?_⟩⟩
      · rw [natI_up, im.refused, eb] at hgp
        cases hgp
      · rw [natI_up] at hcs
        have ec := im_same im ok hcs
        rw [ec, eb, ey]
        refine ⟨(fun b hb => by cases hb), Nat.zero_le _, fun r G3 hr e3 tl3 => ?_⟩
        refine ⟨(by show 0 ≤ sizeLine; decide), fun l1 hl1 => ⟨(by show 2 ≤ sizeLine; decide), fun t1 ht1 => ⟨(by show 0 ≤ sizeLine; decide), fun l2 hl2 => ⟨(by show 2 ≤ sizeLine; decide), fun t2 ht2 => ⟨(by show 2 ≤ sizeLine; decide), fun r2 hr2 => ?_⟩⟩⟩⟩⟩
        have x1 := Ex.new (o := .lst []) hl1
        have x2 := Ex.new (o := .tup [V.str (Str.ofString "words"), V.ref l1]) ht1
        have x3 := Ex.new (o := .lst []) hl2
        have x4 := Ex.new (o := .tup [V.str (Str.ofString "kept"), V.ref l2]) ht2
        have x5 := Ex.new (o := .lst [V.ref t1, V.ref t2]) hr2
        have d1 := (tl3.ex ((((x1.trans x2).trans x3).trans x4).trans x5)).dp (K := K)
        have d2 := dp_tW (K := K) (r := r2) (t := t1) (u := t2) (p := l1) (q := l2) (ws := []) (xs := []) upd_same (x5 _ _ (x4 _ _ (x3 _ _ upd_same))) (x5 _ _ upd_same) (x5 _ _ (x4 _ _ (x3 _ _ (x2 _ _ upd_same)))) (x5 _ _ (x4 _ _ upd_same))
        refine ⟨_, _, d1, d2, (lay_tW (ws := []) [] (fun w hw => by cases hw)).shaped (by decide), (lay_tW (ws := []) [] (fun w hw => by cases hw)).shaped (by decide), ?_⟩
        have := (lay_tW (ws := []) [] (fun w hw => by cases hw)).refl
        show Q (V.bl (PyData.eqv (tgW [] []) (tgW [] []))) _
        rw [this]
        exact k _
    have z : 0 < n := by
      have := of_decide_eq_false z
      by_cases h : n = 0
      · rw [h] at this
        exact absurd rfl this
      · omega
    refine ⟨_, rfl, _, rfl, b, c, (n : Int), rfl, by omega, B6, fun d1 H7 hd1 B7 M7 => ?_⟩
    refine ⟨_, rfl, _, rfl, b, c, (n : Int), rfl, by omega, B7, fun d2 H8 hd2 B8 M8 => ?_⟩
    refine ⟨_, rfl, b, c, 1000, rfl, by decide, B8, fun far H9 hfar B9 M9 => ?_⟩
    have ga9 := M9 _ _ ab (M8 _ _ ab (M7 _ _ ab ga2))
    refine ⟨_, rfl, _, rfl, _, rfl, _, _, rfl, rfl, _, rfl, _, _, rfl, rfl, _, rfl, _, rfl, _, _, rfl, rfl, (by show 4 ≤ sizeLine; decide), fun ol hol => ?_⟩
    have olb : ol ≠ b := (B9.ne hol).1
    have e10 := Ex.new (o := .lst [V.int (-1), V.int (n : Int), V.int ((n : Int) + 1 + (far : Int)), V.int (-2 - (far : Int))]) hol
    have gol : upd H9 ol (.lst [V.int (-1), V.int (n : Int), V.int ((n : Int) + 1 + (far : Int)), V.int (-2 - (far : Int))]) ol = some (.lst [V.int (-1), V.int (n : Int), V.int ((n : Int) + 1 + (far : Int)), V.int (-2 - (far : Int))]) := upd_same
    have B10 := B9.ex e10
    have ga10 := e10 _ _ ga9
    generalize upd H9 ol (.lst [V.int (-1), V.int (n : Int), V.int ((n : Int) + 1 + (far : Int)), V.int (-2 - (far : Int))]) = H10 at e10 gol B10 ga10 ⊢
    refine ⟨_, rfl, b, c, 4, rfl, by decide, B10, fun d4 H11 hd4 B11 M11 => ?_⟩
    have gol11 := M11 _ _ olb gol
    have ga11 := M11 _ _ ab ga10
    have hd4 : d4 < 4 := by omega
    obtain ⟨zz, az, zz2⟩ : ∃ zz : Int, atI [V.int (-1), V.int (n : Int), V.int ((n : Int) + 1 + (far : Int)), V.int (-2 - (far : Int))] (d4 : Int) = some (V.int zz) ∧ (zz < 0 ∨ (ys.length : Int) ≤ zz) := by
      rw [im.len]
      rcases d4 with _ | _ | _ | _ | d4
      · exact ⟨_, atI_nat rfl, .inl (by decide)⟩
      · exact ⟨_, atI_nat rfl, .inr (Int.le_refl _)⟩
      · exact ⟨_, atI_nat rfl, .inr (by omega)⟩
      · exact ⟨_, atI_nat rfl, .inl (by omega)⟩
      · omega
    have l1 : d1 < ys.length := by rw [im.len]; omega
    have l2 : d2 < ys.length := by rw [im.len]; omega
    refine ⟨ol, _, _, _, rfl, rfl, SqL.of gol11, az, ?_⟩
    refine ⟨_, rfl, _, rfl, _, rfl, a, _, (d1 : Int), d1, rfl, rfl, ga11, Evl.ixN_nat (by rw [nI_len]; exact l1), ?_⟩
    have ga12 : upd H11 a (.lst ((nI ys).set d1 (V.int zz))) a = some (.lst ((nI ys).set d1 (V.int zz))) := upd_same
    generalize upd H11 a (.lst ((nI ys).set d1 (V.int zz))) = H12 at ga12 ⊢
    refine ⟨_, rfl, _, rfl, _, rfl, a, _, (d2 : Int), d2, rfl, rfl, ga12, Evl.ixN_nat (by rw [List.length_set, nI_len]; exact l2), ?_⟩
    have ga13 : upd H12 a (.lst (((nI ys).set d1 (V.int zz)).set d2 (V.int zz))) a = some (.lst ((((upI ys).set d1 zz).set d2 zz).map V.int)) := by
      rw [upd_same, nI_up, List.map_set, List.map_set]
    generalize upd H12 a (.lst (((nI ys).set d1 (V.int zz)).set d2 (V.int zz))) = H13 at ga13 ⊢
    have st := stray_two im.rec_ l1 l2 zz2
    refine ⟨_, rfl, a, _, rfl, ga13, by rw [List.length_set, List.length_set, upI_len]; exact yl, fun k9 hk r G3 hr e3 tl3 => ?_, fun sn => by rw [st] at sn; cases sn⟩
    rw [st] at hk
    cases hk
    obtain ⟨t, t1, t2⟩ := tl3
    refine ⟨_, rfl, _, rfl, _, _, rfl, (by show 2 ≤ sizeLine; decide), fun q hq => ⟨(by show 1 ≤ sizeLine; decide), fun z9 hz => ?_⟩⟩
    have mk : (if (d2 : Int) < (d1 : Int) then (d2 : Int) else (d1 : Int)) = ((min d1 d2 : Nat) : Int) := by
      split <;> omega
    rw [mk] at hz ⊢
    have x1 := Ex.new (o := .tup [V.str (Str.ofString "image"), V.int ((min d1 d2 : Nat) : Int)]) hq
    have x2 := Ex.new (o := .lst [V.ref q]) hz
    have p1 := dp_tI (K := K) ((x1.trans x2) _ _ t1) ((x1.trans x2) _ _ t2)
    have p2 := dp_tI (K := K) (r := z9) (t := q) (k := min d1 d2) upd_same (x2 _ _ upd_same)
    refine ⟨_, _, p1, p2, (lay_tI _).shaped (by decide), (lay_tI _).shaped (by decide), ?_⟩
    rw [(lay_tI _).refl]
    exact k _

end

section
variable {P : Program} {w : World} {K : PySem.W.Frag} {mg : Str → Option Value} {base : Heap} {A : Ad}
theorem ok_law_counted (T : Txt K mg A)  (g_law_all_choices : Okd P w K mg base CX0 1 A.law_all_choices P_law_all_choices spAc) (g_law_reading : Okd P w K mg base CX0 2 A.law_reading P_law_reading spRd9) : Okd P w K mg base CX0 3 A.law_counted P_law_counted spCd9 := by
  obtain ⟨fd, F⟩ := T.d_law_counted
  obtain ⟨fd_law_all_choices, G_law_all_choices, b_law_all_choices⟩ := g_law_all_choices
  obtain ⟨fd_law_reading, G_law_reading, b_law_reading⟩ := g_law_reading
  refine ⟨fd, F.ok sc_law_counted (fun vs H Q E h => ?_) (fun cdv A' outer s H vs Q E hr h => ?_), F.binds fun _ _ _ _ _ _ us hl => match us, hl with | [_, _, _, _], _ => rfl⟩
  · obtain ⟨p, fl, bs, n, rfl, _⟩ := h
    rfl
  · obtain ⟨p, fl, bs, n, rfl, hb, bd, n64, ok, hfl, n300, k⟩ := h
    refine ⟨_, (pss_cons (ps_set (i := 4) sc_law_counted.nd rfl (Or.inl rfl) (pe_call G_law_all_choices (hr.mono (by decide)) (by rfl) T.g_law_all_choices T.k_law_all_choices b_law_all_choices .nil pass0 (pa_cons (pv 1) (pa_cons (pv 2) pa_nil))))
      (pss_cons (ps_set (i := 5) sc_law_counted.nd rfl (Or.inl rfl) (pe_op op_rep (pe_lst (pa_cons pe_int pa_nil)) (pv 3)))
      (pss_cons (ps_for PassesOwn.never rfl (pi_list (pv 4)) (pg_name (i := 6) sc_law_counted.nd rfl (Or.inl rfl)) (pss_one (ps_for PassesOwn.never rfl (pi_list (pe_call G_law_reading (hr.mono (by decide)) (by rfl) T.g_law_reading T.k_law_reading b_law_reading .nil pass0 (pa_cons (pv 0) (pa_cons (pv 6) pa_nil)))) (pg_name (i := 7) sc_law_counted.nd rfl (Or.inl rfl)) (pss_one (ps_for PassesOwn.never rfl (pi_tup (pe_ix ix_tup (pv 7) pe_int (fun _ _ => rfl))) (pg_name (i := 8) sc_law_counted.nd rfl (Or.inl rfl)) (pss_one (ps_asg (pe_op op_add (pe_ix ix_list (pv 5) (pv 8) (fun _ _ => rfl)) pe_int) (pg_sub (pv 5) (pv 8) set_list))))))))
      (pss_cons (ps_set (i := 9) sc_law_counted.nd rfl (Or.inl rfl) (pe_lst pa_nil))
      (pss_cons (ps_for PassesOwn.never rfl (pi_list (pv 5)) (pg_name (i := 10) sc_law_counted.nd rfl (Or.inl rfl)) (pss_one (ps_expr (pe_bm PySem.F.plainAttrs_list PySem.F.slot_list_append PySem.F.type_list_append mt_append (pv 9) (pa_cons (pe_ifExp (pt_cmpR op_eq (pv 10) pe_int (nomark _)) pe_str (pe_ifExp (pt_cmpR op_eq (pv 10) (pe_callB call_len_seq (by rfl) T.n_len PySem.boot_len (pa_cons (pv 4) pa_nil)) (nomark _)) pe_str pe_str)) pa_nil)))))
      (pss_one (ps_ret (pv 9)))))))), ?_⟩
    have bl := bd.many
    have c64 := Nat.le_trans (cl_le bs) (Nat.le_trans bl n64)
    have f64 := Nat.le_trans (fr_le bs) (Nat.le_trans bl n64)
    refine ⟨_, rfl, _, rfl, clN bs, fl, frL bs, rfl, hfl, bd.fr_nd, f64, c64, n300, fun ev H0 hev e0 gev => ?_⟩
    have rlen : (allC (frL bs) (clN bs)).length ≤ 300 := Nat.le_trans (all_len bd.fr_nd (Nat.le_refl _)) n300
    have rows_ok : ∀ (i : Nat) (r : List Int), (allC (frL bs) (clN bs))[i]? = some r → r ∈ allC (frL bs) (clN bs) := fun i r h => List.mem_of_getElem? h
    have winv : ∀ x, x < n → cntW (totC bs (allC (frL bs) (clN bs)) x) (allC (frL bs) (clN bs)).length = invW bs x := fun x hx => cnt_inv bd ok hx
    generalize hR : allC (frL bs) (clN bs) = rows at *
    refine ⟨(by show 1 ≤ sizeLine; decide), fun z0 hz0 => ?_⟩
    have e1 := Ex.new (o := .lst [V.int 0]) hz0
    have gz : upd H0 z0 (.lst [V.int 0]) z0 = some (.lst [V.int 0]) := upd_same
    have gevB := gev.ex e1
    have eB := e0.trans e1
    generalize upd H0 z0 (.lst [V.int 0]) = HB at e1 gz gevB eB ⊢
    refine ⟨_, rfl, z0, (n : Int), _, rfl, rfl, gz, by omega, by omega, (by rw [Int.toNat_natCast]; exact Nat.le_trans (show 1 * n ≤ 64 by omega) (by decide)), fun cn hcn => ?_⟩
    rw [Int.toNat_natCast, rep_0]
    have e2 := Ex.new (o := .lst ((List.range n).map fun _ => V.int ((0 : Nat) : Int))) hcn
    have gc0 : upd HB cn (.lst ((List.range n).map fun _ => V.int ((0 : Nat) : Int))) cn = some (.lst ((List.range n).map fun _ => V.int ((0 : Nat) : Int))) := upd_same
    generalize upd HB cn (.lst ((List.range n).map fun _ => V.int ((0 : Nat) : Int))) = H1 at e2 gc0 ⊢
    obtain ⟨qs, hqs, ql, qk⟩ := gevB
    have hbB := hb.ex eB
    refine ⟨_, rfl, ev, rfl, ⟨_, SqL.of (e2 _ _ hqs)⟩, for_list (K := K) (a := ev) (xs := qs.map V.ref) (fun i σ G => ∃ (v6 v7 v8 : Option V) (f : Nat → Nat), σ = [some (.ref p), some (.int (clN bs : Int)), some (.ref fl), some (.int (n : Int)), some (.ref ev), some (.ref cn), v6, v7, v8, none, none] ∧ Ex HB G ∧ G cn = some (.lst ((List.range n).map fun x => V.int (f x : Int))) ∧ ∀ x, x < n → f x = totC bs (rows.take i) x) ⟨none, none, none, fun _ => 0, rfl, e2, gc0, fun x _ => rfl⟩ (fun i σ G _ ⟨_, _, _, _, _, e, _⟩ => SqL.of (e _ _ hqs)) ?_ ?_⟩
    · rintro i y σ G hi ⟨v6, v7, v8, f, rfl, eG, gc, hf⟩
      obtain ⟨q, hq, rfl⟩ := ref_at hi
      have il := (List.getElem?_eq_some_iff.mp hq).1
      have hr : rows[i]? = some (rows[i]'(by rw [← ql]; exact il)) := List.getElem?_eq_getElem _
      generalize rows[i]'(by rw [← ql]; exact il) = r at hr
      have hrm := rows_ok i r hr
      have gq := eG _ _ (qk i q r hq hr)
      rw [← hR] at hrm
      refine ⟨_, rfl, _, rfl, p, q, bs, r, n, rfl, hbB.ex eG, bd, n64, ok, gq, (all_mem hrm).1, fun rd G1 hrd e3 gR => ?_⟩
      obtain ⟨ts, hrd1, tl, tk⟩ := gR
      have gc1 := e3 _ _ gc
      have rdn : rd ≠ cn := fun z => by rw [z, gc] at hrd; cases hrd
      have eG1 := eG.trans e3
      refine ⟨rd, rfl, ⟨_, SqL.of hrd1⟩, for_list (K := K) (a := rd) (xs := ts.map V.ref) (fun j σ G2 => ∃ (v7 v8 : Option V) (f2 : Nat → Nat), σ = [some (.ref p), some (.int (clN bs : Int)), some (.ref fl), some (.int (n : Int)), some (.ref ev), some (.ref cn), some (.ref q), v7, v8, none, none] ∧ Ex HB G2 ∧ Mut cn G1 G2 ∧ G2 cn = some (.lst ((List.range n).map fun x => V.int (f2 x : Int))) ∧ ∀ x, x < n → f2 x = totC bs (rows.take i) x + ((rdS bs r).take j).flatten.count x) ⟨v7, v8, f, rfl, eG1, fun a o _ h => h, gc1, fun x hx => by rw [hf x hx]; rfl⟩ (fun j σ G _ ⟨_, _, _, _, _, M, _⟩ => SqL.of (M _ _ rdn hrd1)) ?_ ?_⟩
      · rintro j y σ G2 hj ⟨v7, v8, f2, rfl, eG2, M2, gc2, hf2⟩
        obtain ⟨t, ht, rfl⟩ := ref_at hj
        have jl := (List.getElem?_eq_some_iff.mp ht).1
        have hm : (rdS bs r)[j]? = some ((rdS bs r)[j]'(by rw [← tl]; exact jl)) := List.getElem?_eq_getElem _
        generalize (rdS bs r)[j]'(by rw [← tl]; exact jl) = ms at hm
        obtain ⟨w, u, rw_, s1, s2, pm⟩ := tk j t ms ht hm
        have tn : t ≠ cn := fun z => by rw [z, gc1] at s1; cases s1
        have un : u ≠ cn := fun z => by rw [z, gc1] at s2; cases s2
        have s1' := M2 _ _ tn s1
        have s2' := M2 _ _ un s2
        refine ⟨_, rfl, t, _, _, _, rfl, rfl, SqT.of s1', atI_nat (j := 1) rfl, u, rfl, ⟨_, SqT.of s2'⟩, for_tup (K := K) (a := u) (xs := nI rw_) (fun m σ G3 => ∃ (v8 : Option V) (f3 : Nat → Nat), σ = [some (.ref p), some (.int (clN bs : Int)), some (.ref fl), some (.int (n : Int)), some (.ref ev), some (.ref cn), some (.ref q), some (.ref t), v8, none, none] ∧ Ex HB G3 ∧ Mut cn G1 G3 ∧ G3 cn = some (.lst ((List.range n).map fun x => V.int (f3 x : Int))) ∧ ∀ x, x < n → f3 x = totC bs (rows.take i) x + ((rdS bs r).take j).flatten.count x + (rw_.take m).count x) ⟨v8, f2, rfl, eG2, M2, gc2, fun x hx => by rw [hf2 x hx]; rfl⟩ (fun m σ G _ ⟨_, _, _, _, M, _⟩ => SqT.of (M _ _ un s2)) ?_ ?_⟩
        · rintro m y σ G3 hmm ⟨v8, f3, rfl, eG3, M3, gc3, hf3⟩
          obtain ⟨ml, rfl⟩ := nat_at hmm
          have hx2 := getD_some9 ml
          generalize rw_.getD m 0 = x0 at hx2 ⊢
          have xl : x0 < n := rd_lt bd hrm rfl (List.mem_of_getElem? hm) (pm.mem_iff.1 (List.mem_of_getElem? hx2))
          have ax : atI ((List.range n).map fun x => V.int (f3 x : Int)) (x0 : Int) = some (V.int (f3 x0 : Int)) := atI_nat (by rw [List.getElem?_map, List.getElem?_range xl]; rfl)
          refine ⟨_, rfl, _, rfl, cn, _, _, _, rfl, rfl, SqL.of gc3, ax, _, _, rfl, rfl, ?_⟩
          refine ⟨_, rfl, _, rfl, cn, _, (x0 : Int), x0, rfl, rfl, gc3, Evl.ixN_nat (by rw [List.length_map, List.length_range]; exact xl), some (V.int (x0 : Int)), fun y => if y = x0 then f3 x0 + 1 else f3 y, rfl, fun a o h => by rw [upd_ne (ne_of_none h hcn)]; exact eG3 _ _ h, fun a o na h => by rw [upd_ne na]; exact M3 _ _ na h, by rw [upd_same]; exact congrArg (fun l => some (HO.lst l)) (set_fnN (v := f3 x0 + 1) xl), fun x hx => ?_⟩
          dsimp only
          rw [cnt_one hx2]
          by_cases e : x = x0
          · rw [if_pos e, if_pos e, ← e, hf3 x hx, Nat.add_assoc]
          · rw [if_neg e, if_neg e, hf3 x hx, Nat.add_zero]
        · rintro σ G3 ⟨v8, f3, rfl, eG3, M3, gc3, hf3⟩
          refine ⟨_, _, f3, rfl, eG3, M3, gc3, fun x hx => ?_⟩
          rw [hf3 x hx, cnt_snoc hm, nI_len, List.take_length, pm.count_eq, Nat.add_assoc]
      · rintro σ G2 ⟨v7, v8, f2, rfl, eG2, M2, gc2, hf2⟩
        refine ⟨_, _, _, f2, rfl, eG2, gc2, fun x hx => ?_⟩
        rw [hf2 x hx, tot_snoc bs hr, List.length_map, tl, List.take_length]
    rintro σ G ⟨v6, v7, v8, f, rfl, eG, gc, hf⟩
    rw [List.length_map, ql, List.take_length] at hf
    refine ⟨(by show 0 ≤ sizeLine; decide), fun wl hwl => ?_⟩
    have e3 := Ex.new (o := .lst []) hwl
    have gw0 : upd G wl (.lst []) wl = some (.lst []) := upd_same
    generalize upd G wl (.lst []) = G1 at e3 gw0 ⊢
    have gevG := eG _ _ hqs
    refine ⟨_, rfl, cn, rfl, ⟨_, SqL.of (e3 _ _ gc)⟩, for_list (K := K) (a := cn) (xs := (List.range n).map fun x => V.int (f x : Int)) (fun i σ G2 => ∃ v10 : Option V, σ = [some (.ref p), some (.int (clN bs : Int)), some (.ref fl), some (.int (n : Int)), some (.ref ev), some (.ref cn), v6, v7, v8, some (.ref wl), v10] ∧ Ex G G2 ∧ G2 wl = some (.lst ((List.range i).map fun x => V.str (invW bs x)))) ⟨none, rfl, e3, gw0⟩ (fun i σ G _ ⟨_, _, e, _⟩ => SqL.of (e _ _ gc)) ?_ ?_⟩
    · rintro i y σ G2 hi ⟨v10, rfl, eG2, gw⟩
      rw [List.getElem?_map] at hi
      have il : i < n := by
        by_cases c : i < n
        · exact c
        · rw [List.getElem?_eq_none (by rw [List.length_range]; omega)] at hi
          cases hi
      rw [List.getElem?_range il] at hi
      cases hi
      refine ⟨_, rfl, .inl ⟨rfl, _, SqL.of gw⟩, _, rfl, rfl, _, rfl, ?_⟩
      have w0 : cntW (f i) rows.length = invW bs i := by rw [hf i il]; exact winv i il
      have fin : ∀ w9 : Str, w9 = invW bs i → upd G2 wl (.lst (((List.range i).map fun x => V.str (invW bs x)) ++ [V.str w9])) wl = some (.lst ((List.range (i + 1)).map fun x => V.str (invW bs x))) := fun w9 h => by
        rw [upd_same, List.range_succ, List.map_append, h]
        rfl
      have sm : ((List.range i).map fun x => V.str (invW bs x)).length ≤ 1000 := by rw [List.length_map, List.length_range]; omega
      by_cases c0 : f i = 0
      · rw [decide_eq_true (show V.int (f i : Int) = V.int 0 from by rw [c0]; rfl)]
        refine iteT ⟨wl, _, _, rfl, rfl, gw, small1000 sm, _, rfl, fun x o h => by rw [upd_ne (ne_of_none h hwl)]; exact eG2 _ _ h, fin _ ?_⟩
        rw [← w0]
        unfold cntW
        rw [if_pos c0]
      rw [decide_eq_false (show ¬ V.int (f i : Int) = V.int 0 from fun z => by injection z with z; omega)]
      refine iteF ⟨_, rfl, _, rfl, ev, _, rfl, .inl (SqL.of (eG2 _ _ gevG)), rfl, _, rfl, ?_⟩
      by_cases c1 : f i = rows.length
      · rw [decide_eq_true (show V.int (f i : Int) = V.int (((qs.map V.ref).length : Nat) : Int) from by rw [List.length_map, ql, c1])]
        refine iteT ⟨wl, _, _, rfl, rfl, gw, small1000 sm, _, rfl, fun x o h => by rw [upd_ne (ne_of_none h hwl)]; exact eG2 _ _ h, fin _ ?_⟩
        rw [← w0]
        unfold cntW
        rw [if_neg c0, if_pos c1]
      rw [decide_eq_false (show ¬ V.int (f i : Int) = V.int (((qs.map V.ref).length : Nat) : Int) from fun z => by rw [List.length_map, ql] at z; injection z with z; omega)]
      refine iteF ⟨wl, _, _, rfl, rfl, gw, small1000 sm, _, rfl, fun x o h => by rw [upd_ne (ne_of_none h hwl)]; exact eG2 _ _ h, fin _ ?_⟩
      rw [← w0]
      unfold cntW
      rw [if_neg c0, if_neg c1]
    · rintro σ G2 ⟨v10, rfl, eG2, gw⟩
      rw [List.length_map, List.length_range] at gw
      exact ⟨_, rfl, k wl G2 (back_none eB (back_none eG hwl)) ((eB.trans eG).trans eG2) gw⟩

end

section
variable {P : Program} {w : World} {K : PySem.W.Frag} {mg : Str → Option Value} {base : Heap} {A : Ad}
def spLaw (K : PySem.W.Frag) : Sp := fun vs H Q _ => ∃ (a : Addr) (ns : List Int), vs = [.ref a] ∧ SqL K H a (ns.map V.int) ∧ ns.length ≤ 63 ∧ ∀ H', Q (.bl true) H'
theorem ok_law {fd : FuncData} (T : Txt K mg A) (F : Fun K "law" "law" s_law A.law fd)  (g_law_box : Okd P w K mg base CX0 1 A.law_box P_law_box (spBox K)) (g_law_take : Okd P w K mg base CX0 1 A.law_take P_law_take spTk) (g_law_refusals_told : Okd P w K mg base CX0 9 A.law_refusals_told P_law_refusals_told spRt9) (g_law_built : Okd P w K mg base CX0 3 A.law_built P_law_built spBu) (g_law_menu : Okd P w K mg base CX0 2 A.law_menu P_law_menu spMnu) (g_law_image : Okd P w K mg base CX0 2 A.law_image P_law_image spIm) (g_law_count : Okd P w K mg base CX0 1 A.law_count P_law_count spCnt) (g_law_counted : Okd P w K mg base CX0 3 A.law_counted P_law_counted spCd9) (g_law_by_pieces : Okd P w K mg base CX0 1 A.law_by_pieces P_law_by_pieces spBp9) (g_law_told : Okd P w K mg base CX0 8 A.law_told P_law_told spTo9) : FnOk P w K mg base CX0 10 A.law fd P_law (spLaw K) := by
  obtain ⟨fd_law_box, G_law_box, b_law_box⟩ := g_law_box
  obtain ⟨fd_law_take, G_law_take, b_law_take⟩ := g_law_take
  obtain ⟨fd_law_refusals_told, G_law_refusals_told, b_law_refusals_told⟩ := g_law_refusals_told
  obtain ⟨fd_law_built, G_law_built, b_law_built⟩ := g_law_built
  obtain ⟨fd_law_menu, G_law_menu, b_law_menu⟩ := g_law_menu
  obtain ⟨fd_law_image, G_law_image, b_law_image⟩ := g_law_image
  obtain ⟨fd_law_count, G_law_count, b_law_count⟩ := g_law_count
  obtain ⟨fd_law_counted, G_law_counted, b_law_counted⟩ := g_law_counted
  obtain ⟨fd_law_by_pieces, G_law_by_pieces, b_law_by_pieces⟩ := g_law_by_pieces
  obtain ⟨fd_law_told, G_law_told, b_law_told⟩ := g_law_told
  refine F.ok sc_law (fun vs H Q E h => ?_) (fun cdv A' outer s H vs Q E hr h => ?_)
  · obtain ⟨a, ns, rfl, _⟩ := h
    rfl
  · obtain ⟨a, ns, rfl, hs, hlen, k⟩ := h
    refine ⟨_, (pss_cons (ps_set (i := 1) sc_law.nd rfl (Or.inl rfl) (pe_call G_law_box (hr.mono (by decide)) (by rfl) T.g_law_box T.k_law_box b_law_box .nil pass0 (pa_cons (pv 0) pa_nil)))
      (pss_cons (ps_set (i := 2) sc_law.nd rfl (Or.inl rfl) (pe_call G_law_take (hr.mono (by decide)) (by rfl) T.g_law_take T.k_law_take b_law_take .nil pass0 (pa_cons (pv 1) (pa_cons pe_int pa_nil))))
      (pss_cons (ps_if (pt_cmpR op_eq (pv 2) pe_int (nomark _)) (pss_one (ps_ret (pe_call G_law_refusals_told (hr.mono (by decide)) (by rfl) T.g_law_refusals_told T.k_law_refusals_told b_law_refusals_told .nil pass0 (pa_cons (pv 1) pa_nil)))) pss_nil)
      (pss_cut (ps_set (i := 3) sc_law.nd rfl (Or.inl rfl) (pe_call G_law_built (hr.mono (by decide)) (by rfl) T.g_law_built T.k_law_built b_law_built .nil pass0 (pa_cons (pv 1) (pa_cons (pe_ifExp (pt_cmpR op_eq (pv 2) pe_int (nomark _)) pe_int pe_int) (pa_cons (pe_call G_law_menu (hr.mono (by decide)) (by rfl) T.g_law_menu T.k_law_menu b_law_menu .nil pass0 (pa_cons (pv 1) pa_nil)) (pa_cons (pe_lst pa_nil) pa_nil))))))
      (pss_cons (ps_set (i := 4) sc_law.nd rfl (Or.inl rfl) (pe_call G_law_image (hr.mono (by decide)) (by rfl) T.g_law_image T.k_law_image b_law_image .nil pass0 (pa_cons (pv 3) pa_nil)))
      (pss_cons (ps_set (i := 5) sc_law.nd rfl (Or.inl rfl) (pe_callB call_len_seq (by rfl) T.n_len PySem.boot_len (pa_cons (pe_lc (own := [("piece", 8)]) (tt := _) (by rfl) sc_law.nd (pi_list (pv 3)) (blkOk_by (own := [("piece", 8)]) (N := N_law) (sc := defScope s_law) (by decide +kernel)) (fun _ _ _ _ _ => (pg_name (i := 8) sc_law.nd rfl (Or.inl rfl))) (fun _ _ _ _ _ => (pts_one (pt_cmpR op_eq (pe_ix (ix_tupK (K := K) rfl) (pv 8) pe_int (fun _ _ => rfl)) pe_str (nomark _)))) (fun _ _ _ _ _ => (pv 8))) pa_nil)))
      (pss_cons (ps_setLc (i := 6) (own := [("piece", 8)]) (tt := _) (by rfl) sc_law.nd rfl rfl (sw_true rfl rfl rfl (by decide +kernel)) (pi_list (pv 3)) (blkOk_by (own := [("piece", 8)]) (N := N_law) (sc := defScope s_law) (by decide +kernel)) (fun _ _ _ _ _ => (pg_name (i := 8) sc_law.nd rfl (Or.inl rfl))) (fun _ _ _ _ _ => (pts_one (pt_cmpR op_eq (pe_ix (ix_tupK (K := K) rfl) (pv 8) pe_int (fun _ _ => rfl)) pe_str (nomark _)))) (fun _ _ _ _ _ => (pe_ix (ix_tupK (K := K) rfl) (pe_ix (ix_tupK (K := K) rfl) (pv 8) pe_int (fun _ _ => rfl)) pe_int (fun _ _ => rfl))))
      (pss_cut (ps_if (pt_cmpR op_le (pe_call G_law_count (hr.mono (by decide)) (by rfl) T.g_law_count T.k_law_count b_law_count .nil pass0 (pa_cons (pv 5) (pa_cons (pe_callB call_len_seq (by rfl) T.n_len PySem.boot_len (pa_cons (pv 6) pa_nil)) pa_nil))) pe_int (nomark _)) (pss_one (ps_set (i := 7) sc_law.nd rfl (Or.inl rfl) (pe_call G_law_counted (hr.mono (by decide)) (by rfl) T.g_law_counted T.k_law_counted b_law_counted .nil pass0 (pa_cons (pv 3) (pa_cons (pv 5) (pa_cons (pv 6) (pa_cons (pe_callB call_len_seq (by rfl) T.n_len PySem.boot_len (pa_cons (pv 4) pa_nil)) pa_nil))))))) (pss_one (ps_set (i := 7) sc_law.nd rfl (Or.inl rfl) (pe_call G_law_by_pieces (hr.mono (by decide)) (by rfl) T.g_law_by_pieces T.k_law_by_pieces b_law_by_pieces .nil pass0 (pa_cons (pv 3) (pa_cons (pe_callB call_len_seq (by rfl) T.n_len PySem.boot_len (pa_cons (pv 4) pa_nil)) pa_nil))))))
      (pss_one (ps_ret (pe_cmpR (op_eqD hr.units) (pe_call G_law_told (hr.mono (by decide)) (by rfl) T.g_law_told T.k_law_told b_law_told .nil pass0 (pa_cons (pv 4) pa_nil)) (pe_lst (pa_cons (pe_tup (pa_cons pe_str (pa_cons (pv 7) pa_nil))) (pa_cons (pe_tup (pa_cons pe_str (pa_cons (pv 4) pa_nil))) pa_nil))) (nomark _)))))))))))), ?_⟩
    refine ⟨_, rfl, a, ns, rfl, hs, fun b c H1 hb hc e1 B1 => ?_⟩
    refine ⟨_, rfl, b, c, 6, rfl, by decide, B1, fun w9 H2 hw B2 M2 => ?_⟩
    refine ⟨_, rfl, rfl, _, rfl, ?_⟩
    refine ite_b (fun z => ?_) (fun z => ?_)
    · exact ⟨_, rfl, b, c, rfl, B2, fun H' => k H'⟩
    refine ⟨fun σ G => ∃ (p : Addr) (bs : List Bk) (n : Nat), σ = [some (.ref a), some (.ref b), some (.int (w9 : Int)), some (.ref p), none, none, none, none, none] ∧ BltAt G p bs ∧ Bd n bs ∧ n ≤ 64 ∧ ∀ x ∈ bs, x.1 < 8, ?_, ?_⟩
    · refine ⟨_, rfl, _, rfl, rfl, _, rfl, ?_⟩
      refine ite_b (fun z => ?_) (fun z => ?_)
      · refine ⟨_, rfl, b, c, rfl, B2, fun mm ks H3 hm B3 M3 wm k8 kl => ?_⟩
        refine ⟨(by show 0 ≤ sizeLine; decide), fun fl hfl => ?_⟩
        have x1 := Ex.new (o := .lst []) hfl
        have mb : mm ≠ b := (B2.ne hm).1
        have fb : fl ≠ b := (B3.ne hfl).1
        refine ⟨b, c, mm, fl, 64, ks, [], rfl, B3.ex x1, x1 _ _ wm, mb, k8, kl, upd_same, fb, (fun k h => by cases h), by decide, by decide, fun p bs n H4 hp B4 M4 gb bd n64 kinds => ?_⟩
        exact ⟨p, bs, n, rfl, gb, bd, n64, fun x hx => (kinds x hx).elim id fun h => by cases h⟩
      · refine ⟨_, rfl, b, c, rfl, B2, fun mm ks H3 hm B3 M3 wm k8 kl => ?_⟩
        refine ⟨(by show 0 ≤ sizeLine; decide), fun fl hfl => ?_⟩
        have x1 := Ex.new (o := .lst []) hfl
        have mb : mm ≠ b := (B2.ne hm).1
        have fb : fl ≠ b := (B3.ne hfl).1
        refine ⟨b, c, mm, fl, 12, ks, [], rfl, B3.ex x1, x1 _ _ wm, mb, k8, kl, upd_same, fb, (fun k h => by cases h), by decide, by decide, fun p bs n H4 hp B4 M4 gb bd n64 kinds => ?_⟩
        exact ⟨p, bs, n, rfl, gb, bd, n64, fun x hx => (kinds x hx).elim id fun h => by cases h⟩
    rintro σ H4 ⟨p, bs, n, rfl, gb, bd, n64, ok⟩
    have many := bd.many
    refine ⟨_, rfl, p, bs, n, rfl, gb, bd, n64, fun ai ys H5 ha e5 ga im => ?_⟩
    obtain ⟨ts, gp, tl, tk⟩ := gb.ex e5
    have ew : ∀ (x : Bk), x ∈ bs → ∀ j : Nat, j < 15 → decide (V.str (wd x.1) = V.str (wd j)) = decide (x.1 = j) := fun x hx j hj => wd_eq (by have := ok x hx; omega) hj
    refine ⟨_, rfl, p, rfl, ⟨_, SqL.of gp⟩, fun D hD => ?_⟩
    refine lc_list (K := K) (a := p) (xs := ts.map V.ref) (fun j G => Ex H5 G ∧ ∃ us : List V, G D = some (.lst us) ∧ us.length = clN (bs.take j)) ⟨Ex.new hD, [], upd_same, rfl⟩ (fun j G _ q => SqL.of (q.1 _ _ gp)) ?_ ?_
    · rintro j x G hx ⟨eG, us, gD, ul⟩
      obtain ⟨r, hr, rfl⟩ := ref_at hx
      have jl := (List.getElem?_eq_some_iff.mp hr).1
      have hb : bs[j]? = some (bs[j]'(by rw [← tl]; exact jl)) := List.getElem?_eq_getElem _
      generalize bs[j]'(by rw [← tl]; exact jl) = x at hb
      obtain ⟨t, h1, h2⟩ := tk j r x hr hb
      have ck1 : clN (bs.take (j + 1)) = clN (bs.take j) + if x.1 = 2 then 1 else 0 := by
        rw [List.take_add_one, hb]
        exact cl_snoc x _
      have u64 : us.length ≤ 64 := by
        rw [ul]
        have := cl_take bs j
        have := cl_le bs
        omega
      refine ⟨rfl, _, rfl, r, _, _, _, rfl, rfl, SqT.of (eG _ _ h1), atI_nat (j := 0) rfl, rfl, _, rfl, ?_⟩
      show if decide (V.str (wd x.1) = V.str (wd 2)) = true then _ else _
      rw [ew x (List.mem_of_getElem? hb) 2 (by decide)]
      refine ite_b (fun z => ?_) (fun z => ?_)
      · rw [if_pos (of_decide_eq_true z)] at ck1
        exact ⟨_, rfl, _, gD, small1000 (by omega), fun x o ho => by rw [upd_ne (ne_of_none ho hD)]; exact eG _ _ ho, us ++ [V.ref r], upd_same, by rw [List.length_append, ck1, ul]; rfl⟩
      · rw [if_neg (of_decide_eq_false z)] at ck1
        exact ⟨eG, us, gD, by rw [ck1, ul]; rfl⟩
    rintro G ⟨eG, us, gD, ul⟩
    rw [List.length_map, tl, List.take_length] at ul
    refine ⟨D, _, rfl, .inl (SqL.of gD), ?_⟩
    rw [ul]
    have gpG := eG _ _ gp
    have gaG := eG _ _ ga
    refine ⟨_, rfl, p, rfl, ⟨_, SqL.of gpG⟩, fun D2 hD2 => ?_⟩
    refine lc_list (K := K) (a := p) (xs := ts.map V.ref) (fun j G2 => Ex G G2 ∧ ListN G2 D2 (frL (bs.take j))) ⟨Ex.new hD2, upd_same⟩ (fun j G _ q => SqL.of (q.1 _ _ gpG)) ?_ ?_
    · rintro j x G2 hx ⟨eG2, gD2⟩
      obtain ⟨r, hr, rfl⟩ := ref_at hx
      have jl := (List.getElem?_eq_some_iff.mp hr).1
      have hb : bs[j]? = some (bs[j]'(by rw [← tl]; exact jl)) := List.getElem?_eq_getElem _
      generalize bs[j]'(by rw [← tl]; exact jl) = x at hb
      have xm := List.mem_of_getElem? hb
      obtain ⟨t, h1, h2⟩ := tk j r x hr hb
      have fk1 : frL (bs.take (j + 1)) = frL (bs.take j) ++ if x.1 = 0 then [x.2.getD 0 0] else [] := by
        rw [List.take_add_one, hb]
        exact fr_snoc x _
      have f64 : (frL (bs.take j)).length ≤ 64 := by
        have h1 := fr_le (bs.take j)
        rw [List.length_take] at h1
        omega
      refine ⟨rfl, _, rfl, r, _, _, _, rfl, rfl, SqT.of (eG2 _ _ (eG _ _ h1)), atI_nat (j := 0) rfl, rfl, _, rfl, ?_⟩
      show if decide (V.str (wd x.1) = V.str (wd 0)) = true then _ else _
      rw [ew x xm 0 (by decide)]
      refine ite_b (fun z => ?_) (fun z => ?_)
      · have z := of_decide_eq_true z
        rw [if_pos z] at fk1
        obtain ⟨y, ey⟩ := bd.free_one xm z
        have a0 : atI (nI x.2) ((0 : Nat) : Int) = some (V.int (y : Int)) := atI_nat (by rw [ey]; rfl)
        refine ⟨_, rfl, r, _, _, _, rfl, rfl, SqT.of (eG2 _ _ (eG _ _ h1)), atI_nat (j := 1) rfl, t, _, _, _, rfl, rfl, SqT.of (eG2 _ _ (eG _ _ h2)), a0, _, gD2, small1000 (by rw [nI_len]; omega), fun x o ho => by rw [upd_ne (ne_of_none ho hD2)]; exact eG2 _ _ ho, ?_⟩
        show upd G2 D2 _ D2 = _
        rw [upd_same, fk1, ey]
        unfold nI
        rw [List.map_append]
        rfl
      · rw [if_neg (of_decide_eq_false z), List.append_nil] at fk1
        exact ⟨eG2, by rw [fk1]; exact gD2⟩
    rintro G2 ⟨eG2, gD2⟩
    rw [List.length_map, tl, List.take_length] at gD2
    have ga2 := eG2 _ _ gaG
    have gb2 : BltAt G2 p bs := ((gb.ex e5).ex eG).ex eG2
    have c64 : clN bs ≤ 64 := Nat.le_trans (cl_le bs) (Nat.le_trans many n64)
    have f64 : (frL bs).length ≤ 64 := Nat.le_trans (fr_le bs) (Nat.le_trans many n64)
    have yl : ys.length ≤ 64 := by rw [im.len]; exact n64
    refine ⟨fun σ G3 => ∃ wl : Addr, σ = [some (.ref a), some (.ref b), some (.int (w9 : Int)), some (.ref p), some (.ref ai), some (.int (clN bs : Int)), some (.ref D2), some (.ref wl), none] ∧ Ex G2 G3 ∧ G3 wl = some (.lst ((List.range n).map fun x => V.str (invW bs x))), ?_, ?_⟩
    · refine ⟨_, rfl, _, rfl, D2, _, rfl, .inl (SqL.of gD2), ?_⟩
      rw [nI_len]
      refine ⟨clN bs, (frL bs).length, rfl, c64, f64, ?_⟩
      rw [cnt_nr]
      refine ⟨_, _, rfl, rfl, _, rfl, ?_⟩
      refine ite_b (fun z => ?_) (fun z => ?_)
      · have z := of_decide_eq_true z
        refine ⟨_, rfl, _, rfl, _, rfl, _, rfl, ai, _, rfl, .inl (SqL.of ga2), ?_⟩
        rw [nI_len, im.len]
        exact ⟨p, D2, bs, n, rfl, gb2, bd, n64, ok, gD2, by omega, fun wl H' hwl e gw => ⟨wl, rfl, e, gw⟩⟩
      · have z := of_decide_eq_false z
        have cpos : 0 < clN bs := by
          rcases Nat.eq_zero_or_pos (clN bs) with h | h
          · rw [h] at z
            exact absurd (show ((Nr 0 (frL bs).length : Nat) : Int) ≤ 300 from by show ((1 : Nat) : Int) ≤ 300; decide) z
          · exact h
        refine ⟨_, rfl, _, rfl, ai, _, rfl, .inl (SqL.of ga2), ?_⟩
        rw [nI_len, im.len]
        refine ⟨p, bs, n, rfl, gb2, bd, n64, ok, fun wl f H' hwl e gw hf => ⟨wl, rfl, e, ?_⟩⟩
        rw [gw]
        refine congrArg (fun l => some (HO.lst l)) (List.map_congr_left fun x hx => ?_)
        obtain ⟨q, hq, hm⟩ := bd.mem.1 (List.mem_range.1 hx)
        rw [hf q hq x hm, bp_inv bd ok cpos hq hm]
    rintro σ G3 ⟨wl, rfl, eG3, gw⟩
    have ga3 := eG3 _ _ ga2
    refine ⟨_, rfl, ai, upI ys, rfl, by rw [← nI_up]; exact ga3, by rw [upI_len]; exact yl, (fun k hk => by rw [stray_up im.rec_] at hk; cases hk), fun sn => ⟨fun gp hgp => ?_, fun cs hcs => ?_⟩⟩
    · rw [natI_up, im.refused] at hgp
      have : (bs.find? fun b => decide (8 ≤ b.1)) = none := List.find?_eq_none.2 fun x hx => by
        have := ok x hx
        rw [decide_eq_false (by omega)]
        exact Bool.false_ne_true
      rw [this] at hgp
      cases hgp
    · rw [natI_up] at hcs
      have ec := im_same im ok hcs
      rw [ec, upI_len, im.len]
      refine ⟨im_pk im ok, Nat.le_trans many n64, fun r G4 hr e3 tl3 => ?_⟩
      refine ⟨_, rfl, (by show 2 ≤ sizeLine; decide), fun t1 ht1 => ⟨_, rfl, (by show 2 ≤ sizeLine; decide), fun t2 ht2 => ⟨(by show 2 ≤ sizeLine; decide), fun r2 hr2 => ?_⟩⟩⟩
      have x2 := Ex.new (o := .tup [V.str (Str.ofString "words"), V.ref wl]) ht1
      have x4 := Ex.new (o := .tup [V.str (Str.ofString "kept"), V.ref ai]) ht2
      have x5 := Ex.new (o := .lst [V.ref t1, V.ref t2]) hr2
      have x245 := (x2.trans x4).trans x5
      have d1 := (tl3.ex x245).dp (K := K)
      have d2 := dp_tW (K := K) (r := r2) (t := t1) (u := t2) (p := wl) (q := ai) (ws := wsI n bs) (xs := upI ys) upd_same (x5 _ _ (x4 _ _ upd_same)) (x5 _ _ upd_same) (x245 _ _ (e3 _ _ (by rw [gw, wsI_v]))) (x245 _ _ (e3 _ _ (by rw [← nI_up]; exact ga3)))
      rw [upI_len, im.len] at d1
      have L := lay_tW (upI ys) (wsI_ok n bs)
      refine ⟨_, _, d1, d2, L.shaped (by decide), L.shaped (by decide), ?_⟩
      rw [L.refl]
      exact k _

end
end Pv
namespace Pv
open PySem L2 Evl
theorem all_mk {l : PySem.W.OpenLaw} {w : World} {K : PySem.W.Frag} {h : Heap} {mg : Str → Option Value} {fa f_own f_check_image f_groups f_least_records f_pieces f_torn_pieces f_piece_of f_row_of f_involvement f_free_records f_claims f_law_box f_law_take f_law_shuffled f_law_shape f_law_bad_words f_law_forced f_law_menu f_law_listed f_law_built f_law_image f_law_step f_law_reading f_law_all_choices f_law_count f_law_is_number f_law_fault f_law_told f_law_refusals_told f_law_counted f_law_by_pieces f_law c_WHOLE c_FORMS kk0 kk1 kk2 kk3 kk4 kk5 kk6 kk7 c_MendError N_MendError_ c_InvalidImage N_InvalidImage_ i_InvalidImage c_NotState N_NotState_ i_NotState c_Unrepairable N_Unrepairable_ i_Unrepairable c_InvalidNumber N_InvalidNumber_ i_InvalidNumber c_UnequalSizes N_UnequalSizes_ c_InvalidKind N_InvalidKind_ c_InvalidChange N_InvalidChange_ : Addr}
    {od_own an_own od_check_image an_check_image od_groups an_groups od_least_records an_least_records od_pieces an_pieces od_torn_pieces an_torn_pieces od_piece_of an_piece_of od_row_of an_row_of od_involvement an_involvement od_free_records an_free_records od_claims an_claims od_law_box an_law_box od_law_take an_law_take od_law_shuffled an_law_shuffled od_law_shape an_law_shape od_law_bad_words an_law_bad_words od_law_forced an_law_forced od_law_menu an_law_menu od_law_listed an_law_listed od_law_built an_law_built od_law_image an_law_image od_law_step an_law_step od_law_reading an_law_reading od_law_all_choices an_law_all_choices od_law_count an_law_count od_law_is_number an_law_is_number od_law_fault an_law_fault od_law_told an_law_told od_law_refusals_told an_law_refusals_told od_law_counted an_law_counted od_law_by_pieces an_law_by_pieces od_law an_law odc_WHOLE odF0 odF1 odF2 odF3 odF4 odF5 odF6 odF7 dd_MendError dd_InvalidImage od_i_InvalidImage an_i_InvalidImage dd_NotState od_i_NotState an_i_NotState dd_Unrepairable od_i_Unrepairable an_i_Unrepairable dd_InvalidNumber od_i_InvalidNumber an_i_InvalidNumber dd_UnequalSizes dd_InvalidKind dd_InvalidChange : Option Addr}
    {sl_own sl_check_image sl_groups sl_least_records sl_pieces sl_torn_pieces sl_piece_of sl_row_of sl_involvement sl_free_records sl_claims sl_law_box sl_law_take sl_law_shuffled sl_law_shape sl_law_bad_words sl_law_forced sl_law_menu sl_law_listed sl_law_built sl_law_image sl_law_step sl_law_reading sl_law_all_choices sl_law_count sl_law_is_number sl_law_fault sl_law_told sl_law_refusals_told sl_law_counted sl_law_by_pieces sl_law slc_WHOLE slF0 slF1 slF2 slF3 slF4 slF5 slF6 slF7 sl_i_InvalidImage sl_i_NotState sl_i_Unrepairable sl_i_InvalidNumber : Array (Option Value)}
    {oc_own doc_own pm_own cd_own ct_own kV_own oc_check_image doc_check_image pm_check_image cd_check_image ct_check_image kV_check_image oc_groups doc_groups pm_groups cd_groups ct_groups kV_groups oc_least_records doc_least_records pm_least_records cd_least_records ct_least_records kV_least_records oc_pieces doc_pieces pm_pieces cd_pieces ct_pieces kV_pieces oc_torn_pieces doc_torn_pieces pm_torn_pieces cd_torn_pieces ct_torn_pieces kV_torn_pieces oc_piece_of doc_piece_of pm_piece_of cd_piece_of ct_piece_of kV_piece_of oc_row_of doc_row_of pm_row_of cd_row_of ct_row_of kV_row_of oc_involvement doc_involvement pm_involvement cd_involvement ct_involvement kV_involvement oc_free_records doc_free_records pm_free_records cd_free_records ct_free_records kV_free_records oc_claims doc_claims pm_claims cd_claims ct_claims kV_claims oc_law_box doc_law_box pm_law_box cd_law_box ct_law_box kV_law_box oc_law_take doc_law_take pm_law_take cd_law_take ct_law_take kV_law_take oc_law_shuffled doc_law_shuffled pm_law_shuffled cd_law_shuffled ct_law_shuffled kV_law_shuffled oc_law_shape doc_law_shape pm_law_shape cd_law_shape ct_law_shape kV_law_shape oc_law_bad_words doc_law_bad_words pm_law_bad_words cd_law_bad_words ct_law_bad_words kV_law_bad_words oc_law_forced doc_law_forced pm_law_forced cd_law_forced ct_law_forced kV_law_forced oc_law_menu doc_law_menu pm_law_menu cd_law_menu ct_law_menu kV_law_menu oc_law_listed doc_law_listed pm_law_listed cd_law_listed ct_law_listed kV_law_listed oc_law_built doc_law_built pm_law_built cd_law_built ct_law_built kV_law_built oc_law_image doc_law_image pm_law_image cd_law_image ct_law_image kV_law_image oc_law_step doc_law_step pm_law_step cd_law_step ct_law_step kV_law_step oc_law_reading doc_law_reading pm_law_reading cd_law_reading ct_law_reading kV_law_reading oc_law_all_choices doc_law_all_choices pm_law_all_choices cd_law_all_choices ct_law_all_choices kV_law_all_choices oc_law_count doc_law_count pm_law_count cd_law_count ct_law_count kV_law_count oc_law_is_number doc_law_is_number pm_law_is_number cd_law_is_number ct_law_is_number kV_law_is_number oc_law_fault doc_law_fault pm_law_fault cd_law_fault ct_law_fault kV_law_fault oc_law_told doc_law_told pm_law_told cd_law_told ct_law_told kV_law_told oc_law_refusals_told doc_law_refusals_told pm_law_refusals_told cd_law_refusals_told ct_law_refusals_told kV_law_refusals_told oc_law_counted doc_law_counted pm_law_counted cd_law_counted ct_law_counted kV_law_counted oc_law_by_pieces doc_law_by_pieces pm_law_by_pieces cd_law_by_pieces ct_law_by_pieces kV_law_by_pieces oc_law doc_law pm_law cd_law ct_law kV_law oc_i_InvalidImage kV_i_InvalidImage doc_i_InvalidImage pm_i_InvalidImage cd_i_InvalidImage ct_i_InvalidImage oc_i_NotState kV_i_NotState doc_i_NotState pm_i_NotState cd_i_NotState ct_i_NotState oc_i_Unrepairable kV_i_Unrepairable doc_i_Unrepairable pm_i_Unrepairable cd_i_Unrepairable ct_i_Unrepairable oc_i_InvalidNumber kV_i_InvalidNumber doc_i_InvalidNumber pm_i_InvalidNumber cd_i_InvalidNumber ct_i_InvalidNumber : Value}
    {tWHOLE_0 tWHOLE_1 tF0 tF1 tF2 tF3 tF4 tF5 tF6 tF7 aF0_0 aF1_0 aF1_1 aF2_0 aF2_1 aF3_0 aF3_1 aF3_2 aF4_0 aF4_1 aF4_2 aF5_0 aF5_1 aF5_2 aF5_3 aF6_0 aF6_1 aF6_2 aF6_3 aF7_0 aF7_1 aF7_2 aF7_3 : Tok}
    {nc_WHOLE epF nF0 nF1 nF2 nF3 nF4 nF5 nF6 nF7 : Nat}
    {nm_MendError q_MendError nm_InvalidImage q_InvalidImage nm_NotState q_NotState nm_Unrepairable q_Unrepairable nm_InvalidNumber q_InvalidNumber nm_UnequalSizes q_UnequalSizes nm_InvalidKind q_InvalidKind nm_InvalidChange q_InvalidChange : Str}
    {bs_MendError sub_MendError bm_MendError bs_InvalidImage sub_InvalidImage bs_NotState sub_NotState bs_Unrepairable sub_Unrepairable bs_InvalidNumber sub_InvalidNumber bs_UnequalSizes sub_UnequalSizes bs_InvalidKind sub_InvalidKind bs_InvalidChange sub_InvalidChange : List Value}
    {sn_MendError sn_InvalidImage sn_NotState sn_Unrepairable sn_InvalidNumber sn_UnequalSizes sn_InvalidKind sn_InvalidChange : List Str}
    {ab_MendError ab_InvalidImage ab_NotState ab_Unrepairable ab_InvalidNumber ab_UnequalSizes ab_InvalidKind ab_InvalidChange : Bool}
    {col_MendError col_InvalidImage col_NotState col_Unrepairable col_InvalidNumber col_UnequalSizes col_InvalidKind col_InvalidChange : Option Bool}
    {k0_MendError k1_MendError k2_MendError k3_MendError k5_MendError k0_InvalidImage k1_InvalidImage k2_InvalidImage k3_InvalidImage k5_InvalidImage k0_NotState k1_NotState k2_NotState k3_NotState k5_NotState k0_Unrepairable k1_Unrepairable k2_Unrepairable k3_Unrepairable k5_Unrepairable k0_InvalidNumber k1_InvalidNumber k2_InvalidNumber k3_InvalidNumber k5_InvalidNumber k0_UnequalSizes k1_UnequalSizes k2_UnequalSizes k3_UnequalSizes k5_UnequalSizes k0_InvalidKind k1_InvalidKind k2_InvalidKind k3_InvalidKind k5_InvalidKind k0_InvalidChange k1_InvalidChange k2_InvalidChange k3_InvalidChange k5_InvalidChange : Option Value}
    (X : K.In h) (G : h.Ns mainGlobals mg) (hfa : mg "law" = some (.ref fa))
    (a_own : PySem.W.nsIn K mainGlobals "_own" = some (some (.ref f_own)))
    (l_own : K.lookup f_own = some ⟨oc_own, od_own, .func (PySem.W.fnOf "_own" "_own" (defArgs s_own) (defBody s_own) (defScope s_own) .none kV_own doc_own pm_own an_own cd_own ct_own), sl_own⟩)
    (cdis_own : PySem.W.codeIn K cd_own "_own" = true)
    (k_own : PySem.W.keepIn K (.ref f_own) = true)
    (a_check_image : PySem.W.nsIn K mainGlobals "check_image" = some (some (.ref f_check_image)))
    (l_check_image : K.lookup f_check_image = some ⟨oc_check_image, od_check_image, .func (PySem.W.fnOf "check_image" "check_image" (defArgs s_check_image) (defBody s_check_image) (defScope s_check_image) .none kV_check_image doc_check_image pm_check_image an_check_image cd_check_image ct_check_image), sl_check_image⟩)
    (cdis_check_image : PySem.W.codeIn K cd_check_image "check_image" = true)
    (k_check_image : PySem.W.keepIn K (.ref f_check_image) = true)
    (a_groups : PySem.W.nsIn K mainGlobals "groups" = some (some (.ref f_groups)))
    (l_groups : K.lookup f_groups = some ⟨oc_groups, od_groups, .func (PySem.W.fnOf "groups" "groups" (defArgs s_groups) (defBody s_groups) (defScope s_groups) .none kV_groups doc_groups pm_groups an_groups cd_groups ct_groups), sl_groups⟩)
    (cdis_groups : PySem.W.codeIn K cd_groups "groups" = true)
    (k_groups : PySem.W.keepIn K (.ref f_groups) = true)
    (a_least_records : PySem.W.nsIn K mainGlobals "_least_records" = some (some (.ref f_least_records)))
    (l_least_records : K.lookup f_least_records = some ⟨oc_least_records, od_least_records, .func (PySem.W.fnOf "_least_records" "_least_records" (defArgs s_least_records) (defBody s_least_records) (defScope s_least_records) .none kV_least_records doc_least_records pm_least_records an_least_records cd_least_records ct_least_records), sl_least_records⟩)
    (cdis_least_records : PySem.W.codeIn K cd_least_records "_least_records" = true)
    (k_least_records : PySem.W.keepIn K (.ref f_least_records) = true)
    (a_pieces : PySem.W.nsIn K mainGlobals "pieces" = some (some (.ref f_pieces)))
    (l_pieces : K.lookup f_pieces = some ⟨oc_pieces, od_pieces, .func (PySem.W.fnOf "pieces" "pieces" (defArgs s_pieces) (defBody s_pieces) (defScope s_pieces) .none kV_pieces doc_pieces pm_pieces an_pieces cd_pieces ct_pieces), sl_pieces⟩)
    (cdis_pieces : PySem.W.codeIn K cd_pieces "pieces" = true)
    (k_pieces : PySem.W.keepIn K (.ref f_pieces) = true)
    (a_torn_pieces : PySem.W.nsIn K mainGlobals "torn_pieces" = some (some (.ref f_torn_pieces)))
    (l_torn_pieces : K.lookup f_torn_pieces = some ⟨oc_torn_pieces, od_torn_pieces, .func (PySem.W.fnOf "torn_pieces" "torn_pieces" (defArgs s_torn_pieces) (defBody s_torn_pieces) (defScope s_torn_pieces) .none kV_torn_pieces doc_torn_pieces pm_torn_pieces an_torn_pieces cd_torn_pieces ct_torn_pieces), sl_torn_pieces⟩)
    (cdis_torn_pieces : PySem.W.codeIn K cd_torn_pieces "torn_pieces" = true)
    (k_torn_pieces : PySem.W.keepIn K (.ref f_torn_pieces) = true)
    (a_piece_of : PySem.W.nsIn K mainGlobals "_piece_of" = some (some (.ref f_piece_of)))
    (l_piece_of : K.lookup f_piece_of = some ⟨oc_piece_of, od_piece_of, .func (PySem.W.fnOf "_piece_of" "_piece_of" (defArgs s_piece_of) (defBody s_piece_of) (defScope s_piece_of) .none kV_piece_of doc_piece_of pm_piece_of an_piece_of cd_piece_of ct_piece_of), sl_piece_of⟩)
    (cdis_piece_of : PySem.W.codeIn K cd_piece_of "_piece_of" = true)
    (k_piece_of : PySem.W.keepIn K (.ref f_piece_of) = true)
    (a_row_of : PySem.W.nsIn K mainGlobals "_row_of" = some (some (.ref f_row_of)))
    (l_row_of : K.lookup f_row_of = some ⟨oc_row_of, od_row_of, .func (PySem.W.fnOf "_row_of" "_row_of" (defArgs s_row_of) (defBody s_row_of) (defScope s_row_of) .none kV_row_of doc_row_of pm_row_of an_row_of cd_row_of ct_row_of), sl_row_of⟩)
    (cdis_row_of : PySem.W.codeIn K cd_row_of "_row_of" = true)
    (k_row_of : PySem.W.keepIn K (.ref f_row_of) = true)
    (a_involvement : PySem.W.nsIn K mainGlobals "involvement" = some (some (.ref f_involvement)))
    (l_involvement : K.lookup f_involvement = some ⟨oc_involvement, od_involvement, .func (PySem.W.fnOf "involvement" "involvement" (defArgs s_involvement) (defBody s_involvement) (defScope s_involvement) .none kV_involvement doc_involvement pm_involvement an_involvement cd_involvement ct_involvement), sl_involvement⟩)
    (cdis_involvement : PySem.W.codeIn K cd_involvement "involvement" = true)
    (k_involvement : PySem.W.keepIn K (.ref f_involvement) = true)
    (a_free_records : PySem.W.nsIn K mainGlobals "_free_records" = some (some (.ref f_free_records)))
    (l_free_records : K.lookup f_free_records = some ⟨oc_free_records, od_free_records, .func (PySem.W.fnOf "_free_records" "_free_records" (defArgs s_free_records) (defBody s_free_records) (defScope s_free_records) .none kV_free_records doc_free_records pm_free_records an_free_records cd_free_records ct_free_records), sl_free_records⟩)
    (cdis_free_records : PySem.W.codeIn K cd_free_records "_free_records" = true)
    (k_free_records : PySem.W.keepIn K (.ref f_free_records) = true)
    (a_claims : PySem.W.nsIn K mainGlobals "_claims" = some (some (.ref f_claims)))
    (l_claims : K.lookup f_claims = some ⟨oc_claims, od_claims, .func (PySem.W.fnOf "_claims" "_claims" (defArgs s_claims) (defBody s_claims) (defScope s_claims) .none kV_claims doc_claims pm_claims an_claims cd_claims ct_claims), sl_claims⟩)
    (cdis_claims : PySem.W.codeIn K cd_claims "_claims" = true)
    (k_claims : PySem.W.keepIn K (.ref f_claims) = true)
    (a_law_box : PySem.W.nsIn K mainGlobals "_law_box" = some (some (.ref f_law_box)))
    (l_law_box : K.lookup f_law_box = some ⟨oc_law_box, od_law_box, .func (PySem.W.fnOf "_law_box" "_law_box" (defArgs s_law_box) (defBody s_law_box) (defScope s_law_box) .none kV_law_box doc_law_box pm_law_box an_law_box cd_law_box ct_law_box), sl_law_box⟩)
    (cdis_law_box : PySem.W.codeIn K cd_law_box "_law_box" = true)
    (k_law_box : PySem.W.keepIn K (.ref f_law_box) = true)
    (a_law_take : PySem.W.nsIn K mainGlobals "_law_take" = some (some (.ref f_law_take)))
    (l_law_take : K.lookup f_law_take = some ⟨oc_law_take, od_law_take, .func (PySem.W.fnOf "_law_take" "_law_take" (defArgs s_law_take) (defBody s_law_take) (defScope s_law_take) .none kV_law_take doc_law_take pm_law_take an_law_take cd_law_take ct_law_take), sl_law_take⟩)
    (cdis_law_take : PySem.W.codeIn K cd_law_take "_law_take" = true)
    (k_law_take : PySem.W.keepIn K (.ref f_law_take) = true)
    (a_law_shuffled : PySem.W.nsIn K mainGlobals "_law_shuffled" = some (some (.ref f_law_shuffled)))
    (l_law_shuffled : K.lookup f_law_shuffled = some ⟨oc_law_shuffled, od_law_shuffled, .func (PySem.W.fnOf "_law_shuffled" "_law_shuffled" (defArgs s_law_shuffled) (defBody s_law_shuffled) (defScope s_law_shuffled) .none kV_law_shuffled doc_law_shuffled pm_law_shuffled an_law_shuffled cd_law_shuffled ct_law_shuffled), sl_law_shuffled⟩)
    (cdis_law_shuffled : PySem.W.codeIn K cd_law_shuffled "_law_shuffled" = true)
    (k_law_shuffled : PySem.W.keepIn K (.ref f_law_shuffled) = true)
    (a_law_shape : PySem.W.nsIn K mainGlobals "_law_shape" = some (some (.ref f_law_shape)))
    (l_law_shape : K.lookup f_law_shape = some ⟨oc_law_shape, od_law_shape, .func (PySem.W.fnOf "_law_shape" "_law_shape" (defArgs s_law_shape) (defBody s_law_shape) (defScope s_law_shape) .none kV_law_shape doc_law_shape pm_law_shape an_law_shape cd_law_shape ct_law_shape), sl_law_shape⟩)
    (cdis_law_shape : PySem.W.codeIn K cd_law_shape "_law_shape" = true)
    (k_law_shape : PySem.W.keepIn K (.ref f_law_shape) = true)
    (a_law_bad_words : PySem.W.nsIn K mainGlobals "_law_bad_words" = some (some (.ref f_law_bad_words)))
    (l_law_bad_words : K.lookup f_law_bad_words = some ⟨oc_law_bad_words, od_law_bad_words, .func (PySem.W.fnOf "_law_bad_words" "_law_bad_words" (defArgs s_law_bad_words) (defBody s_law_bad_words) (defScope s_law_bad_words) .none kV_law_bad_words doc_law_bad_words pm_law_bad_words an_law_bad_words cd_law_bad_words ct_law_bad_words), sl_law_bad_words⟩)
    (cdis_law_bad_words : PySem.W.codeIn K cd_law_bad_words "_law_bad_words" = true)
    (k_law_bad_words : PySem.W.keepIn K (.ref f_law_bad_words) = true)
    (a_law_forced : PySem.W.nsIn K mainGlobals "_law_forced" = some (some (.ref f_law_forced)))
    (l_law_forced : K.lookup f_law_forced = some ⟨oc_law_forced, od_law_forced, .func (PySem.W.fnOf "_law_forced" "_law_forced" (defArgs s_law_forced) (defBody s_law_forced) (defScope s_law_forced) .none kV_law_forced doc_law_forced pm_law_forced an_law_forced cd_law_forced ct_law_forced), sl_law_forced⟩)
    (cdis_law_forced : PySem.W.codeIn K cd_law_forced "_law_forced" = true)
    (k_law_forced : PySem.W.keepIn K (.ref f_law_forced) = true)
    (a_law_menu : PySem.W.nsIn K mainGlobals "_law_menu" = some (some (.ref f_law_menu)))
    (l_law_menu : K.lookup f_law_menu = some ⟨oc_law_menu, od_law_menu, .func (PySem.W.fnOf "_law_menu" "_law_menu" (defArgs s_law_menu) (defBody s_law_menu) (defScope s_law_menu) .none kV_law_menu doc_law_menu pm_law_menu an_law_menu cd_law_menu ct_law_menu), sl_law_menu⟩)
    (cdis_law_menu : PySem.W.codeIn K cd_law_menu "_law_menu" = true)
    (k_law_menu : PySem.W.keepIn K (.ref f_law_menu) = true)
    (a_law_listed : PySem.W.nsIn K mainGlobals "_law_listed" = some (some (.ref f_law_listed)))
    (l_law_listed : K.lookup f_law_listed = some ⟨oc_law_listed, od_law_listed, .func (PySem.W.fnOf "_law_listed" "_law_listed" (defArgs s_law_listed) (defBody s_law_listed) (defScope s_law_listed) .none kV_law_listed doc_law_listed pm_law_listed an_law_listed cd_law_listed ct_law_listed), sl_law_listed⟩)
    (cdis_law_listed : PySem.W.codeIn K cd_law_listed "_law_listed" = true)
    (k_law_listed : PySem.W.keepIn K (.ref f_law_listed) = true)
    (a_law_built : PySem.W.nsIn K mainGlobals "_law_built" = some (some (.ref f_law_built)))
    (l_law_built : K.lookup f_law_built = some ⟨oc_law_built, od_law_built, .func (PySem.W.fnOf "_law_built" "_law_built" (defArgs s_law_built) (defBody s_law_built) (defScope s_law_built) .none kV_law_built doc_law_built pm_law_built an_law_built cd_law_built ct_law_built), sl_law_built⟩)
    (cdis_law_built : PySem.W.codeIn K cd_law_built "_law_built" = true)
    (k_law_built : PySem.W.keepIn K (.ref f_law_built) = true)
    (a_law_image : PySem.W.nsIn K mainGlobals "_law_image" = some (some (.ref f_law_image)))
    (l_law_image : K.lookup f_law_image = some ⟨oc_law_image, od_law_image, .func (PySem.W.fnOf "_law_image" "_law_image" (defArgs s_law_image) (defBody s_law_image) (defScope s_law_image) .none kV_law_image doc_law_image pm_law_image an_law_image cd_law_image ct_law_image), sl_law_image⟩)
    (cdis_law_image : PySem.W.codeIn K cd_law_image "_law_image" = true)
    (k_law_image : PySem.W.keepIn K (.ref f_law_image) = true)
    (a_law_step : PySem.W.nsIn K mainGlobals "_law_step" = some (some (.ref f_law_step)))
    (l_law_step : K.lookup f_law_step = some ⟨oc_law_step, od_law_step, .func (PySem.W.fnOf "_law_step" "_law_step" (defArgs s_law_step) (defBody s_law_step) (defScope s_law_step) .none kV_law_step doc_law_step pm_law_step an_law_step cd_law_step ct_law_step), sl_law_step⟩)
    (cdis_law_step : PySem.W.codeIn K cd_law_step "_law_step" = true)
    (k_law_step : PySem.W.keepIn K (.ref f_law_step) = true)
    (a_law_reading : PySem.W.nsIn K mainGlobals "_law_reading" = some (some (.ref f_law_reading)))
    (l_law_reading : K.lookup f_law_reading = some ⟨oc_law_reading, od_law_reading, .func (PySem.W.fnOf "_law_reading" "_law_reading" (defArgs s_law_reading) (defBody s_law_reading) (defScope s_law_reading) .none kV_law_reading doc_law_reading pm_law_reading an_law_reading cd_law_reading ct_law_reading), sl_law_reading⟩)
    (cdis_law_reading : PySem.W.codeIn K cd_law_reading "_law_reading" = true)
    (k_law_reading : PySem.W.keepIn K (.ref f_law_reading) = true)
    (a_law_all_choices : PySem.W.nsIn K mainGlobals "_law_all_choices" = some (some (.ref f_law_all_choices)))
    (l_law_all_choices : K.lookup f_law_all_choices = some ⟨oc_law_all_choices, od_law_all_choices, .func (PySem.W.fnOf "_law_all_choices" "_law_all_choices" (defArgs s_law_all_choices) (defBody s_law_all_choices) (defScope s_law_all_choices) .none kV_law_all_choices doc_law_all_choices pm_law_all_choices an_law_all_choices cd_law_all_choices ct_law_all_choices), sl_law_all_choices⟩)
    (cdis_law_all_choices : PySem.W.codeIn K cd_law_all_choices "_law_all_choices" = true)
    (k_law_all_choices : PySem.W.keepIn K (.ref f_law_all_choices) = true)
    (a_law_count : PySem.W.nsIn K mainGlobals "_law_count" = some (some (.ref f_law_count)))
    (l_law_count : K.lookup f_law_count = some ⟨oc_law_count, od_law_count, .func (PySem.W.fnOf "_law_count" "_law_count" (defArgs s_law_count) (defBody s_law_count) (defScope s_law_count) .none kV_law_count doc_law_count pm_law_count an_law_count cd_law_count ct_law_count), sl_law_count⟩)
    (cdis_law_count : PySem.W.codeIn K cd_law_count "_law_count" = true)
    (k_law_count : PySem.W.keepIn K (.ref f_law_count) = true)
    (a_law_is_number : PySem.W.nsIn K mainGlobals "_law_is_number" = some (some (.ref f_law_is_number)))
    (l_law_is_number : K.lookup f_law_is_number = some ⟨oc_law_is_number, od_law_is_number, .func (PySem.W.fnOf "_law_is_number" "_law_is_number" (defArgs s_law_is_number) (defBody s_law_is_number) (defScope s_law_is_number) .none kV_law_is_number doc_law_is_number pm_law_is_number an_law_is_number cd_law_is_number ct_law_is_number), sl_law_is_number⟩)
    (cdis_law_is_number : PySem.W.codeIn K cd_law_is_number "_law_is_number" = true)
    (k_law_is_number : PySem.W.keepIn K (.ref f_law_is_number) = true)
    (a_law_fault : PySem.W.nsIn K mainGlobals "_law_fault" = some (some (.ref f_law_fault)))
    (l_law_fault : K.lookup f_law_fault = some ⟨oc_law_fault, od_law_fault, .func (PySem.W.fnOf "_law_fault" "_law_fault" (defArgs s_law_fault) (defBody s_law_fault) (defScope s_law_fault) .none kV_law_fault doc_law_fault pm_law_fault an_law_fault cd_law_fault ct_law_fault), sl_law_fault⟩)
    (cdis_law_fault : PySem.W.codeIn K cd_law_fault "_law_fault" = true)
    (k_law_fault : PySem.W.keepIn K (.ref f_law_fault) = true)
    (a_law_told : PySem.W.nsIn K mainGlobals "_law_told" = some (some (.ref f_law_told)))
    (l_law_told : K.lookup f_law_told = some ⟨oc_law_told, od_law_told, .func (PySem.W.fnOf "_law_told" "_law_told" (defArgs s_law_told) (defBody s_law_told) (defScope s_law_told) .none kV_law_told doc_law_told pm_law_told an_law_told cd_law_told ct_law_told), sl_law_told⟩)
    (cdis_law_told : PySem.W.codeIn K cd_law_told "_law_told" = true)
    (k_law_told : PySem.W.keepIn K (.ref f_law_told) = true)
    (a_law_refusals_told : PySem.W.nsIn K mainGlobals "_law_refusals_told" = some (some (.ref f_law_refusals_told)))
    (l_law_refusals_told : K.lookup f_law_refusals_told = some ⟨oc_law_refusals_told, od_law_refusals_told, .func (PySem.W.fnOf "_law_refusals_told" "_law_refusals_told" (defArgs s_law_refusals_told) (defBody s_law_refusals_told) (defScope s_law_refusals_told) .none kV_law_refusals_told doc_law_refusals_told pm_law_refusals_told an_law_refusals_told cd_law_refusals_told ct_law_refusals_told), sl_law_refusals_told⟩)
    (cdis_law_refusals_told : PySem.W.codeIn K cd_law_refusals_told "_law_refusals_told" = true)
    (k_law_refusals_told : PySem.W.keepIn K (.ref f_law_refusals_told) = true)
    (a_law_counted : PySem.W.nsIn K mainGlobals "_law_counted" = some (some (.ref f_law_counted)))
    (l_law_counted : K.lookup f_law_counted = some ⟨oc_law_counted, od_law_counted, .func (PySem.W.fnOf "_law_counted" "_law_counted" (defArgs s_law_counted) (defBody s_law_counted) (defScope s_law_counted) .none kV_law_counted doc_law_counted pm_law_counted an_law_counted cd_law_counted ct_law_counted), sl_law_counted⟩)
    (cdis_law_counted : PySem.W.codeIn K cd_law_counted "_law_counted" = true)
    (k_law_counted : PySem.W.keepIn K (.ref f_law_counted) = true)
    (a_law_by_pieces : PySem.W.nsIn K mainGlobals "_law_by_pieces" = some (some (.ref f_law_by_pieces)))
    (l_law_by_pieces : K.lookup f_law_by_pieces = some ⟨oc_law_by_pieces, od_law_by_pieces, .func (PySem.W.fnOf "_law_by_pieces" "_law_by_pieces" (defArgs s_law_by_pieces) (defBody s_law_by_pieces) (defScope s_law_by_pieces) .none kV_law_by_pieces doc_law_by_pieces pm_law_by_pieces an_law_by_pieces cd_law_by_pieces ct_law_by_pieces), sl_law_by_pieces⟩)
    (cdis_law_by_pieces : PySem.W.codeIn K cd_law_by_pieces "_law_by_pieces" = true)
    (k_law_by_pieces : PySem.W.keepIn K (.ref f_law_by_pieces) = true)
    (a_law : PySem.W.nsIn K mainGlobals "law" = some (some (.ref f_law)))
    (l_law : K.lookup f_law = some ⟨oc_law, od_law, .func (PySem.W.fnOf "law" "law" (defArgs s_law) (defBody s_law) (defScope s_law) .none kV_law doc_law pm_law an_law cd_law ct_law), sl_law⟩)
    (cdis_law : PySem.W.codeIn K cd_law "law" = true)
    (k_law : PySem.W.keepIn K (.ref f_law) = true)
    (a_WHOLE : PySem.W.nsIn K mainGlobals "_WHOLE" = some (some (.ref c_WHOLE)))
    (a_FORMS : PySem.W.nsIn K mainGlobals "_FORMS" = some (some (.ref c_FORMS)))
    (l_WHOLE : K.lookup c_WHOLE = some ⟨.type "tuple", odc_WHOLE, .seq #[.str "free" tWHOLE_0, .str "pair" tWHOLE_1] nc_WHOLE, slc_WHOLE⟩)
    (sm_FORMS : (c_FORMS == sysModules) = false)
    (l_FORMS : K.lookup c_FORMS = some { cls := .type "dict", data := .dict #[⟨-8753497827991233192, .ref kk0, .str "free" tF0⟩, ⟨-5164621852614943976, .ref kk1, .str "pair" tF1⟩, ⟨8389048192121911274, .ref kk2, .str "claim" tF2⟩, ⟨3313134723150563520, .ref kk3, .str "hook" tF3⟩, ⟨-1579939305822132846, .ref kk4, .str "relay" tF4⟩, ⟨8677768113715720416, .ref kk5, .str "clamp" tF5⟩, ⟨3374690043038133861, .ref kk6, .str "trail" tF6⟩, ⟨1760123315908831802, .ref kk7, .str "wheel" tF7⟩] epF })
    (l_F0 : K.lookup kk0 = some ⟨.type "tuple", odF0, .seq #[.int 0 aF0_0] nF0, slF0⟩)
    (l_F1 : K.lookup kk1 = some ⟨.type "tuple", odF1, .seq #[.int 1 aF1_0, .int 0 aF1_1] nF1, slF1⟩)
    (l_F2 : K.lookup kk2 = some ⟨.type "tuple", odF2, .seq #[.int 1 aF2_0, .int 1 aF2_1] nF2, slF2⟩)
    (l_F3 : K.lookup kk3 = some ⟨.type "tuple", odF3, .seq #[.int 1 aF3_0, .int 2 aF3_1, .int 1 aF3_2] nF3, slF3⟩)
    (l_F4 : K.lookup kk4 = some ⟨.type "tuple", odF4, .seq #[.int 1 aF4_0, .int 2 aF4_1, .int 2 aF4_2] nF4, slF4⟩)
    (l_F5 : K.lookup kk5 = some ⟨.type "tuple", odF5, .seq #[.int 1 aF5_0, .int 2 aF5_1, .int 1 aF5_2, .int 2 aF5_3] nF5, slF5⟩)
    (l_F6 : K.lookup kk6 = some ⟨.type "tuple", odF6, .seq #[.int 1 aF6_0, .int 2 aF6_1, .int 3 aF6_2, .int 2 aF6_3] nF6, slF6⟩)
    (l_F7 : K.lookup kk7 = some ⟨.type "tuple", odF7, .seq #[.int 1 aF7_0, .int 2 aF7_1, .int 3 aF7_2, .int 0 aF7_3] nF7, slF7⟩)
    (a_MendError : PySem.W.nsIn K mainGlobals "MendError" = some (some (.ref c_MendError)))
    (x_MendError : K.lookup c_MendError = some (excClassObj nm_MendError q_MendError c_MendError N_MendError_ bs_MendError bm_MendError true sn_MendError sub_MendError ab_MendError col_MendError dd_MendError k0_MendError k1_MendError k2_MendError k3_MendError k5_MendError "ValueError.__new__"))
    (a_InvalidImage : PySem.W.nsIn K mainGlobals "InvalidImage" = some (some (.ref c_InvalidImage)))
    (x_InvalidImage : K.lookup c_InvalidImage = some (excClassObj nm_InvalidImage q_InvalidImage c_InvalidImage N_InvalidImage_ bs_InvalidImage [.ref c_MendError, .type "ValueError", .type "Exception", .type "BaseException", .type "object"] true sn_InvalidImage sub_InvalidImage ab_InvalidImage col_InvalidImage dd_InvalidImage k0_InvalidImage k1_InvalidImage k2_InvalidImage k3_InvalidImage k5_InvalidImage "ValueError.__new__"))
    (kc_InvalidImage : PySem.W.keepIn K (.ref c_InvalidImage) = true)
    (sa_InvalidImage : PySem.W.findIn K (.ref c_InvalidImage) "__setattr__" = some (some (.builtin "object.__setattr__")))
    (ga_InvalidImage : PySem.W.findIn K (.ref c_InvalidImage) "__getattribute__" = some (some (.builtin "BaseException.__getattribute__")))
    (gg_InvalidImage : PySem.W.findIn K (.ref c_InvalidImage) "__getattr__" = some none)
    (ca_InvalidImage : PySem.W.findIn K (.ref c_InvalidImage) "__class__" = some (some (.builtin "object.__class__")))
    (i_is_InvalidImage : PySem.W.findIn K (.ref c_InvalidImage) "__init__" = some (some (.ref i_InvalidImage)))
    (t_InvalidImage : PySem.W.typeIn K (.ref i_InvalidImage) = some (.type "function"))
    (nf_InvalidImage : PySem.W.findIn K (.ref c_InvalidImage) "record" = some none)
    (l_i_InvalidImage : K.lookup i_InvalidImage = some ⟨oc_i_InvalidImage, od_i_InvalidImage, .func (PySem.W.fnOf "__init__" "InvalidImage.__init__" (defArgs s_InvalidImage) (defBody s_InvalidImage) (defScope s_InvalidImage) .none kV_i_InvalidImage doc_i_InvalidImage pm_i_InvalidImage an_i_InvalidImage cd_i_InvalidImage ct_i_InvalidImage), sl_i_InvalidImage⟩)
    (cdis_i_InvalidImage : PySem.W.codeIn K cd_i_InvalidImage "InvalidImage.__init__" = true)
    (k_i_InvalidImage : PySem.W.keepIn K (.ref i_InvalidImage) = true)
    (a_NotState : PySem.W.nsIn K mainGlobals "NotState" = some (some (.ref c_NotState)))
    (x_NotState : K.lookup c_NotState = some (excClassObj nm_NotState q_NotState c_NotState N_NotState_ bs_NotState [.ref c_MendError, .type "ValueError", .type "Exception", .type "BaseException", .type "object"] true sn_NotState sub_NotState ab_NotState col_NotState dd_NotState k0_NotState k1_NotState k2_NotState k3_NotState k5_NotState "ValueError.__new__"))
    (kc_NotState : PySem.W.keepIn K (.ref c_NotState) = true)
    (sa_NotState : PySem.W.findIn K (.ref c_NotState) "__setattr__" = some (some (.builtin "object.__setattr__")))
    (ga_NotState : PySem.W.findIn K (.ref c_NotState) "__getattribute__" = some (some (.builtin "BaseException.__getattribute__")))
    (gg_NotState : PySem.W.findIn K (.ref c_NotState) "__getattr__" = some none)
    (ca_NotState : PySem.W.findIn K (.ref c_NotState) "__class__" = some (some (.builtin "object.__class__")))
    (i_is_NotState : PySem.W.findIn K (.ref c_NotState) "__init__" = some (some (.ref i_NotState)))
    (t_NotState : PySem.W.typeIn K (.ref i_NotState) = some (.type "function"))
    (nf_NotState : PySem.W.findIn K (.ref c_NotState) "record" = some none)
    (l_i_NotState : K.lookup i_NotState = some ⟨oc_i_NotState, od_i_NotState, .func (PySem.W.fnOf "__init__" "NotState.__init__" (defArgs s_NotState) (defBody s_NotState) (defScope s_NotState) .none kV_i_NotState doc_i_NotState pm_i_NotState an_i_NotState cd_i_NotState ct_i_NotState), sl_i_NotState⟩)
    (cdis_i_NotState : PySem.W.codeIn K cd_i_NotState "NotState.__init__" = true)
    (k_i_NotState : PySem.W.keepIn K (.ref i_NotState) = true)
    (a_Unrepairable : PySem.W.nsIn K mainGlobals "Unrepairable" = some (some (.ref c_Unrepairable)))
    (x_Unrepairable : K.lookup c_Unrepairable = some (excClassObj nm_Unrepairable q_Unrepairable c_Unrepairable N_Unrepairable_ bs_Unrepairable [.ref c_MendError, .type "ValueError", .type "Exception", .type "BaseException", .type "object"] true sn_Unrepairable sub_Unrepairable ab_Unrepairable col_Unrepairable dd_Unrepairable k0_Unrepairable k1_Unrepairable k2_Unrepairable k3_Unrepairable k5_Unrepairable "ValueError.__new__"))
    (kc_Unrepairable : PySem.W.keepIn K (.ref c_Unrepairable) = true)
    (sa_Unrepairable : PySem.W.findIn K (.ref c_Unrepairable) "__setattr__" = some (some (.builtin "object.__setattr__")))
    (ga_Unrepairable : PySem.W.findIn K (.ref c_Unrepairable) "__getattribute__" = some (some (.builtin "BaseException.__getattribute__")))
    (gg_Unrepairable : PySem.W.findIn K (.ref c_Unrepairable) "__getattr__" = some none)
    (ca_Unrepairable : PySem.W.findIn K (.ref c_Unrepairable) "__class__" = some (some (.builtin "object.__class__")))
    (i_is_Unrepairable : PySem.W.findIn K (.ref c_Unrepairable) "__init__" = some (some (.ref i_Unrepairable)))
    (t_Unrepairable : PySem.W.typeIn K (.ref i_Unrepairable) = some (.type "function"))
    (nf_Unrepairable : PySem.W.findIn K (.ref c_Unrepairable) "group" = some none)
    (l_i_Unrepairable : K.lookup i_Unrepairable = some ⟨oc_i_Unrepairable, od_i_Unrepairable, .func (PySem.W.fnOf "__init__" "Unrepairable.__init__" (defArgs s_Unrepairable) (defBody s_Unrepairable) (defScope s_Unrepairable) .none kV_i_Unrepairable doc_i_Unrepairable pm_i_Unrepairable an_i_Unrepairable cd_i_Unrepairable ct_i_Unrepairable), sl_i_Unrepairable⟩)
    (cdis_i_Unrepairable : PySem.W.codeIn K cd_i_Unrepairable "Unrepairable.__init__" = true)
    (k_i_Unrepairable : PySem.W.keepIn K (.ref i_Unrepairable) = true)
    (a_InvalidNumber : PySem.W.nsIn K mainGlobals "InvalidNumber" = some (some (.ref c_InvalidNumber)))
    (x_InvalidNumber : K.lookup c_InvalidNumber = some (excClassObj nm_InvalidNumber q_InvalidNumber c_InvalidNumber N_InvalidNumber_ bs_InvalidNumber [.ref c_MendError, .type "ValueError", .type "Exception", .type "BaseException", .type "object"] true sn_InvalidNumber sub_InvalidNumber ab_InvalidNumber col_InvalidNumber dd_InvalidNumber k0_InvalidNumber k1_InvalidNumber k2_InvalidNumber k3_InvalidNumber k5_InvalidNumber "ValueError.__new__"))
    (kc_InvalidNumber : PySem.W.keepIn K (.ref c_InvalidNumber) = true)
    (sa_InvalidNumber : PySem.W.findIn K (.ref c_InvalidNumber) "__setattr__" = some (some (.builtin "object.__setattr__")))
    (ga_InvalidNumber : PySem.W.findIn K (.ref c_InvalidNumber) "__getattribute__" = some (some (.builtin "BaseException.__getattribute__")))
    (gg_InvalidNumber : PySem.W.findIn K (.ref c_InvalidNumber) "__getattr__" = some none)
    (ca_InvalidNumber : PySem.W.findIn K (.ref c_InvalidNumber) "__class__" = some (some (.builtin "object.__class__")))
    (i_is_InvalidNumber : PySem.W.findIn K (.ref c_InvalidNumber) "__init__" = some (some (.ref i_InvalidNumber)))
    (t_InvalidNumber : PySem.W.typeIn K (.ref i_InvalidNumber) = some (.type "function"))
    (nf_InvalidNumber : PySem.W.findIn K (.ref c_InvalidNumber) "value" = some none)
    (l_i_InvalidNumber : K.lookup i_InvalidNumber = some ⟨oc_i_InvalidNumber, od_i_InvalidNumber, .func (PySem.W.fnOf "__init__" "InvalidNumber.__init__" (defArgs s_InvalidNumber) (defBody s_InvalidNumber) (defScope s_InvalidNumber) .none kV_i_InvalidNumber doc_i_InvalidNumber pm_i_InvalidNumber an_i_InvalidNumber cd_i_InvalidNumber ct_i_InvalidNumber), sl_i_InvalidNumber⟩)
    (cdis_i_InvalidNumber : PySem.W.codeIn K cd_i_InvalidNumber "InvalidNumber.__init__" = true)
    (k_i_InvalidNumber : PySem.W.keepIn K (.ref i_InvalidNumber) = true)
    (a_UnequalSizes : PySem.W.nsIn K mainGlobals "UnequalSizes" = some (some (.ref c_UnequalSizes)))
    (x_UnequalSizes : K.lookup c_UnequalSizes = some (excClassObj nm_UnequalSizes q_UnequalSizes c_UnequalSizes N_UnequalSizes_ bs_UnequalSizes [.ref c_MendError, .type "ValueError", .type "Exception", .type "BaseException", .type "object"] true sn_UnequalSizes sub_UnequalSizes ab_UnequalSizes col_UnequalSizes dd_UnequalSizes k0_UnequalSizes k1_UnequalSizes k2_UnequalSizes k3_UnequalSizes k5_UnequalSizes "ValueError.__new__"))
    (kc_UnequalSizes : PySem.W.keepIn K (.ref c_UnequalSizes) = true)
    (sa_UnequalSizes : PySem.W.findIn K (.ref c_UnequalSizes) "__setattr__" = some (some (.builtin "object.__setattr__")))
    (ga_UnequalSizes : PySem.W.findIn K (.ref c_UnequalSizes) "__getattribute__" = some (some (.builtin "BaseException.__getattribute__")))
    (gg_UnequalSizes : PySem.W.findIn K (.ref c_UnequalSizes) "__getattr__" = some none)
    (ca_UnequalSizes : PySem.W.findIn K (.ref c_UnequalSizes) "__class__" = some (some (.builtin "object.__class__")))
    (q_is_UnequalSizes : PySem.W.excIn K c_UnequalSizes [.type "ValueError", .type "Exception", .type "BaseException", .type "object"] "ValueError.__new__" = true)
    (a_InvalidKind : PySem.W.nsIn K mainGlobals "InvalidKind" = some (some (.ref c_InvalidKind)))
    (x_InvalidKind : K.lookup c_InvalidKind = some (excClassObj nm_InvalidKind q_InvalidKind c_InvalidKind N_InvalidKind_ bs_InvalidKind [.ref c_MendError, .type "ValueError", .type "Exception", .type "BaseException", .type "object"] true sn_InvalidKind sub_InvalidKind ab_InvalidKind col_InvalidKind dd_InvalidKind k0_InvalidKind k1_InvalidKind k2_InvalidKind k3_InvalidKind k5_InvalidKind "ValueError.__new__"))
    (kc_InvalidKind : PySem.W.keepIn K (.ref c_InvalidKind) = true)
    (sa_InvalidKind : PySem.W.findIn K (.ref c_InvalidKind) "__setattr__" = some (some (.builtin "object.__setattr__")))
    (ga_InvalidKind : PySem.W.findIn K (.ref c_InvalidKind) "__getattribute__" = some (some (.builtin "BaseException.__getattribute__")))
    (gg_InvalidKind : PySem.W.findIn K (.ref c_InvalidKind) "__getattr__" = some none)
    (ca_InvalidKind : PySem.W.findIn K (.ref c_InvalidKind) "__class__" = some (some (.builtin "object.__class__")))
    (q_is_InvalidKind : PySem.W.excIn K c_InvalidKind [.type "ValueError", .type "Exception", .type "BaseException", .type "object"] "ValueError.__new__" = true)
    (a_InvalidChange : PySem.W.nsIn K mainGlobals "InvalidChange" = some (some (.ref c_InvalidChange)))
    (x_InvalidChange : K.lookup c_InvalidChange = some (excClassObj nm_InvalidChange q_InvalidChange c_InvalidChange N_InvalidChange_ bs_InvalidChange [.ref c_MendError, .type "ValueError", .type "Exception", .type "BaseException", .type "object"] true sn_InvalidChange sub_InvalidChange ab_InvalidChange col_InvalidChange dd_InvalidChange k0_InvalidChange k1_InvalidChange k2_InvalidChange k3_InvalidChange k5_InvalidChange "ValueError.__new__"))
    (kc_InvalidChange : PySem.W.keepIn K (.ref c_InvalidChange) = true)
    (sa_InvalidChange : PySem.W.findIn K (.ref c_InvalidChange) "__setattr__" = some (some (.builtin "object.__setattr__")))
    (ga_InvalidChange : PySem.W.findIn K (.ref c_InvalidChange) "__getattribute__" = some (some (.builtin "BaseException.__getattribute__")))
    (gg_InvalidChange : PySem.W.findIn K (.ref c_InvalidChange) "__getattr__" = some none)
    (ca_InvalidChange : PySem.W.findIn K (.ref c_InvalidChange) "__class__" = some (some (.builtin "object.__class__")))
    (q_is_InvalidChange : PySem.W.excIn K c_InvalidChange [.type "ValueError", .type "Exception", .type "BaseException", .type "object"] "ValueError.__new__" = true)
    (cn : PySem.W.specialIn K (.builtin "object.__class__") "__get__" = some (some (.builtin "getset_descriptor.__get__")))
    (ct : PySem.W.takesIn K (.builtin "object.__class__") = some true)
    (nd : [c_MendError, c_InvalidImage, c_NotState, c_Unrepairable, c_InvalidNumber, c_UnequalSizes, c_InvalidKind, c_InvalidChange].Nodup)
    (mro_M : PySem.W.mroIn K c_MendError (.type "BaseException") = some true)
    (z_ValueError : PySem.W.nsIn K mainGlobals "ValueError" = some none)
    (z_int : PySem.W.nsIn K mainGlobals "int" = some none)
    (z_bool : PySem.W.nsIn K mainGlobals "bool" = some none)
    (z_str : PySem.W.nsIn K mainGlobals "str" = some none)
    (z_list : PySem.W.nsIn K mainGlobals "list" = some none)
    (z_tuple : PySem.W.nsIn K mainGlobals "tuple" = some none)
    (z_len : PySem.W.nsIn K mainGlobals "len" = some none)
    (z_range : PySem.W.nsIn K mainGlobals "range" = some none)
    (z_enumerate : PySem.W.nsIn K mainGlobals "enumerate" = some none)
    (z_isinstance : PySem.W.nsIn K mainGlobals "isinstance" = some none)
    (z_min : PySem.W.nsIn K mainGlobals "min" = some none)
    (z_abs : PySem.W.nsIn K mainGlobals "abs" = some none)
    (z_sorted : PySem.W.nsIn K mainGlobals "sorted" = some none)
    (z_all : PySem.W.nsIn K mainGlobals "all" = some none)
    (z_any : PySem.W.nsIn K mainGlobals "any" = some none)
    (z_sum : PySem.W.nsIn K mainGlobals "sum" = some none)
    (z_zip : PySem.W.nsIn K mainGlobals "zip" = some none)
    (z_reversed : PySem.W.nsIn K mainGlobals "reversed" = some none)
    (z_max : PySem.W.nsIn K mainGlobals "max" = some none)
    (z_set : PySem.W.nsIn K mainGlobals "set" = some none)
    : ∃ fd : FuncData, (∀ (s : Shared) (v : Value), BindsTo s fd ⟨[v], []⟩ [("script", v)]) ∧ ∀ base : Heap, K.In base → base.Ns mainGlobals mg → FnOk l.prog w K mg base CX0 10 fa fd ["script"] (spLaw K) := by
  have e := hfa.symm.trans (PySem.W.mg_of X G a_law)
  cases e
  obtain ⟨A, hA⟩ : ∃ A : Ad, A = ⟨f_own, f_check_image, f_groups, f_least_records, f_pieces, f_torn_pieces, f_piece_of, f_row_of, f_involvement, f_free_records, f_claims, f_law_box, f_law_take, f_law_shuffled, f_law_shape, f_law_bad_words, f_law_forced, f_law_menu, f_law_listed, f_law_built, f_law_image, f_law_step, f_law_reading, f_law_all_choices, f_law_count, f_law_is_number, f_law_fault, f_law_told, f_law_refusals_told, f_law_counted, f_law_by_pieces, fa, c_WHOLE, c_FORMS, c_MendError, c_InvalidImage, c_NotState, c_Unrepairable, c_InvalidNumber, c_UnequalSizes, c_InvalidKind, c_InvalidChange, i_InvalidImage, i_NotState, i_Unrepairable, i_InvalidNumber⟩ := ⟨_, rfl⟩
  have T : Txt K mg A := {
    g_own := by rw [hA]; exact PySem.W.mg_of X G a_own,
    k_own := by rw [hA]; exact k_own,
    d_own := by rw [hA]; exact ⟨_, fun_mk (st := s_own) l_own cdis_own k_own⟩,
    g_check_image := by rw [hA]; exact PySem.W.mg_of X G a_check_image,
    k_check_image := by rw [hA]; exact k_check_image,
    d_check_image := by rw [hA]; exact ⟨_, fun_mk (st := s_check_image) l_check_image cdis_check_image k_check_image⟩,
    g_groups := by rw [hA]; exact PySem.W.mg_of X G a_groups,
    k_groups := by rw [hA]; exact k_groups,
    d_groups := by rw [hA]; exact ⟨_, fun_mk (st := s_groups) l_groups cdis_groups k_groups⟩,
    g_least_records := by rw [hA]; exact PySem.W.mg_of X G a_least_records,
    k_least_records := by rw [hA]; exact k_least_records,
    d_least_records := by rw [hA]; exact ⟨_, fun_mk (st := s_least_records) l_least_records cdis_least_records k_least_records⟩,
    g_pieces := by rw [hA]; exact PySem.W.mg_of X G a_pieces,
    k_pieces := by rw [hA]; exact k_pieces,
    d_pieces := by rw [hA]; exact ⟨_, fun_mk (st := s_pieces) l_pieces cdis_pieces k_pieces⟩,
    g_torn_pieces := by rw [hA]; exact PySem.W.mg_of X G a_torn_pieces,
    k_torn_pieces := by rw [hA]; exact k_torn_pieces,
    d_torn_pieces := by rw [hA]; exact ⟨_, fun_mk (st := s_torn_pieces) l_torn_pieces cdis_torn_pieces k_torn_pieces⟩,
    g_piece_of := by rw [hA]; exact PySem.W.mg_of X G a_piece_of,
    k_piece_of := by rw [hA]; exact k_piece_of,
    d_piece_of := by rw [hA]; exact ⟨_, fun_mk (st := s_piece_of) l_piece_of cdis_piece_of k_piece_of⟩,
    g_row_of := by rw [hA]; exact PySem.W.mg_of X G a_row_of,
    k_row_of := by rw [hA]; exact k_row_of,
    d_row_of := by rw [hA]; exact ⟨_, fun_mk (st := s_row_of) l_row_of cdis_row_of k_row_of⟩,
    g_involvement := by rw [hA]; exact PySem.W.mg_of X G a_involvement,
    k_involvement := by rw [hA]; exact k_involvement,
    d_involvement := by rw [hA]; exact ⟨_, fun_mk (st := s_involvement) l_involvement cdis_involvement k_involvement⟩,
    g_free_records := by rw [hA]; exact PySem.W.mg_of X G a_free_records,
    k_free_records := by rw [hA]; exact k_free_records,
    d_free_records := by rw [hA]; exact ⟨_, fun_mk (st := s_free_records) l_free_records cdis_free_records k_free_records⟩,
    g_claims := by rw [hA]; exact PySem.W.mg_of X G a_claims,
    k_claims := by rw [hA]; exact k_claims,
    d_claims := by rw [hA]; exact ⟨_, fun_mk (st := s_claims) l_claims cdis_claims k_claims⟩,
    g_law_box := by rw [hA]; exact PySem.W.mg_of X G a_law_box,
    k_law_box := by rw [hA]; exact k_law_box,
    d_law_box := by rw [hA]; exact ⟨_, fun_mk (st := s_law_box) l_law_box cdis_law_box k_law_box⟩,
    g_law_take := by rw [hA]; exact PySem.W.mg_of X G a_law_take,
    k_law_take := by rw [hA]; exact k_law_take,
    d_law_take := by rw [hA]; exact ⟨_, fun_mk (st := s_law_take) l_law_take cdis_law_take k_law_take⟩,
    g_law_shuffled := by rw [hA]; exact PySem.W.mg_of X G a_law_shuffled,
    k_law_shuffled := by rw [hA]; exact k_law_shuffled,
    d_law_shuffled := by rw [hA]; exact ⟨_, fun_mk (st := s_law_shuffled) l_law_shuffled cdis_law_shuffled k_law_shuffled⟩,
    g_law_shape := by rw [hA]; exact PySem.W.mg_of X G a_law_shape,
    k_law_shape := by rw [hA]; exact k_law_shape,
    d_law_shape := by rw [hA]; exact ⟨_, fun_mk (st := s_law_shape) l_law_shape cdis_law_shape k_law_shape⟩,
    g_law_bad_words := by rw [hA]; exact PySem.W.mg_of X G a_law_bad_words,
    k_law_bad_words := by rw [hA]; exact k_law_bad_words,
    d_law_bad_words := by rw [hA]; exact ⟨_, fun_mk (st := s_law_bad_words) l_law_bad_words cdis_law_bad_words k_law_bad_words⟩,
    g_law_forced := by rw [hA]; exact PySem.W.mg_of X G a_law_forced,
    k_law_forced := by rw [hA]; exact k_law_forced,
    d_law_forced := by rw [hA]; exact ⟨_, fun_mk (st := s_law_forced) l_law_forced cdis_law_forced k_law_forced⟩,
    g_law_menu := by rw [hA]; exact PySem.W.mg_of X G a_law_menu,
    k_law_menu := by rw [hA]; exact k_law_menu,
    d_law_menu := by rw [hA]; exact ⟨_, fun_mk (st := s_law_menu) l_law_menu cdis_law_menu k_law_menu⟩,
    g_law_listed := by rw [hA]; exact PySem.W.mg_of X G a_law_listed,
    k_law_listed := by rw [hA]; exact k_law_listed,
    d_law_listed := by rw [hA]; exact ⟨_, fun_mk (st := s_law_listed) l_law_listed cdis_law_listed k_law_listed⟩,
    g_law_built := by rw [hA]; exact PySem.W.mg_of X G a_law_built,
    k_law_built := by rw [hA]; exact k_law_built,
    d_law_built := by rw [hA]; exact ⟨_, fun_mk (st := s_law_built) l_law_built cdis_law_built k_law_built⟩,
    g_law_image := by rw [hA]; exact PySem.W.mg_of X G a_law_image,
    k_law_image := by rw [hA]; exact k_law_image,
    d_law_image := by rw [hA]; exact ⟨_, fun_mk (st := s_law_image) l_law_image cdis_law_image k_law_image⟩,
    g_law_step := by rw [hA]; exact PySem.W.mg_of X G a_law_step,
    k_law_step := by rw [hA]; exact k_law_step,
    d_law_step := by rw [hA]; exact ⟨_, fun_mk (st := s_law_step) l_law_step cdis_law_step k_law_step⟩,
    g_law_reading := by rw [hA]; exact PySem.W.mg_of X G a_law_reading,
    k_law_reading := by rw [hA]; exact k_law_reading,
    d_law_reading := by rw [hA]; exact ⟨_, fun_mk (st := s_law_reading) l_law_reading cdis_law_reading k_law_reading⟩,
    g_law_all_choices := by rw [hA]; exact PySem.W.mg_of X G a_law_all_choices,
    k_law_all_choices := by rw [hA]; exact k_law_all_choices,
    d_law_all_choices := by rw [hA]; exact ⟨_, fun_mk (st := s_law_all_choices) l_law_all_choices cdis_law_all_choices k_law_all_choices⟩,
    g_law_count := by rw [hA]; exact PySem.W.mg_of X G a_law_count,
    k_law_count := by rw [hA]; exact k_law_count,
    d_law_count := by rw [hA]; exact ⟨_, fun_mk (st := s_law_count) l_law_count cdis_law_count k_law_count⟩,
    g_law_is_number := by rw [hA]; exact PySem.W.mg_of X G a_law_is_number,
    k_law_is_number := by rw [hA]; exact k_law_is_number,
    d_law_is_number := by rw [hA]; exact ⟨_, fun_mk (st := s_law_is_number) l_law_is_number cdis_law_is_number k_law_is_number⟩,
    g_law_fault := by rw [hA]; exact PySem.W.mg_of X G a_law_fault,
    k_law_fault := by rw [hA]; exact k_law_fault,
    d_law_fault := by rw [hA]; exact ⟨_, fun_mk (st := s_law_fault) l_law_fault cdis_law_fault k_law_fault⟩,
    g_law_told := by rw [hA]; exact PySem.W.mg_of X G a_law_told,
    k_law_told := by rw [hA]; exact k_law_told,
    d_law_told := by rw [hA]; exact ⟨_, fun_mk (st := s_law_told) l_law_told cdis_law_told k_law_told⟩,
    g_law_refusals_told := by rw [hA]; exact PySem.W.mg_of X G a_law_refusals_told,
    k_law_refusals_told := by rw [hA]; exact k_law_refusals_told,
    d_law_refusals_told := by rw [hA]; exact ⟨_, fun_mk (st := s_law_refusals_told) l_law_refusals_told cdis_law_refusals_told k_law_refusals_told⟩,
    g_law_counted := by rw [hA]; exact PySem.W.mg_of X G a_law_counted,
    k_law_counted := by rw [hA]; exact k_law_counted,
    d_law_counted := by rw [hA]; exact ⟨_, fun_mk (st := s_law_counted) l_law_counted cdis_law_counted k_law_counted⟩,
    g_law_by_pieces := by rw [hA]; exact PySem.W.mg_of X G a_law_by_pieces,
    k_law_by_pieces := by rw [hA]; exact k_law_by_pieces,
    d_law_by_pieces := by rw [hA]; exact ⟨_, fun_mk (st := s_law_by_pieces) l_law_by_pieces cdis_law_by_pieces k_law_by_pieces⟩,
    g_law := by rw [hA]; exact PySem.W.mg_of X G a_law,
    k_law := by rw [hA]; exact k_law,
    d_law := by rw [hA]; exact ⟨_, fun_mk (st := s_law) l_law cdis_law k_law⟩,
    g_WHOLE := by rw [hA]; exact PySem.W.mg_of X G a_WHOLE,
    g_FORMS := by rw [hA]; exact PySem.W.mg_of X G a_FORMS,
    w_WHOLE := by rw [hA]; exact whole_mk l_WHOLE,
    m_sub := by rw [hA]; exact mro_M,
    e_MendError := by rw [hA]; exact ⟨PySem.W.mg_of X G a_MendError, ⟨_, _, _, _, _, _, _, _, _, _, _, _, _, _, _, x_MendError⟩⟩,
    e_InvalidImage := by rw [hA]; exact ⟨PySem.W.mg_of X G a_InvalidImage, kc_InvalidImage, ⟨_, _, _, _, _, _, _, _, _, _, _, _, _, _, x_InvalidImage⟩, sa_InvalidImage, ga_InvalidImage, gg_InvalidImage, ca_InvalidImage⟩,
    f_InvalidImage := by rw [hA]; exact ⟨i_is_InvalidImage, t_InvalidImage, nf_InvalidImage, ⟨_, fun_mk (st := s_InvalidImage) l_i_InvalidImage cdis_i_InvalidImage k_i_InvalidImage⟩⟩,
    e_NotState := by rw [hA]; exact ⟨PySem.W.mg_of X G a_NotState, kc_NotState, ⟨_, _, _, _, _, _, _, _, _, _, _, _, _, _, x_NotState⟩, sa_NotState, ga_NotState, gg_NotState, ca_NotState⟩,
    f_NotState := by rw [hA]; exact ⟨i_is_NotState, t_NotState, nf_NotState, ⟨_, fun_mk (st := s_NotState) l_i_NotState cdis_i_NotState k_i_NotState⟩⟩,
    e_Unrepairable := by rw [hA]; exact ⟨PySem.W.mg_of X G a_Unrepairable, kc_Unrepairable, ⟨_, _, _, _, _, _, _, _, _, _, _, _, _, _, x_Unrepairable⟩, sa_Unrepairable, ga_Unrepairable, gg_Unrepairable, ca_Unrepairable⟩,
    f_Unrepairable := by rw [hA]; exact ⟨i_is_Unrepairable, t_Unrepairable, nf_Unrepairable, ⟨_, fun_mk (st := s_Unrepairable) l_i_Unrepairable cdis_i_Unrepairable k_i_Unrepairable⟩⟩,
    e_InvalidNumber := by rw [hA]; exact ⟨PySem.W.mg_of X G a_InvalidNumber, kc_InvalidNumber, ⟨_, _, _, _, _, _, _, _, _, _, _, _, _, _, x_InvalidNumber⟩, sa_InvalidNumber, ga_InvalidNumber, gg_InvalidNumber, ca_InvalidNumber⟩,
    f_InvalidNumber := by rw [hA]; exact ⟨i_is_InvalidNumber, t_InvalidNumber, nf_InvalidNumber, ⟨_, fun_mk (st := s_InvalidNumber) l_i_InvalidNumber cdis_i_InvalidNumber k_i_InvalidNumber⟩⟩,
    e_UnequalSizes := by rw [hA]; exact ⟨PySem.W.mg_of X G a_UnequalSizes, kc_UnequalSizes, ⟨_, _, _, _, _, _, _, _, _, _, _, _, _, _, x_UnequalSizes⟩, sa_UnequalSizes, ga_UnequalSizes, gg_UnequalSizes, ca_UnequalSizes⟩,
    q_UnequalSizes := by rw [hA]; exact q_is_UnequalSizes,
    e_InvalidKind := by rw [hA]; exact ⟨PySem.W.mg_of X G a_InvalidKind, kc_InvalidKind, ⟨_, _, _, _, _, _, _, _, _, _, _, _, _, _, x_InvalidKind⟩, sa_InvalidKind, ga_InvalidKind, gg_InvalidKind, ca_InvalidKind⟩,
    q_InvalidKind := by rw [hA]; exact q_is_InvalidKind,
    e_InvalidChange := by rw [hA]; exact ⟨PySem.W.mg_of X G a_InvalidChange, kc_InvalidChange, ⟨_, _, _, _, _, _, _, _, _, _, _, _, _, _, x_InvalidChange⟩, sa_InvalidChange, ga_InvalidChange, gg_InvalidChange, ca_InvalidChange⟩,
    q_InvalidChange := by rw [hA]; exact q_is_InvalidChange,
    cn := cn,
    ct := ct,
    nd := by rw [hA]; exact nd,
    n_ValueError := PySem.W.mg_none_of X G z_ValueError,
    n_int := PySem.W.mg_none_of X G z_int,
    n_bool := PySem.W.mg_none_of X G z_bool,
    n_str := PySem.W.mg_none_of X G z_str,
    n_list := PySem.W.mg_none_of X G z_list,
    n_tuple := PySem.W.mg_none_of X G z_tuple,
    n_len := PySem.W.mg_none_of X G z_len,
    n_range := PySem.W.mg_none_of X G z_range,
    n_enumerate := PySem.W.mg_none_of X G z_enumerate,
    n_isinstance := PySem.W.mg_none_of X G z_isinstance,
    n_min := PySem.W.mg_none_of X G z_min,
    n_abs := PySem.W.mg_none_of X G z_abs,
    n_sorted := PySem.W.mg_none_of X G z_sorted,
    n_all := PySem.W.mg_none_of X G z_all,
    n_any := PySem.W.mg_none_of X G z_any,
    n_sum := PySem.W.mg_none_of X G z_sum,
    n_zip := PySem.W.mg_none_of X G z_zip,
    n_reversed := PySem.W.mg_none_of X G z_reversed,
    n_max := PySem.W.mg_none_of X G z_max,
    n_set := PySem.W.mg_none_of X G z_set }
  have hF : TabK l.prog w K A.FORMS formsT := by rw [hA]; exact forms_mk sm_FORMS l_FORMS l_F0 l_F1 l_F2 l_F3 l_F4 l_F5 l_F6 l_F7
  have FL := fun_mk (st := s_law) l_law cdis_law k_law
  have eL : A.law = fa := by rw [hA]
  refine ⟨PySem.W.fnOf "law" "law" (defArgs s_law) (defBody s_law) (defScope s_law) .none kV_law doc_law pm_law an_law cd_law ct_law, fun s v => .of_eq rfl, fun base _ _ => ?_⟩
  rw [← eL] at FL ⊢
  have g_InvalidImage := ok_InvalidImage (P := l.prog) (w := w) (base := base) T 
  have g_check_image := ok_check_image (P := l.prog) (w := w) (base := base) T g_InvalidImage
  have g_least_records := ok_least_records (P := l.prog) (w := w) (base := base) T 
  have g_groups := ok_groups (P := l.prog) (w := w) (base := base) T g_check_image g_least_records
  have g_row_of := ok_row_of (P := l.prog) (w := w) (base := base) T 
  have g_piece_of := ok_piece_of (P := l.prog) (w := w) (base := base) T hF g_row_of
  have g_own := ok_own (P := l.prog) (w := w) (base := base) T 
  have g_Unrepairable := ok_Unrepairable (P := l.prog) (w := w) (base := base) T g_own
  have g_pieces := ok_pieces (P := l.prog) (w := w) (base := base) T g_groups g_piece_of g_Unrepairable
  have g_torn_pieces := ok_torn_pieces (P := l.prog) (w := w) (base := base) T g_pieces
  have g_claims := ok_claims (P := l.prog) (w := w) (base := base) T 
  have g_free_records := ok_free_records (P := l.prog) (w := w) (base := base) T g_pieces
  have g_involvement := ok_involvement (P := l.prog) (w := w) (base := base) T g_torn_pieces g_claims g_free_records
  have g_law_shape := ok_law_shape (P := l.prog) (w := w) (base := base) T 
  have g_law_image := ok_law_image (P := l.prog) (w := w) (base := base) T g_law_shape
  have g_law_by_pieces := ok_law_by_pieces (P := l.prog) (w := w) (base := base) T 
  have g_law_box := ok_law_box (P := l.prog) (w := w) (base := base) T 
  have g_law_take := ok_law_take (P := l.prog) (w := w) (base := base) T 
  have g_law_shuffled := ok_law_shuffled (P := l.prog) (w := w) (base := base) T g_law_take
  have g_law_bad_words := ok_law_bad_words (P := l.prog) (w := w) (base := base) T 
  have g_law_forced := ok_law_forced (P := l.prog) (w := w) (base := base) T g_law_take g_law_bad_words
  have g_law_menu := ok_law_menu (P := l.prog) (w := w) (base := base) T g_law_take
  have g_law_listed := ok_law_listed (P := l.prog) (w := w) (base := base) T 
  have g_law_built := ok_law_built (P := l.prog) (w := w) (base := base) T g_law_take g_law_shape g_law_shuffled g_law_listed
  have g_law_step := ok_law_step (P := l.prog) (w := w) (base := base) T 
  have g_law_reading := ok_law_reading (P := l.prog) (w := w) (base := base) T g_law_step
  have g_law_all_choices := ok_law_all_choices (P := l.prog) (w := w) (base := base) T 
  have g_law_count := ok_law_count (P := l.prog) (w := w) (base := base) T 
  have g_law_is_number := ok_law_is_number (P := l.prog) (w := w) (base := base) T 
  have h_law_is_number := okh_law_is_number (P := l.prog) (w := w) (base := base) T 
  have g_law_fault := oke_law_fault (P := l.prog) (w := w) (base := base) T h_law_is_number
  have g_law_told := ok_law_told (P := l.prog) (w := w) (base := base) T g_involvement g_law_fault
  have g_law_refusals_told := ok_law_refusals_told (P := l.prog) (w := w) (base := base) T g_law_built g_law_menu g_law_forced g_law_take g_law_image g_law_bad_words g_law_told
  have g_law_counted := ok_law_counted (P := l.prog) (w := w) (base := base) T g_law_all_choices g_law_reading
  exact ok_law T FL g_law_box g_law_take g_law_refusals_told g_law_built g_law_menu g_law_image g_law_count g_law_counted g_law_by_pieces g_law_told
theorem walk {l : PySem.W.OpenLaw} {q : Program} {loose : List Str} {XP : (Str → Option Value) → Heap → Prop} {YP : World → Heap → Prop} {d : DefRec} {K : Params → PySem.W.Frag} (hn : l.most = some 63) (hdf : d.params.defaults = [])
    (hY : ∀ (w : World) (h : Heap), YP w h → (K w.params).In h)
    (F : ∀ (w : World) (mg : Str → Option Value) (fa : Addr) (h : Heap), (K w.params).In h → h.Ns mainGlobals mg → mg d.name = some (.ref fa) →
      ∃ fd : FuncData, (∀ (s : Shared) (u : Value), BindsTo s fd ⟨[u], []⟩ [("script", u)]) ∧ ∀ base : Heap, (K w.params).In base → base.Ns mainGlobals mg → FnOk l.prog w (K w.params) mg base CX0 10 fa fd ["script"] (spLaw (K w.params))) :
    PySem.W.WalkO q loose XP YP l.row.toRowW d [] (fun f vs => PySem.call f vs) :=
  L2.walk_of (n := 63) (k := 10) (x := "script") (CX := fun _ => CX0) (sp := fun w => spLaw (K w.params)) hn (by decide) hdf ⟨rfl, by decide, by decide⟩ hY F (fun _ _ a ns hl _ hS => ⟨a, ns, rfl, hS, hl, fun _ => rfl⟩) fun _ _ _ _ _ z => z
end Pv

open PySem PySem.W PyProof.Rows
set_option maxRecDepth 100000 in
set_option maxHeartbeats 0 in
theorem PySem.Challenge.cw_peermend_k29_involvement_of_records_holds : PySem.Challenge.rw_peermend_k29_involvement_of_records.Holds := by
  w_on; o_law; k_head; (case hw => w_witness2)
  k_fill
  refine Pv.walk (l := PySem.Challenge.rw_peermend_k29_involvement_of_records) rfl rfl (fun w h Y => PySem.W.kIn_of Y) ?F
  case F =>
    intro w mg fa h KX G hmg
    refine' Pv.all_mk KX G hmg ?qa_own ?ql_own ?qcdis_own ?qk_own ?qa_check_image ?ql_check_image ?qcdis_check_image ?qk_check_image ?qa_groups ?ql_groups ?qcdis_groups ?qk_groups ?qa_least_records ?ql_least_records ?qcdis_least_records ?qk_least_records ?qa_pieces ?ql_pieces ?qcdis_pieces ?qk_pieces ?qa_torn_pieces ?ql_torn_pieces ?qcdis_torn_pieces ?qk_torn_pieces ?qa_piece_of ?ql_piece_of ?qcdis_piece_of ?qk_piece_of ?qa_row_of ?ql_row_of ?qcdis_row_of ?qk_row_of ?qa_involvement ?ql_involvement ?qcdis_involvement ?qk_involvement ?qa_free_records ?ql_free_records ?qcdis_free_records ?qk_free_records ?qa_claims ?ql_claims ?qcdis_claims ?qk_claims ?qa_law_box ?ql_law_box ?qcdis_law_box ?qk_law_box ?qa_law_take ?ql_law_take ?qcdis_law_take ?qk_law_take ?qa_law_shuffled ?ql_law_shuffled ?qcdis_law_shuffled ?qk_law_shuffled ?qa_law_shape ?ql_law_shape ?qcdis_law_shape ?qk_law_shape ?qa_law_bad_words ?ql_law_bad_words ?qcdis_law_bad_words ?qk_law_bad_words ?qa_law_forced ?ql_law_forced ?qcdis_law_forced ?qk_law_forced ?qa_law_menu ?ql_law_menu ?qcdis_law_menu ?qk_law_menu ?qa_law_listed ?ql_law_listed ?qcdis_law_listed ?qk_law_listed ?qa_law_built ?ql_law_built ?qcdis_law_built ?qk_law_built ?qa_law_image ?ql_law_image ?qcdis_law_image ?qk_law_image ?qa_law_step ?ql_law_step ?qcdis_law_step ?qk_law_step ?qa_law_reading ?ql_law_reading ?qcdis_law_reading ?qk_law_reading ?qa_law_all_choices ?ql_law_all_choices ?qcdis_law_all_choices ?qk_law_all_choices ?qa_law_count ?ql_law_count ?qcdis_law_count ?qk_law_count ?qa_law_is_number ?ql_law_is_number ?qcdis_law_is_number ?qk_law_is_number ?qa_law_fault ?ql_law_fault ?qcdis_law_fault ?qk_law_fault ?qa_law_told ?ql_law_told ?qcdis_law_told ?qk_law_told ?qa_law_refusals_told ?ql_law_refusals_told ?qcdis_law_refusals_told ?qk_law_refusals_told ?qa_law_counted ?ql_law_counted ?qcdis_law_counted ?qk_law_counted ?qa_law_by_pieces ?ql_law_by_pieces ?qcdis_law_by_pieces ?qk_law_by_pieces ?qa_law ?ql_law ?qcdis_law ?qk_law ?qa_WHOLE ?qa_FORMS ?ql_WHOLE ?qsm_FORMS ?ql_FORMS ?ql_F0 ?ql_F1 ?ql_F2 ?ql_F3 ?ql_F4 ?ql_F5 ?ql_F6 ?ql_F7 ?qa_MendError ?qx_MendError ?qa_InvalidImage ?qx_InvalidImage ?qkc_InvalidImage ?qsa_InvalidImage ?qga_InvalidImage ?qgg_InvalidImage ?qca_InvalidImage ?qi_is_InvalidImage ?qt_InvalidImage ?qnf_InvalidImage ?ql_i_InvalidImage ?qcdis_i_InvalidImage ?qk_i_InvalidImage ?qa_NotState ?qx_NotState ?qkc_NotState ?qsa_NotState ?qga_NotState ?qgg_NotState ?qca_NotState ?qi_is_NotState ?qt_NotState ?qnf_NotState ?ql_i_NotState ?qcdis_i_NotState ?qk_i_NotState ?qa_Unrepairable ?qx_Unrepairable ?qkc_Unrepairable ?qsa_Unrepairable ?qga_Unrepairable ?qgg_Unrepairable ?qca_Unrepairable ?qi_is_Unrepairable ?qt_Unrepairable ?qnf_Unrepairable ?ql_i_Unrepairable ?qcdis_i_Unrepairable ?qk_i_Unrepairable ?qa_InvalidNumber ?qx_InvalidNumber ?qkc_InvalidNumber ?qsa_InvalidNumber ?qga_InvalidNumber ?qgg_InvalidNumber ?qca_InvalidNumber ?qi_is_InvalidNumber ?qt_InvalidNumber ?qnf_InvalidNumber ?ql_i_InvalidNumber ?qcdis_i_InvalidNumber ?qk_i_InvalidNumber ?qa_UnequalSizes ?qx_UnequalSizes ?qkc_UnequalSizes ?qsa_UnequalSizes ?qga_UnequalSizes ?qgg_UnequalSizes ?qca_UnequalSizes ?qq_is_UnequalSizes ?qa_InvalidKind ?qx_InvalidKind ?qkc_InvalidKind ?qsa_InvalidKind ?qga_InvalidKind ?qgg_InvalidKind ?qca_InvalidKind ?qq_is_InvalidKind ?qa_InvalidChange ?qx_InvalidChange ?qkc_InvalidChange ?qsa_InvalidChange ?qga_InvalidChange ?qgg_InvalidChange ?qca_InvalidChange ?qq_is_InvalidChange ?qcn ?qct ?qnd ?qmro_M ?qz_ValueError ?qz_int ?qz_bool ?qz_str ?qz_list ?qz_tuple ?qz_len ?qz_range ?qz_enumerate ?qz_isinstance ?qz_min ?qz_abs ?qz_sorted ?qz_all ?qz_any ?qz_sum ?qz_zip ?qz_reversed ?qz_max ?qz_set
    (case qa_own => k_is)
    (case ql_own => k_is)
    (case qcdis_own => k_is)
    (case qk_own => k_is)
    (case qa_check_image => k_is)
    (case ql_check_image => k_is)
    (case qcdis_check_image => k_is)
    (case qk_check_image => k_is)
    (case qa_groups => k_is)
    (case ql_groups => k_is)
    (case qcdis_groups => k_is)
    (case qk_groups => k_is)
    (case qa_least_records => k_is)
    (case ql_least_records => k_is)
    (case qcdis_least_records => k_is)
    (case qk_least_records => k_is)
    (case qa_pieces => k_is)
    (case ql_pieces => k_is)
    (case qcdis_pieces => k_is)
    (case qk_pieces => k_is)
    (case qa_torn_pieces => k_is)
    (case ql_torn_pieces => k_is)
    (case qcdis_torn_pieces => k_is)
    (case qk_torn_pieces => k_is)
    (case qa_piece_of => k_is)
    (case ql_piece_of => k_is)
    (case qcdis_piece_of => k_is)
    (case qk_piece_of => k_is)
    (case qa_row_of => k_is)
    (case ql_row_of => k_is)
    (case qcdis_row_of => k_is)
    (case qk_row_of => k_is)
    (case qa_involvement => k_is)
    (case ql_involvement => k_is)
    (case qcdis_involvement => k_is)
    (case qk_involvement => k_is)
    (case qa_free_records => k_is)
    (case ql_free_records => k_is)
    (case qcdis_free_records => k_is)
    (case qk_free_records => k_is)
    (case qa_claims => k_is)
    (case ql_claims => k_is)
    (case qcdis_claims => k_is)
    (case qk_claims => k_is)
    (case qa_law_box => k_is)
    (case ql_law_box => k_is)
    (case qcdis_law_box => k_is)
    (case qk_law_box => k_is)
    (case qa_law_take => k_is)
    (case ql_law_take => k_is)
    (case qcdis_law_take => k_is)
    (case qk_law_take => k_is)
    (case qa_law_shuffled => k_is)
    (case ql_law_shuffled => k_is)
    (case qcdis_law_shuffled => k_is)
    (case qk_law_shuffled => k_is)
    (case qa_law_shape => k_is)
    (case ql_law_shape => k_is)
    (case qcdis_law_shape => k_is)
    (case qk_law_shape => k_is)
    (case qa_law_bad_words => k_is)
    (case ql_law_bad_words => k_is)
    (case qcdis_law_bad_words => k_is)
    (case qk_law_bad_words => k_is)
    (case qa_law_forced => k_is)
    (case ql_law_forced => k_is)
    (case qcdis_law_forced => k_is)
    (case qk_law_forced => k_is)
    (case qa_law_menu => k_is)
    (case ql_law_menu => k_is)
    (case qcdis_law_menu => k_is)
    (case qk_law_menu => k_is)
    (case qa_law_listed => k_is)
    (case ql_law_listed => k_is)
    (case qcdis_law_listed => k_is)
    (case qk_law_listed => k_is)
    (case qa_law_built => k_is)
    (case ql_law_built => k_is)
    (case qcdis_law_built => k_is)
    (case qk_law_built => k_is)
    (case qa_law_image => k_is)
    (case ql_law_image => k_is)
    (case qcdis_law_image => k_is)
    (case qk_law_image => k_is)
    (case qa_law_step => k_is)
    (case ql_law_step => k_is)
    (case qcdis_law_step => k_is)
    (case qk_law_step => k_is)
    (case qa_law_reading => k_is)
    (case ql_law_reading => k_is)
    (case qcdis_law_reading => k_is)
    (case qk_law_reading => k_is)
    (case qa_law_all_choices => k_is)
    (case ql_law_all_choices => k_is)
    (case qcdis_law_all_choices => k_is)
    (case qk_law_all_choices => k_is)
    (case qa_law_count => k_is)
    (case ql_law_count => k_is)
    (case qcdis_law_count => k_is)
    (case qk_law_count => k_is)
    (case qa_law_is_number => k_is)
    (case ql_law_is_number => k_is)
    (case qcdis_law_is_number => k_is)
    (case qk_law_is_number => k_is)
    (case qa_law_fault => k_is)
    (case ql_law_fault => k_is)
    (case qcdis_law_fault => k_is)
    (case qk_law_fault => k_is)
    (case qa_law_told => k_is)
    (case ql_law_told => k_is)
    (case qcdis_law_told => k_is)
    (case qk_law_told => k_is)
    (case qa_law_refusals_told => k_is)
    (case ql_law_refusals_told => k_is)
    (case qcdis_law_refusals_told => k_is)
    (case qk_law_refusals_told => k_is)
    (case qa_law_counted => k_is)
    (case ql_law_counted => k_is)
    (case qcdis_law_counted => k_is)
    (case qk_law_counted => k_is)
    (case qa_law_by_pieces => k_is)
    (case ql_law_by_pieces => k_is)
    (case qcdis_law_by_pieces => k_is)
    (case qk_law_by_pieces => k_is)
    (case qa_law => k_is)
    (case ql_law => k_is)
    (case qcdis_law => k_is)
    (case qk_law => k_is)
    (case qa_WHOLE => k_is)
    (case qa_FORMS => k_is)
    (case ql_WHOLE => k_is)
    (case qsm_FORMS => first | decide | rfl | k_is)
    (case ql_FORMS => k_is)
    (case ql_F0 => k_is)
    (case ql_F1 => k_is)
    (case ql_F2 => k_is)
    (case ql_F3 => k_is)
    (case ql_F4 => k_is)
    (case ql_F5 => k_is)
    (case ql_F6 => k_is)
    (case ql_F7 => k_is)
    (case qa_MendError => k_is)
    (case qx_MendError => k_is)
    (case qa_InvalidImage => k_is)
    (case qx_InvalidImage => k_is)
    (case qkc_InvalidImage => k_is)
    (case qsa_InvalidImage => k_is)
    (case qga_InvalidImage => k_is)
    (case qgg_InvalidImage => k_is)
    (case qca_InvalidImage => k_is)
    (case qi_is_InvalidImage => k_is)
    (case qt_InvalidImage => k_is)
    (case qnf_InvalidImage => k_is)
    (case ql_i_InvalidImage => k_is)
    (case qcdis_i_InvalidImage => k_is)
    (case qk_i_InvalidImage => k_is)
    (case qa_NotState => k_is)
    (case qx_NotState => k_is)
    (case qkc_NotState => k_is)
    (case qsa_NotState => k_is)
    (case qga_NotState => k_is)
    (case qgg_NotState => k_is)
    (case qca_NotState => k_is)
    (case qi_is_NotState => k_is)
    (case qt_NotState => k_is)
    (case qnf_NotState => k_is)
    (case ql_i_NotState => k_is)
    (case qcdis_i_NotState => k_is)
    (case qk_i_NotState => k_is)
    (case qa_Unrepairable => k_is)
    (case qx_Unrepairable => k_is)
    (case qkc_Unrepairable => k_is)
    (case qsa_Unrepairable => k_is)
    (case qga_Unrepairable => k_is)
    (case qgg_Unrepairable => k_is)
    (case qca_Unrepairable => k_is)
    (case qi_is_Unrepairable => k_is)
    (case qt_Unrepairable => k_is)
    (case qnf_Unrepairable => k_is)
    (case ql_i_Unrepairable => k_is)
    (case qcdis_i_Unrepairable => k_is)
    (case qk_i_Unrepairable => k_is)
    (case qa_InvalidNumber => k_is)
    (case qx_InvalidNumber => k_is)
    (case qkc_InvalidNumber => k_is)
    (case qsa_InvalidNumber => k_is)
    (case qga_InvalidNumber => k_is)
    (case qgg_InvalidNumber => k_is)
    (case qca_InvalidNumber => k_is)
    (case qi_is_InvalidNumber => k_is)
    (case qt_InvalidNumber => k_is)
    (case qnf_InvalidNumber => k_is)
    (case ql_i_InvalidNumber => k_is)
    (case qcdis_i_InvalidNumber => k_is)
    (case qk_i_InvalidNumber => k_is)
    (case qa_UnequalSizes => k_is)
    (case qx_UnequalSizes => k_is)
    (case qkc_UnequalSizes => k_is)
    (case qsa_UnequalSizes => k_is)
    (case qga_UnequalSizes => k_is)
    (case qgg_UnequalSizes => k_is)
    (case qca_UnequalSizes => k_is)
    (case qq_is_UnequalSizes => k_exc)
    (case qa_InvalidKind => k_is)
    (case qx_InvalidKind => k_is)
    (case qkc_InvalidKind => k_is)
    (case qsa_InvalidKind => k_is)
    (case qga_InvalidKind => k_is)
    (case qgg_InvalidKind => k_is)
    (case qca_InvalidKind => k_is)
    (case qq_is_InvalidKind => k_exc)
    (case qa_InvalidChange => k_is)
    (case qx_InvalidChange => k_is)
    (case qkc_InvalidChange => k_is)
    (case qsa_InvalidChange => k_is)
    (case qga_InvalidChange => k_is)
    (case qgg_InvalidChange => k_is)
    (case qca_InvalidChange => k_is)
    (case qq_is_InvalidChange => k_exc)
    (case qcn => k_is)
    (case qct => k_is)
    (case qnd => decide)
    (case qmro_M => k_is)
    (case qz_ValueError => k_is)
    (case qz_int => k_is)
    (case qz_bool => k_is)
    (case qz_str => k_is)
    (case qz_list => k_is)
    (case qz_tuple => k_is)
    (case qz_len => k_is)
    (case qz_range => k_is)
    (case qz_enumerate => k_is)
    (case qz_isinstance => k_is)
    (case qz_min => k_is)
    (case qz_abs => k_is)
    (case qz_sorted => k_is)
    (case qz_all => k_is)
    (case qz_any => k_is)
    (case qz_sum => k_is)
    (case qz_zip => k_is)
    (case qz_reversed => k_is)
    (case qz_max => k_is)
    (case qz_set => k_is)
