import PyProof.Rows.All
import Wide.All
import OpenK.AllK
import Wide.FinOn
import KE.KIsAll
import KE.KExcIs
import HandS.ForMost
import HandS.ForExc
import HandS.TryMany
import HandS.ExcInit
import HandS.ExcValue
import HandS.ExcField
import HandS.IsInst
import HandS.ExcIs
import HandS.Small
import HandS.Wide
import HandS.Flow
import HandS.Evl
import HandS.Conv
import HandS.Walk
import KE.KDictKeyed
import KE.KDictList
import KE.KDictDisplayH
import HandS.SetKeys
import HandS.DictComp
import HandS.NoneIn
import HandS.SortInts
import HandS.SortOrd
import HandS.TupAny
import HandS.ListItems
import HandS.SortRule
import HandS.ExcCtx
import HandS.HotCalls
import HandS.ExcInitHot
import HandS.TupSets
import HandS.SetFor
import HandS.Deep
import PyProof.WalkInts
import PyProof.WalksMore
import KE.GoesMore
import HandS.Zip
import HandS.Style
import HandS.HeadHook3
import HandS.Star
import HandS.MakeKwOnly
import HandS.CallLocal
import HandS.ClsMeth
import HandS.ExcOwn
import HandS.Property
import HandS.More
import HandS.SlotsOwn
import HandS.Defaults
import HandS.Rev
import KE.GoesEnum
import HandS.List
import KE.KRevSl
import KE.SortData
import KE.DataCmp
import PyProof.TupleOfSeq
import KE.KListMore
import HandS.Strs
import HandS.MethStar
import KE.KSuper
import HandS.FStr
import KE.DataEq
import PySem.Challenge.RW_peermend_k47_two_writers_are_too_many
set_option Elab.async false
set_option linter.all false
set_option maxRecDepth 100000
set_option maxHeartbeats 4000000
namespace L2
open PySem PySem.Spec PyProof.Rows

/-- an error object held as a value: without a dict, or with one that holds fields -/
def ErrT (H : Hp) (a C : Addr) : Prop := H a = some (ExO (.ref C) a) ∨ ∃ (dx : Addr) (fs : List (Str × V)), H a = some (exo a C (some dx)) ∧ H dx = some (exd dx fs)
/-- isinstance of such a value -/
def rIsX (K : PySem.W.Frag) : List V → Hp → VK → Prop := fun xs H Q => ∃ (a C : Addr) (c : V) (u : Value) (b : Bool), xs = [.ref a, c] ∧ ErrT H a C ∧ ExcC K C ∧ ClsV c u ∧ PySem.W.kitOne K (.ref C) u = some b ∧ Q (.bl b) H
theorem clsIn_some {K : PySem.W.Frag} {C : Addr} (h : PySem.W.hasDictIn K C = true) : (PySem.W.clsIn K C).isSome = true := by
  obtain ⟨cd, hc, _⟩ := PySem.W.any_some h
  rw [hc]
  rfl
theorem kitX_err {K : PySem.W.Frag} {C a : Addr} {oe : Obj} {od : Option Obj} (D : ExcC K C) : PySem.W.KitX K (.ref a) (.ref C) (fun h => PySem.W.InstAt h a oe C od) :=
  PySem.W.kitx_exc (clsIn_some D.hd) D.hg D.hk D.hs D.ha D.hn D.ht D.hm
theorem call_isX {X : Cx} : CallR X (.builtin "isinstance") (rIsX X.K) := by
  intro pins s σ H xs us Q I r h
  obtain ⟨a, C, c, u, b, rfl, T, D, k, e, q⟩ := h
  obtain ⟨u1, u2, rfl, r1, r2⟩ := vals2 r
  have e2 := k.eq r2
  subst e2
  cases (show u1 = Value.ref a from r1)
  rcases T with ea | ⟨dx, fs, ea, ed⟩
  · have x : ObjOk X.prog X.w H s.heap a (ExO (.ref C) a) := I.hok a _ ea
    obtain ⟨⟨oe, vs, ho, hz, hd, _⟩, _, _⟩ := x
    obtain ⟨oc, odi, oda, osl⟩ := oe
    obtain ⟨h1, h2⟩ := hz
    dsimp only at h1 h2 hd
    subst h1 h2 hd
    exact PySem.W.kia_one (kitX_err (od := none) D) I.kIn ⟨ho, rfl, rfl, trivial⟩ e (fun z => nomatch z) fun tk => ⟨.bl b, H, I.tok tk, rfl, q⟩
  · obtain ⟨t1, ho⟩ := exo_at I.hok ea
    obtain ⟨mA, hns, _⟩ := exd_at I.hok ed
    obtain ⟨od, ho2, _⟩ := lookIn_ns hns
    exact PySem.W.kia_one (kitX_err (od := some od) D) I.kIn ⟨ho, rfl, rfl, ho2⟩ e (fun z => nomatch z) fun tk => ⟨.bl b, H, I.tok tk, rfl, q⟩
/-- isinstance(e, c), e the exception that the suite holds, with its dict -/
def rIsS (K : PySem.W.Frag) (a : Addr) (cls : Value) (d : Option Addr) : List V → Hp → VK → Prop := fun xs H Q => ∃ (C dd : Addr) (fs : List (Str × V)) (c : V) (u : Value) (b : Bool), xs = [.ref a, c] ∧ cls = .ref C ∧ d = some dd ∧ H dd = some (.xd fs) ∧
  ExcC K C ∧ ClsV c u ∧ PySem.W.kitOne K (.ref C) u = some b ∧ Q (.bl b) H
theorem call_isS {X : Cx} {K : PySem.W.Frag} {a : Addr} {cls : Value} {d : Option Addr} {oe : Obj} {pn : List (Addr × Obj)} (hK : X.K = K) (hz : Zc cls d oe) (hf : ∃ vs, oe.data = .fields vs) : CallR (X.suite a ((a, oe) :: pn)) (.builtin "isinstance") (rIsS K a cls d) := by
  subst hK
  intro pins s σ H xs us Q I r h
  obtain ⟨C, dd, fs, c, u, b, rfl, rfl, rfl, ea, D, k, e, q⟩ := h
  obtain ⟨u1, u2, rfl, r1, r2⟩ := vals2 r
  have e2 := k.eq r2
  subst e2
  cases (show u1 = Value.ref a from r1)
  obtain ⟨hget, _⟩ := I.pin (a, oe) (List.mem_append.mpr (.inl List.mem_cons_self))
  obtain ⟨vs, hv⟩ := hf
  have hx : ObjOk X.prog X.w H s.heap dd (.xd fs) := I.hok dd _ ea
  obtain ⟨mA, hns, hr⟩ := hx
  obtain ⟨od, ho, hl⟩ := lookIn_ns hns
  have J : PySem.W.InstAt s.heap a oe C (some od) := ⟨hget, hz.1, by unfold PySem.W.notCls; rw [hv] <;> rfl, by rw [hz.2]; exact ho⟩
  exact PySem.W.kia_one (kitX_err D) I.kIn J e (fun z => nomatch z) fun tk => ⟨.bl b, H, I.kept (t' := tk) fun _ _ z => z, rfl, q⟩

section
variable {X : Cx} {C : Addr} {bmB : List Value} {B newId initId : String} {x : Str} {p pos : Pos}
/-- X(), raised: an own exception class without own __init__ -/
theorem pmk_own0 (F : ExcBaseFacts B newId initId bmB) (q : PySem.W.excIn X.K C bmB newId = true) (gC : X.mg x = some (.ref C)) (kC : PySem.W.keepIn X.K (.ref C) = true) (r : Raises X (.ref C)) (hg : Gl X x)
    (hdb : (x == ("__debug__" : Str)) = false := by decide) : PMk X (.Call (.Name x p) [] [] pos) (fun _ H Q => Q (.ref C) none H) := by
  intro pins s σ H Q I h
  refine wpAny_Call_Name_kw (ld_glob I hg gC ?_ hdb)
  refine PySem.W.callWith_K0 I.kIn kC ?_
  obtain ⟨bm, N, nm, qn, bs, hdct, sn, sub, ab, col, dd, k0, k1, k2, k3, k5, mN, hC, hN, hni, T⟩ := exc_obj I.kIn q
  refine wpAny_call_exc_subT F T hC hN hni (fun h' e hm => ?_) (Nat.zero_le _)
  exact mk_of I hm r h (I.hok.gone hm.new)
/-- X(), as a value -/
theorem pe_exc0 (F : ExcBaseFacts B newId initId bmB) (q : PySem.W.excIn X.K C bmB newId = true) (gC : X.mg x = some (.ref C)) (kC : PySem.W.keepIn X.K (.ref C) = true) (hg : Gl X x)
    (hdb : (x == ("__debug__" : Str)) = false := by decide) : PE X (.Call (.Name x p) [] [] pos) (fun _ H Q => ∀ a, H a = none → Q (.ref a) (upd H a (ExO (.ref C) a))) := by
  refine ⟨fun pins s σ H Q I h => ?_⟩
  refine wpAny_Call_Name_kw (ld_glob I hg gC ?_ hdb)
  refine PySem.W.callWith_K0 I.kIn kC ?_
  obtain ⟨bm, N, nm, qn, bs, hdct, sn, sub, ab, col, dd, k0, k1, k2, k3, k5, mN, hC, hN, hni, T⟩ := exc_obj I.kIn q
  refine wpAny_call_exc_subT F T hC hN hni (fun h' a hm => ?_) (Nat.zero_le _)
  have hn : H a = none := I.hok.gone hm.new
  obtain ⟨t, ht, _, _⟩ := hm.there
  exact ⟨.ref a, upd H a (ExO (.ref C) a), I.laidN hm.keeps hm.new hn (exO_ok ht ⟨rfl, rfl⟩ rfl rfl rfl (show 4 < 6 by decide)), rfl, h a hn⟩
end
/-- X(e, ..) as a value, its own __init__ keeping sp -/
def tMkV (C : Addr) (sp : Sp) (ta : TA) : TE := fun σ H Q => ta σ H fun vs H1 => vs.length ≤ 1000 ∧ ∀ a, H1 a = none → sp (.ref a :: vs) (upd H1 a (exo a C none)) (fun v H2 => v = .non ∧ Q (.ref a) H2) (fun _ _ _ => False)
section
variable {X : Cx} {e : Expr} {es : List Expr} {ta : TA} {p pos : Pos}
theorem pe_oexV {CX : CXT} {x : Str} {C fI : Addr} {k : Nat} {fd : FuncData} {ps : List Str} {sp : Sp} (T : OexC X.K C) (iC : PySem.W.findIn X.K (.ref C) "__init__" = some (some (.ref fI))) (tI : PySem.W.typeIn X.K (.ref fI) = some (.type "function"))
    (F1 : FnOk X.prog X.w X.K X.mg X.base CX k fI fd ps sp) (hr : Room (k + 1) X.A) (hb : Binds X.K fd ps []) (hx : Passes CX X (fun _ _ _ => False)) (hg : Gl X x) (hm : X.mg x = some (.ref C)) (ha : PA X (e :: es) ta)
    (hdb : (x == ("__debug__" : Str)) = false := by decide) (he : starEach (e :: es) X.env = (false, eval e X.env) :: starEach es X.env := by rfl) (hpl : (backTo pos (starEach es X.env)).any (·.1) = false := by rfl) :
    PE X (.Call (.Name x p) (e :: es) [] pos) (tMkV C sp ta) := by
  refine ⟨fun pins s σ H Q I h => ?_⟩
  obtain ⟨nm, q, N, bs, bm, sn, sub, ab, col, dd, k0, k1, k2, k3, k5, hC, hmro⟩ := T.cls
  refine wpAny_Call_Name_kw (ld_glob I hg hm ?_ hdb)
  refine PySem.W.callWith_K (h₀ := X.base) I.ok.mod.kin T.kC (thn (ha.run pos pins s σ H _ I h) fun us s1 ⟨vs, H1, I1, r1, hz, q1⟩ => ⟨I1.kIn, ?_⟩) he hpl
  show wpAny _ _ (call (.ref C) us) _ _ _
  obtain ⟨hh, g, dw, tc, ow⟩ := s1
  have hgt : hh.objs.size ≤ hh.objs.size + 1 := Nat.le_succ _
  have fr1 : H1 (hh.objs.size + 1) = none := I1.hok.fresh hgt
  have pr1 := q1 (hh.objs.size + 1) fr1
  have kp1 : ∀ b o, hh.get? b = some o → ((hh.push (PySem.W.kdv_tup us)).push (PySem.HandSPX.excO C hh.objs.size)).get? b = some o := fun b o e => Heap.get?_push_of_some _ (Heap.get?_push_of_some _ e)
  have ob1 : ((hh.push (PySem.W.kdv_tup us)).push (PySem.HandSPX.excO C hh.objs.size)).get? (hh.objs.size + 1) = some (PySem.HandSPX.excO C hh.objs.size) := by heap_get
  have Iv2 : Inv X pins σ (upd H1 (hh.objs.size + 1) (exo (hh.objs.size + 1) C none)) ⟨(hh.push (PySem.W.kdv_tup us)).push (PySem.HandSPX.excO C hh.objs.size), g, dw, tc, ow⟩ :=
    I1.laid (t' := tc) (a := hh.objs.size + 1) (o := exo (hh.objs.size + 1) C none) (h' := (hh.push (PySem.W.kdv_tup us)).push (PySem.HandSPX.excO C hh.objs.size)) kp1 hgt (exo_ok ob1)
  have rl2 : Vals (V.ref (hh.objs.size + 1) :: vs) (Value.ref (hh.objs.size + 1) :: us) := .cons rfl r1
  have ln1 : (Value.ref (hh.objs.size + 1) :: us).length = ps.length := by
    have e := rl2.length
    rw [F1.len _ _ _ _ pr1] at e
    exact e.symm
  have ln2 : us.length ≤ sizeLine := by
    rw [← Paired.length r1, sizeLine_eq]
    omega
  have b0 := hb ⟨(hh.push (PySem.W.kdv_tup us)).push (PySem.HandSPX.excO C hh.objs.size), g, dw, tc, ow⟩ (Value.ref (hh.objs.size + 1) :: us) Iv2.kIn (by rw [List.append_nil]; exact ln1)
  rw [List.append_nil] at b0
  refine wpAny_call (PySem.HandSPX.call_own F.excBase_ValueError (fun Y => PySem.HandSPX.refsVE_contains Y bm hmro) (I1.kIn _ _ hC) (PySem.W.looks_findIn I1.kIn iC) (fun self => PySem.W.bind_fn I1.kIn self tI) ln2
    (codeAny_mono (F1.run _ X.stack _ _ ⟨Value.ref (hh.objs.size + 1) :: us, []⟩ (Value.ref (hh.objs.size + 1) :: us) _ _ (fun _ _ _ => False) (hr.make C us []) (Iv2.env0.make C us []) b0 rl2 pr1) fun r s' hq' => ?_))
  cases r with
  | error er => exact hx pins σ _ _ er s' Iv2 hq'
  | ok fl =>
    cases fl with
    | ret u =>
      obtain ⟨v, H2, os2, bare2, un2, hok2, rv, ev, q2⟩ := hq'
      subst ev
      exact ⟨rv, .ref (hh.objs.size + 1), H2, Iv2.call' (ch := []) os2 un2 hok2 bare2 (fun b z => absurd z (by simp)), rfl, q2⟩
    | next => exact False.elim hq'
    | brk => exact False.elim hq'
    | cont => exact False.elim hq'
/-- err.f, err an error held as a value -/
def tXa (K : PySem.W.Frag) (f : Str) (te : TE) : TE := fun σ H Q => te σ H fun x H1 => ∃ (a C dx : Addr) (fs : List (Str × V)) (v : V), x = .ref a ∧ H1 a = some (exo a C (some dx)) ∧ H1 dx = some (exd dx fs) ∧ XfC K C ∧ PySem.W.findIn K (.ref C) f = some none ∧ fs.lookup f = some v ∧ Q v H1
theorem pe_xa {te : TE} {n : Str} (he : PE X e te) (hb : attributeBase e n X.env (eval e X.env) = eval e X.env := by rfl) : PE X (.Attribute e n pos) (tXa X.K n te) := by
  refine ⟨fun pins s σ H Q I h => ?_⟩
  refine attr_of hb (thn (he.run pins s σ H _ I h) fun u s1 hh => ?_)
  obtain ⟨x, H1, I1, rx, a, C, dx, fs, v, ex, ea, ed, T, hno, l, q⟩ := hh
  subst ex
  obtain rfl : u = Value.ref a := rx
  obtain ⟨t1, ho⟩ := exo_at I1.hok ea
  obtain ⟨mA, hns, hr⟩ := exd_at I1.hok ed
  obtain ⟨od, ho2, ln1⟩ := lookIn_ns hns
  obtain ⟨u, hu, ru⟩ := RelO.some_of (v := v) (o := mA n) (by rw [← l]; exact hr n)
  have J : PySem.W.InstAt s1.heap a _ C (some od) := ⟨ho, rfl, rfl, ho2⟩
  exact HandSPX.exc_get I1.kIn J T.ga T.gg T.exC (PySem.W.findObj_own T.hdC hno rfl (by rw [ln1, hu])) (handed_of ru) ⟨v, H1, I1.tok _, ru, q⟩
end
theorem ix_listK {X : Cx} {K : PySem.W.Frag} (h : X.K = K) : IxR X (rIxL K) := by
  subst h
  exact ix_list
theorem ix_tupK {X : Cx} {K : PySem.W.Frag} (h : X.K = K) : IxR X (rIxT K) := by
  subst h
  exact ix_tup
/-! several except clauses, some with names -/
/-- what is behind a suite with (slot i) or without a name -/
def goneD (oi : Option Nat) (D : Ends) : Ends := match oi with
  | none => D
  | some i => { nx := fun σ' H' => D.nx (σ'.set i none) H', rt := D.rt, bk := fun σ' H' => D.bk (σ'.set i none) H', ct := fun σ' H' => D.ct (σ'.set i none) H' }
def hadS (oi : Option Nat) (a : Addr) (σ : St) : St := match oi with
  | none => σ
  | some i => σ.set i (some (.ref a))
def wManyN (K : PySem.W.Frag) (Wout : WX) (D : Ends) : List (Value × Option Nat × (Addr → Value → Option Addr → TS)) → WX
  | [] => Wout
  | (c, oi, ts) :: r => fun cls d σ H => ∃ b, PySem.W.exmOne K cls c = some b ∧ (b = true → ∀ a, H a = none → ts a cls d (goneD oi D) (hadS oi a σ) H) ∧ (b = false → wManyN K Wout D r cls d σ H)
inductive HdsN (X : Cx) : List ExceptHandler → List (Value × Option Nat × (Addr → Value → Option Addr → TS)) → Prop
  | nil : HdsN X [] []
  | cons {x : Str} {c : Value} {ts : Addr → Value → Option Addr → TS} {b₀ : Stmt} {suite : List Stmt} {np pos' : Pos} {hds : List ExceptHandler} {l : List (Value × Option Nat × (Addr → Value → Option Addr → TS))} (hc : Names X x c)
      (hsu : ∀ (a : Addr) (oe : Obj) (cls : Value) (d : Option Addr) (pn : List (Addr × Obj)), Zc cls d oe → (∃ vs, oe.data = .fields vs) → PSs (X.suite a ((a, oe) :: pn)) (b₀ :: suite) (ts a cls d)) (r : HdsN X hds l) :
      HdsN X (.ExceptHandler (some (.Name x np)) none (b₀ :: suite) pos' :: hds) ((c, none, ts) :: l)
  | consN {x n : Str} {i : Nat} {c : Value} {ts : Addr → Value → Option Addr → TS} {b₀ : Stmt} {suite : List Stmt} {np pos' : Pos} {hds : List ExceptHandler} {l : List (Value × Option Nat × (Addr → Value → Option Addr → TS))} (hN : X.N.Nodup) (hi : X.N[i]? = some n) (hln : X.env.kindOf n = some .local) (hc : Names X x c)
      (hsu : ∀ (a : Addr) (oe : Obj) (cls : Value) (d : Option Addr) (pn : List (Addr × Obj)), Zc cls d oe → (∃ vs, oe.data = .fields vs) → PSs (X.suite a ((a, oe) :: pn)) (b₀ :: suite) (ts a cls d)) (r : HdsN X hds l) :
      HdsN X (.ExceptHandler (some (.Name x np)) (some n) (b₀ :: suite) pos' :: hds) ((c, some i, ts) :: l)
section
variable {X : Cx} {body : List Stmt} {h₀ : ExceptHandler} {hds : List ExceptHandler} {l : List (Value × Option Nat × (Addr → Value → Option Addr → TS))} {pos : Pos} {tb : WX → TS} {Wout : WX}
theorem ps_try_manyN (hs : X.stack = X.env :: X.outer) (hf : X.env.frame = some X.env.locals) (tk : Takes X Wout)
    (hb : ∀ (W : WX) (pn : List (Addr × Obj)) (xe : Value → Shared → Prop), Takes (X.tr pn xe) W → PassesOwn (model X.prog X.w) X.A X.env xe → PSs (X.tr pn xe) body (tb W))
    (hh : HdsN X (h₀ :: hds) l) : PS X (.Try body (h₀ :: hds) [] [] pos) (fun D σ H => tb (wManyN X.K Wout D l) D σ H) := by
  refine ⟨fun pins s σ H D I h => ?_⟩
  have ok := I.ok
  have frA : X.A.frames = some (X.env :: X.outer) := by rw [ok.frames, hs]
  refine wpAny_Try_except ?_
  refine wpAny_mono ((hb (wManyN X.K Wout D l) (X.pn ++ pins) (fun e s₁ => wpAny (model X.prog X.w) X.A (noteFrame e X.env) (fun _ s₂ => wpAny (model X.prog X.w) X.A (setFlight e none) (fun _ s₃ =>
    wpAny (model X.prog X.w) X.A (handleBy e X.env (h₀ :: hds)) (SP X pins D) X.xe s₃) X.xe s₂) X.xe s₁) (fun u s' xx => ?_) PassesOwn.looking).run [] s σ H D (I.toTry _) h) (fun f s1 back => ?_) (fun e s1 he => he)
  · -- the catch
    obtain ⟨a, B, sI, pins', σ', H', cls, d, rfl, J', nb, up, sky, na, os, ag, w⟩ := xx
    have J : Inv X pins σ' H' sI := J'.ofTry ok
    have skyE : Sky B (X.env :: X.outer) a (Zc cls d) X.env.locals s'.heap := by rw [← hs]; exact sky
    show wpAny (model X.prog X.w) X.A (noteFrame (.ref a) X.env) _ _ _
    refine Sky.land Zc.steady frA hf skyE fun h3 fz3 ut3 => ?_
    have Jn3 : Inv X pins σ' H' { s' with heap := h3 } := J.landed nb fz3.1 (up.trans ut3) os ag
    obtain ⟨ox3, xs3, ob3, zc3, dt3⟩ := fz3.there
    have aside : ∀ {h : Heap} {o : Obj} {vs : Array Value}, h.FunFrames B (X.env :: X.outer) → h.get? a = some o → o.data = .fields vs → a ∉ frs (X.env :: X.outer) := fun {h o vs} ff e dd hm => by
      obtain ⟨_, o', e', hnf⟩ := ff.mem hm
      rw [e] at e'; cases e'
      exact hnf _ dd
    have offF := aside fz3.2.2.1 ob3 dt3
    have offL : a ≠ X.env.locals := fun z => offF (List.mem_filterMap.mpr ⟨X.env, List.mem_cons_self, by rw [hf, z]⟩)
    have offS : a ∉ X.fs := fun hm => by
      obtain ⟨e, he, q⟩ := List.mem_filterMap.mp hm
      exact offF (List.mem_filterMap.mpr ⟨e, List.mem_cons_of_mem _ he, q⟩)
    have In3 := Jn3.suite ob3 dt3 na offL offS
    have go : ∀ {hds' : List ExceptHandler} {l' : List (Value × Option Nat × (Addr → Value → Option Addr → TS))}, HdsN X hds' l' → wManyN X.K Wout D l' cls d σ' H' →
        wpAny (model X.prog X.w) X.A (handleBy (.ref a) X.env hds') (SP X pins D) X.xe { s' with heap := h3 } := by
      intro hds' l' hk
      induction hk with
      | nil =>
        intro w
        refine wpAny_handleBy_nil ?_
        obtain ⟨k1, k2, k3, oe, vs, T, oT, ts', he, hz, hd, h1, hr⟩ := id fz3
        unfold PySem.passOn
        refine wpAny_bind (wpAny_field he hd h1 ?_)
        rw [if_neg (show ¬ ((Value.ref T == Value.none) = true) from by simp)]
        have fin : wpAny (model X.prog X.w) X.A (setFlight (.ref a) X.env.frame) (fun _ s4 => wpAny (model X.prog X.w) X.A (throw (.ref a) : Sem Flow) (SP X pins D) X.xe s4) X.xe { s' with heap := h3 } := by
          rw [hf]
          refine HandSPX.setFlight_upZ fz3 fun h4 hh4 ut4 => wpAny_throw (tk _ _ ?_)
          exact ⟨a, B, sI, pins, σ', H', cls, d, rfl, J, nb, (up.trans ut3).trans ut4, .inr (.inr (by rw [hs]; exact hh4)), na, os, ag, w⟩
        first
          | exact wpAny_bind (wpAny_pure (wpAny_bind fin))
          | exact wpAny_bind fin
      | @cons x c ts b₀ suite np pos' hds2 l2 hc hsu r ih =>
        intro w
        obtain ⟨b, hx1, yes, nay⟩ := w
        refine wpAny_handleBy_cons (codeAny_handlers_test ?_) (by intro q; cases q)
        have lkT : PySem.W.Looks (model X.prog X.w) h3 (typeOf (.ref a)) cls := fun A Q E s k q => wpAny_typeOf_ref (k _ _ ob3) (by rw [zc3.1]; exact q)
        have lkM := PySem.W.exm_one (M := model X.prog X.w) (Jn3.kIn) lkT hx1
        have test : ∀ {Q : Value → Shared → Prop} {E : Value → Shared → Prop}, Q c { s' with heap := h3 } → wpAny (model X.prog X.w) (X.A.mark (some (.ref a))) (eval (.Name x np) X.env) Q E { s' with heap := h3 } := fun {Q E} q => by
          obtain ⟨hg, hdbg, hm | ⟨hm, hv, hnn⟩⟩ := hc
          · exact ld_glob (X := X.suite a ((a, ox3) :: (X.pn ++ pins))) In3 hg hm q hdbg
          · exact ld_blt (X := X.suite a ((a, ox3) :: (X.pn ++ pins))) In3 hg hm hv q hnn hdbg
        refine test (lkM.here ?_)
        cases b with
        | true =>
          refine codeAny_handlers_suite ?_
          refine HandSPX.lands_againZ fz3 fun h4 fz4 ut4 => ?_
          have Jn4 : Inv X pins σ' H' { s' with heap := h4 } := J.landed nb fz4.1 ((up.trans ut3).trans ut4) os ag
          obtain ⟨ox4, xs4, ob4, zc4, dt4⟩ := fz4.there
          have In4 := Jn4.suite ob4 dt4 na offL offS
          refine wpAny_mono ((hsu a ox4 cls d (X.pn ++ pins) zc4 ⟨_, dt4⟩).run [] _ _ H' _ In4 (yes rfl a na)) (fun f t6 back => ?_) (fun _ _ z => False.elim z)
          cases f with
          | next =>
            obtain ⟨σb, Hb, Inb, qb⟩ := back
            exact ⟨_, _, Inb.unsuite ok, qb⟩
          | brk =>
            obtain ⟨σb, Hb, Inb, qb⟩ := back
            exact ⟨_, _, Inb.unsuite ok, qb⟩
          | cont =>
            obtain ⟨σb, Hb, Inb, qb⟩ := back
            exact ⟨_, _, Inb.unsuite ok, qb⟩
          | ret u =>
            obtain ⟨vb, σb, Hb, Inb, rb, qb⟩ := back
            exact ⟨_, _, _, Inb.unsuite ok, rb, qb⟩
        | false =>
          show wpAny _ X.A (handleBy (.ref a) X.env hds2) _ _ _
          exact ih (nay rfl)
      | @consN x n i c ts b₀ suite np pos' hds2 l2 hN hi hln hc hsu r ih =>
        intro w
        obtain ⟨b, hx1, yes, nay⟩ := w
        have hloc : Loc X.env.scope n := .inl hln
        refine wpAny_handleBy_cons (codeAny_handlers_test ?_) (by intro q; cases q)
        have lkT : PySem.W.Looks (model X.prog X.w) h3 (typeOf (.ref a)) cls := fun A Q E s k q => wpAny_typeOf_ref (k _ _ ob3) (by rw [zc3.1]; exact q)
        have lkM := PySem.W.exm_one (M := model X.prog X.w) (Jn3.kIn) lkT hx1
        have test : ∀ {Q : Value → Shared → Prop} {E : Value → Shared → Prop}, Q c { s' with heap := h3 } → wpAny (model X.prog X.w) (X.A.mark (some (.ref a))) (eval (.Name x np) X.env) Q E { s' with heap := h3 } := fun {Q E} q => by
          obtain ⟨hg, hdbg, hm | ⟨hm, hv, hnn⟩⟩ := hc
          · exact ld_glob (X := X.suite a ((a, ox3) :: (X.pn ++ pins))) In3 hg hm q hdbg
          · exact ld_blt (X := X.suite a ((a, ox3) :: (X.pn ++ pins))) In3 hg hm hv q hnn hdbg
        refine test (lkM.here ?_)
        cases b with
        | true =>
          refine codeAny_handlers_suite_as ?_
          refine HandSPX.lands_againZ fz3 fun h4 fz4 ut4 => ?_
          have Jn4 : Inv X pins σ' H' { s' with heap := h4 } := J.landed nb fz4.1 ((up.trans ut3).trans ut4) os ag
          obtain ⟨ox4, xs4, ob4, zc4, dt4⟩ := fz4.there
          have In4 := Jn4.suite ob4 dt4 na offL offS
          refine store_ok (X := X.suite a ((a, ox4) :: (X.pn ++ pins))) (v := .ref a) In4 hN hi hloc rfl (fun t5 In5 => ?_) (.inr hln)
          refine wpAny_mono ((hsu a ox4 cls d (X.pn ++ pins) zc4 ⟨_, dt4⟩).run [] t5 _ H' _ In5 (yes rfl a na)) (fun f t6 back => ?_) (fun _ _ z => False.elim z)
          have gone : ∀ {σb : St} {Hb : Hp} {Q : Shared → Prop}, Inv (X.suite a ((a, ox4) :: (X.pn ++ pins))) [] σb Hb t6 → (∀ s7, Inv X pins (σb.set i none) Hb s7 → Q s7) →
              wpAny (model X.prog X.w) X.A (do bindName X.env n .none; unbindBehindTheSuite X.env n pos') (fun _ s7 => Q s7) X.xe t6 := fun {σb Hb Q} Inb hq => gone_ok (Inb.unsuite ok) hN hi hln hq
          cases f with
          | next =>
            obtain ⟨σb, Hb, Inb, qb⟩ := back
            exact gone Inb fun s7 J7 => ⟨_, _, J7, qb⟩
          | brk =>
            obtain ⟨σb, Hb, Inb, qb⟩ := back
            exact gone Inb fun s7 J7 => ⟨_, _, J7, qb⟩
          | cont =>
            obtain ⟨σb, Hb, Inb, qb⟩ := back
            exact gone Inb fun s7 J7 => ⟨_, _, J7, qb⟩
          | ret u =>
            obtain ⟨vb, σb, Hb, Inb, rb, qb⟩ := back
            exact gone Inb fun s7 J7 => ⟨_, _, _, J7, rb, qb⟩
        | false =>
          show wpAny _ X.A (handleBy (.ref a) X.env hds2) _ _ _
          exact ih (nay rfl)
    exact go hh w
  · cases f with
    | next =>
      obtain ⟨σ', H', J', q⟩ := back
      exact wpAny_execs_nil ⟨σ', H', J'.ofTry ok, q⟩
    | brk =>
      obtain ⟨σ', H', J', q⟩ := back
      exact ⟨σ', H', J'.ofTry ok, q⟩
    | cont =>
      obtain ⟨σ', H', J', q⟩ := back
      exact ⟨σ', H', J'.ofTry ok, q⟩
    | ret u =>
      obtain ⟨v, σ', H', J', r, q⟩ := back
      exact ⟨v, σ', H', J'.ofTry ok, r, q⟩
end
end L2

namespace Pm
/-! ### forms and blocks -/
def form : Nat → List Nat
  | 0 => [0] | 1 => [1, 0] | 2 => [1, 1] | 3 => [1, 2, 1] | 4 => [1, 2, 2] | 5 => [1, 2, 1, 2] | 6 => [1, 2, 3, 2] | _ => [1, 2, 3, 0]
abbrev Bk := Nat × List Nat
structure Blk (ys : List Nat) (b : Bk) : Prop where
  w : b.1 < 8
  len : b.2.length = (form b.1).length
  sh : ∀ k, k < b.2.length → ys.getD (b.2.getD k 0) 0 = b.2.getD ((form b.1).getD k 0) 0
structure Built (ys : List Nat) (bs : List Bk) : Prop where
  blk : ∀ b ∈ bs, Blk ys b
  perm : (bs.flatMap (·.2)).Perm (List.range ys.length)
theorem form_len (w : Nat) : 0 < (form w).length := by
  unfold form
  split <;> decide
theorem form_lt (w k : Nat) (h : k < (form w).length) : (form w).getD k 0 < (form w).length := by
  unfold form at h ⊢
  split at h <;> (simp at h ⊢; rcases k with _ | _ | _ | _ | k <;> simp at h ⊢ <;> omega)
/-- the least of a list -/
def mn : List Nat → Nat
  | [] => 0
  | [a] => a
  | a :: b :: l => min a (mn (b :: l))
theorem mn_mem : ∀ {l : List Nat}, l ≠ [] → mn l ∈ l
  | [], h => absurd rfl h
  | [a], _ => by simp [mn]
  | a :: b :: l, _ => by
    have ih := mn_mem (l := b :: l) (by simp)
    unfold mn
    by_cases h : a ≤ mn (b :: l)
    · rw [Nat.min_eq_left h]; exact List.mem_cons_self ..
    · rw [Nat.min_eq_right (by omega)]; exact List.mem_cons_of_mem _ ih
theorem mn_le : ∀ {l : List Nat} {x : Nat}, x ∈ l → mn l ≤ x
  | [a], x, h => by
    rw [List.mem_singleton.mp h]
    exact Nat.le_refl _
  | a :: b :: l, x, h => by
    unfold mn
    rcases List.mem_cons.mp h with e | h
    · rw [e]; exact Nat.min_le_left _ _
    · exact Nat.le_trans (Nat.min_le_right _ _) (mn_le h)
theorem uniq : ∀ {bs : List Bk} {b c : Bk} {x : Nat}, (bs.flatMap (·.2)).Nodup → b ∈ bs → c ∈ bs → x ∈ b.2 → x ∈ c.2 → b = c
  | a :: bs, b, c, x, nd, hb, hc, xb, xc => by
    rw [List.flatMap_cons, List.nodup_append] at nd
    rcases List.mem_cons.mp hb with e1 | hb
    · rcases List.mem_cons.mp hc with e2 | hc
      · rw [e1, e2]
      · exact absurd rfl (nd.2.2 x (e1 ▸ xb) x (List.mem_flatMap.mpr ⟨c, hc, xc⟩))
    · rcases List.mem_cons.mp hc with e2 | hc
      · exact absurd rfl (nd.2.2 x (e2 ▸ xc) x (List.mem_flatMap.mpr ⟨b, hb, xb⟩))
      · exact uniq nd.2.1 hb hc xb xc
theorem nd_of : ∀ {bs : List Bk} {b : Bk}, (bs.flatMap (·.2)).Nodup → b ∈ bs → b.2.Nodup
  | a :: bs, b, nd, hb => by
    rw [List.flatMap_cons, List.nodup_append] at nd
    rcases List.mem_cons.mp hb with e1 | hb
    · rw [e1]; exact nd.1
    · exact nd_of nd.2.1 hb
def beta (bs : List Bk) (x : Nat) : Nat := match bs.find? (fun b => b.2.contains x) with
  | some b => mn b.2
  | none => x
section
variable {ys : List Nat} {bs : List Bk}
theorem Built.nd (B : Built ys bs) : (bs.flatMap (·.2)).Nodup := B.perm.nodup_iff.mpr List.nodup_range
theorem Built.lt (B : Built ys bs) {b : Bk} (hb : b ∈ bs) {x : Nat} (hx : x ∈ b.2) : x < ys.length :=
  List.mem_range.mp (B.perm.mem_iff.mp (List.mem_flatMap.mpr ⟨b, hb, hx⟩))
theorem Built.of (B : Built ys bs) {x : Nat} (hx : x < ys.length) : ∃ b ∈ bs, x ∈ b.2 := by
  obtain ⟨b, hb, h⟩ := List.mem_flatMap.mp (B.perm.mem_iff.mpr (List.mem_range.mpr hx))
  exact ⟨b, hb, h⟩
theorem Built.beta_of (B : Built ys bs) {b : Bk} (hb : b ∈ bs) {x : Nat} (hx : x ∈ b.2) : beta bs x = mn b.2 := by
  unfold beta
  cases h : bs.find? (fun b => b.2.contains x) with
  | none =>
    have := List.find?_eq_none.mp h b hb
    simp [hx] at this
  | some c =>
    have h1 := List.mem_of_find?_eq_some h
    have h2 := List.find?_some h
    have h3 : x ∈ c.2 := by simpa using h2
    rw [uniq B.nd hb h1 hx h3]
theorem Built.ne (B : Built ys bs) {b : Bk} (hb : b ∈ bs) : b.2 ≠ [] := fun z => by
  have h := (B.blk b hb).len
  have := form_len b.1
  rw [z] at h
  simp at h
  omega
theorem Built.mn_beta (B : Built ys bs) {b : Bk} (hb : b ∈ bs) : beta bs (mn b.2) = mn b.2 := B.beta_of hb (mn_mem (B.ne hb))
theorem Built.beta_le (B : Built ys bs) {x : Nat} (hx : x < ys.length) : beta bs x ≤ x := by
  obtain ⟨b, hb, h⟩ := B.of hx
  rw [B.beta_of hb h]
  exact mn_le h
theorem getD_mem {l : List Nat} {k : Nat} (h : k < l.length) : l.getD k 0 ∈ l := by
  rw [List.getD_eq_getElem?_getD, List.getElem?_eq_getElem h]
  exact List.getElem_mem h
theorem mem_getD {l : List Nat} {x : Nat} (h : x ∈ l) : ∃ k, k < l.length ∧ l.getD k 0 = x := by
  obtain ⟨k, hk, e⟩ := List.getElem_of_mem h
  exact ⟨k, hk, by rw [List.getD_eq_getElem?_getD, List.getElem?_eq_getElem hk]; exact e⟩
/-- what a record shows is of its block -/
theorem Built.shown (B : Built ys bs) {b : Bk} (hb : b ∈ bs) {x : Nat} (hx : x ∈ b.2) : ys.getD x 0 ∈ b.2 := by
  obtain ⟨k, hk, rfl⟩ := mem_getD hx
  have Q := B.blk b hb
  rw [Q.sh k hk]
  exact getD_mem (by rw [Q.len]; exact form_lt _ _ (by rw [← Q.len]; exact hk))
theorem Built.edge (B : Built ys bs) {x : Nat} (hx : x < ys.length) : ys.getD x 0 < ys.length ∧ beta bs (ys.getD x 0) = beta bs x := by
  obtain ⟨b, hb, h⟩ := B.of hx
  have h2 := B.shown hb h
  exact ⟨B.lt hb h2, by rw [B.beta_of hb h, B.beta_of hb h2]⟩
end
/-! ### the labels -/
def stepL (L : List Nat) (r nm : Nat) : List Nat := if min (L.getD r 0) (L.getD nm 0) = max (L.getD r 0) (L.getD nm 0) then L else L.map fun o => if o = max (L.getD r 0) (L.getD nm 0) then min (L.getD r 0) (L.getD nm 0) else o
def lab (ys : List Nat) : Nat → List Nat
  | 0 => List.range ys.length
  | i + 1 => stepL (lab ys i) i (ys.getD i 0)
structure Lab (ys : List Nat) (bs : List Bk) (i : Nat) (L : List Nat) : Prop where
  len : L.length = ys.length
  le : ∀ x, x < ys.length → L.getD x 0 ≤ x
  fx : ∀ x, x < ys.length → L.getD (L.getD x 0) 0 = L.getD x 0
  bl : ∀ x, x < ys.length → beta bs (L.getD x 0) = beta bs x
  ed : ∀ r, r < i → r < ys.length → L.getD r 0 = L.getD (ys.getD r 0) 0
theorem getD_map {L : List Nat} {f : Nat → Nat} {x : Nat} (h : x < L.length) : (L.map f).getD x 0 = f (L.getD x 0) := by
  rw [List.getD_eq_getElem?_getD, List.getElem?_map, List.getD_eq_getElem?_getD, List.getElem?_eq_getElem h]
  rfl
theorem getD_range {n x : Nat} (h : x < n) : (List.range n).getD x 0 = x := by
  rw [List.getD_eq_getElem?_getD, List.getElem?_range h]
  rfl
theorem lab_ok {ys : List Nat} {bs : List Bk} (B : Built ys bs) : ∀ i, i ≤ ys.length → Lab ys bs i (lab ys i)
  | 0, _ => ⟨List.length_range, fun x hx => by show (List.range _).getD x 0 ≤ x; rw [getD_range hx]; exact Nat.le_refl _,
      fun x hx => by show (List.range _).getD ((List.range _).getD x 0) 0 = (List.range _).getD x 0; rw [getD_range hx, getD_range hx],
      fun x hx => by show beta bs ((List.range _).getD x 0) = _; rw [getD_range hx], fun r h => absurd h (Nat.not_lt_zero _)⟩
  | i + 1, hi => by
    have ih := lab_ok B i (by omega)
    have hin : i < ys.length := by omega
    obtain ⟨hnm, hbe⟩ := B.edge hin
    show Lab ys bs (i + 1) (stepL (lab ys i) i (ys.getD i 0))
    generalize lab ys i = L at ih
    generalize hnmE : ys.getD i 0 = nm at hnm hbe
    unfold stepL
    have a1 := ih.fx i hin
    have b1 := ih.fx nm hnm
    have a2 := ih.le i hin
    have b2 := ih.le nm hnm
    have a3 := ih.bl i hin
    have b3 := ih.bl nm hnm
    generalize ha : L.getD i 0 = a at *
    generalize hb : L.getD nm 0 = b at *
    by_cases heq : min a b = max a b
    · rw [if_pos heq]
      refine ⟨ih.len, ih.le, ih.fx, ih.bl, fun r hr hrn => ?_⟩
      by_cases h : r = i
      · rw [h, ha, hnmE, hb]
        omega
      · exact ih.ed r (by omega) hrn
    · rw [if_neg heq]
      have hlow : L.getD (min a b) 0 = min a b := by
        by_cases h : a ≤ b
        · rw [Nat.min_eq_left h]; exact a1
        · rw [Nat.min_eq_right (by omega)]; exact b1
      have hbl : beta bs (min a b) = beta bs (max a b) := by
        by_cases h : a ≤ b
        · rw [Nat.min_eq_left h, Nat.max_eq_right h, a3, b3, hbe]
        · rw [Nat.min_eq_right (by omega), Nat.max_eq_left (by omega), a3, b3, hbe]
      have at_ : ∀ x, x < ys.length → (L.map fun o => if o = max a b then min a b else o).getD x 0 = if L.getD x 0 = max a b then min a b else L.getD x 0 := fun x hx => getD_map (by rw [ih.len]; exact hx)
      have hminlt : min a b < ys.length := by omega
      refine ⟨by rw [List.length_map]; exact ih.len, fun x hx => ?_, fun x hx => ?_, fun x hx => ?_, fun r hr hrn => ?_⟩
      · rw [at_ x hx]
        have := ih.le x hx
        split <;> omega
      · rw [at_ x hx]
        by_cases h : L.getD x 0 = max a b
        · rw [if_pos h, at_ _ hminlt, hlow, if_neg heq]
        · rw [if_neg h]
          have hl := ih.le x hx
          rw [at_ _ (by omega), ih.fx x hx, if_neg h]
      · rw [at_ x hx]
        by_cases h : L.getD x 0 = max a b
        · rw [if_pos h, hbl, ← h]; exact ih.bl x hx
        · rw [if_neg h]; exact ih.bl x hx
      · rw [at_ r hrn, at_ _ (B.edge hrn).1]
        by_cases h : r = i
        · rw [h, ha, hnmE, hb]
          by_cases hab : a ≤ b
          · rw [Nat.min_eq_left hab, Nat.max_eq_right hab]
            by_cases hq : a = b <;> simp [hq]
          · rw [Nat.min_eq_right (by omega), Nat.max_eq_left (by omega)]
            by_cases hq : b = a <;> simp [hq]
        · rw [ih.ed r (by omega) hrn]
theorem conn {w : Nat} {ms : List Nat} {f : Nat → Nat} (hl : ms.length = (form w).length) (h : ∀ k, k < ms.length → f (ms.getD k 0) = f (ms.getD ((form w).getD k 0) 0)) : ∀ k, k < ms.length → f (ms.getD k 0) = f (ms.getD 0 0) := by
  unfold form at hl h
  split at hl
  all_goals (simp only [List.length_cons, List.length_nil] at hl; intro k hk)
  all_goals (have h0 := h 0 (by omega); try have h1 := h 1 (by omega))
  all_goals (try have h2 := h 2 (by omega))
  all_goals (try have h3 := h 3 (by omega))
  all_goals (rcases k with _ | _ | _ | _ | k)
  all_goals first | omega | rfl | (simp at h0 h1 h2 h3 ⊢; omega) | (simp at h0 h1 h2 ⊢; omega) | (simp at h0 h1 ⊢; omega) | (simp at h0 ⊢; omega)
end Pm

namespace Pm
inductive Cs (g : Nat → Nat) : Nat → List Nat → Prop
  | free (a) : g a = a → Cs g 0 [a]
  | pair (a b) : g a = b → g b = a → Cs g 1 [a, b]
  | claim (a b) : g a = b → g b = b → Cs g 2 [a, b]
  | hook (c a b) : g c = a → g a = b → g b = a → Cs g 3 [c, a, b]
  | relay (c a b) : g c = a → g a = b → g b = b → Cs g 4 [c, a, b]
  | clamp (d a b c) : g d = a → g a = b → g b = a → g c = b → Cs g 5 [d, a, b, c]
  | trail (d c a b) : g d = c → g c = a → g a = b → g b = a → Cs g 6 [d, c, a, b]
  | wheel (a b c d) : g a = b → g b = c → g c = d → g d = a → Cs g 7 [a, b, c, d]
theorem Blk.cs {ys : List Nat} {b : Bk} (Q : Blk ys b) : Cs (fun x => ys.getD x 0) b.1 b.2 := by
  obtain ⟨w, ms⟩ := b
  obtain ⟨hw, hl, h⟩ := Q
  dsimp only at hw hl h
  match w, hw with
  | 0, _ => match ms, hl with | [a], _ => exact .free a (by simpa [form] using h 0 (by simp))
  | 1, _ => match ms, hl with | [a, b], _ => exact .pair a b (by simpa [form] using h 0 (by simp)) (by simpa [form] using h 1 (by simp))
  | 2, _ => match ms, hl with | [a, b], _ => exact .claim a b (by simpa [form] using h 0 (by simp)) (by simpa [form] using h 1 (by simp))
  | 3, _ => match ms, hl with | [a, b, c], _ => exact .hook a b c (by simpa [form] using h 0 (by simp)) (by simpa [form] using h 1 (by simp)) (by simpa [form] using h 2 (by simp))
  | 4, _ => match ms, hl with | [a, b, c], _ => exact .relay a b c (by simpa [form] using h 0 (by simp)) (by simpa [form] using h 1 (by simp)) (by simpa [form] using h 2 (by simp))
  | 5, _ => match ms, hl with | [a, b, c, d], _ => exact .clamp a b c d (by simpa [form] using h 0 (by simp)) (by simpa [form] using h 1 (by simp)) (by simpa [form] using h 2 (by simp)) (by simpa [form] using h 3 (by simp))
  | 6, _ => match ms, hl with | [a, b, c, d], _ => exact .trail a b c d (by simpa [form] using h 0 (by simp)) (by simpa [form] using h 1 (by simp)) (by simpa [form] using h 2 (by simp)) (by simpa [form] using h 3 (by simp))
  | 7, _ => match ms, hl with | [a, b, c, d], _ => exact .wheel a b c d (by simpa [form] using h 0 (by simp)) (by simpa [form] using h 1 (by simp)) (by simpa [form] using h 2 (by simp)) (by simpa [form] using h 3 (by simp))
structure Canon (b : Bk) : Prop where
  pair : b.1 = 1 → b.2.getD 0 0 < b.2.getD 1 0
  clamp : b.1 = 5 → b.2.getD 0 0 < b.2.getD 3 0
  wheel : b.1 = 7 → b.2.getD 0 0 = mn b.2
section
variable {ys : List Nat} {bs : List Bk}
theorem lab_end (B : Built ys bs) {x : Nat} (hx : x < ys.length) : (lab ys ys.length).getD x 0 = beta bs x := by
  have Q := lab_ok B ys.length (Nat.le_refl _)
  generalize lab ys ys.length = L at Q ⊢
  obtain ⟨b, hb, hxb⟩ := B.of hx
  have P := B.blk b hb
  have cn := conn (f := fun x => L.getD x 0) P.len fun k hk => by
    show L.getD (b.2.getD k 0) 0 = _
    have hm := B.lt hb (getD_mem hk)
    rw [Q.ed _ hm hm, P.sh k hk]
  have h0 : 0 < b.2.length := List.length_pos_iff.mpr (B.ne hb)
  have same : ∀ y, y ∈ b.2 → L.getD y 0 = L.getD (b.2.getD 0 0) 0 := fun y hy => by
    obtain ⟨k, hk, rfl⟩ := mem_getD hy
    exact cn k hk
  have hmn := mn_mem (B.ne hb)
  have e1 : L.getD x 0 = L.getD (mn b.2) 0 := by rw [same x hxb, same _ hmn]
  have h1 := Q.le (mn b.2) (B.lt hb hmn)
  have h2 := Q.bl x hx
  have h3 := Q.le x hx
  have h4 := B.beta_le (x := L.getD x 0) (by omega)
  have h5 := B.beta_of hb hxb
  omega
def grp (bs : List Bk) (n m : Nat) : List Nat := (List.range n).filter fun x => decide (beta bs x = m)
def roots (bs : List Bk) (n : Nat) : List Nat := (List.range n).filter fun x => decide (beta bs x = x)
theorem nodup_filter {l : List Nat} (p : Nat → Bool) (h : l.Nodup) : (l.filter p).Nodup := h.sublist List.filter_sublist
theorem grp_nd {n m : Nat} : (grp bs n m).Nodup := nodup_filter _ List.nodup_range
theorem grp_lt {n m : Nat} : (grp bs n m).Pairwise (· < ·) := List.Pairwise.filter _ List.pairwise_lt_range
theorem Built.mem_grp (B : Built ys bs) {b : Bk} (hb : b ∈ bs) {x : Nat} : x ∈ grp bs ys.length (mn b.2) ↔ x ∈ b.2 := by
  unfold grp
  rw [List.mem_filter, List.mem_range, decide_eq_true_eq]
  constructor
  · rintro ⟨h1, h2⟩
    obtain ⟨c, hc, hx⟩ := B.of h1
    rw [B.beta_of hc hx] at h2
    have e := uniq B.nd hc hb (x := mn b.2) (by rw [← h2]; exact mn_mem (B.ne hc)) (mn_mem (B.ne hb))
    exact e ▸ hx
  · exact fun h => ⟨B.lt hb h, B.beta_of hb h⟩
theorem Built.grp_perm (B : Built ys bs) {b : Bk} (hb : b ∈ bs) : (grp bs ys.length (mn b.2)).Perm b.2 :=
  (List.perm_ext_iff_of_nodup grp_nd (nd_of B.nd hb)).mpr fun x => B.mem_grp hb
theorem Built.roots_eq (B : Built ys bs) (hs : bs.Pairwise fun a b => mn a.2 < mn b.2) : roots bs ys.length = bs.map fun b => mn b.2 := by
  have s1 : (roots bs ys.length).Pairwise (· < ·) := List.Pairwise.filter _ List.pairwise_lt_range
  have s2 : (bs.map fun b => mn b.2).Pairwise (· < ·) := List.pairwise_map.mpr hs
  refine List.Perm.eq_of_pairwise (le := (· < ·)) (fun a b _ _ h1 h2 => by omega) s1 s2 ?_
  refine (List.perm_ext_iff_of_nodup (s1.imp fun h => by omega) (s2.imp fun h => by omega)).mpr fun x => ?_
  unfold roots
  rw [List.mem_filter, List.mem_range, decide_eq_true_eq, List.mem_map]
  constructor
  · rintro ⟨h1, h2⟩
    obtain ⟨b, hb, hx⟩ := B.of h1
    exact ⟨b, hb, by rw [← h2, B.beta_of hb hx]⟩
  · rintro ⟨b, hb, rfl⟩
    exact ⟨B.lt hb (mn_mem (B.ne hb)), B.mn_beta hb⟩
/-! ### one group's row -/
def path (b : Bk) : List Nat := if b.1 = 5 then b.2.take 3 else b.2
theorem filter_one {l : List Nat} {q : Nat → Bool} {x : Nat} (nd : l.Nodup) (hx : x ∈ l) (h1 : q x = true) (h2 : ∀ y ∈ l, q y = true → y = x) : l.filter q = [x] := by
  have nd2 := nodup_filter q nd
  have m : ∀ y, y ∈ l.filter q ↔ y = x := fun y => by
    rw [List.mem_filter]
    exact ⟨fun h => h2 y h.1 h.2, fun h => by rw [h]; exact ⟨hx, h1⟩⟩
  match hl : l.filter q with
  | [] => exact absurd ((m x).mpr rfl) (by rw [hl]; simp)
  | [a] => rw [(m a).mp (by rw [hl]; simp)]
  | a :: b :: r =>
    rw [hl] at nd2 m
    have ea := (m a).mp (by simp)
    have eb := (m b).mp (by simp)
    simp [ea, eb] at nd2
theorem mn_sing {a : Nat} : mn [a] = a := rfl
/-- the walk of a form -/
structure Walks (g : Nat → Nat) (p : List Nat) : Prop where
  pos : 0 < p.length
  nd : p.Nodup
  next : ∀ j, j + 1 < p.length → g (p.getD j 0) = p.getD (j + 1) 0
  back : g (p.getD (p.length - 1) 0) ∈ p
theorem Built.walks (B : Built ys bs) {b : Bk} (hb : b ∈ bs) : Walks (fun x => ys.getD x 0) (path b) := by
  have nd := nd_of B.nd hb
  have C := (B.blk b hb).cs
  obtain ⟨w, ms⟩ := b
  dsimp only at C nd
  unfold path
  dsimp only
  generalize (fun x => ys.getD x 0) = g at C
  cases C
  all_goals (simp at nd ⊢)
  all_goals (refine ⟨by simp, by simp; try simp [nd], fun j hj => ?_, by simp [*]⟩)
  all_goals (rcases j with _ | _ | _ | _ | j)
  all_goals first | (simp at hj; done) | (simp [*]; done) | (simp at hj ⊢; omega) | skip
theorem Built.left (B : Built ys bs) {b : Bk} (hb : b ∈ bs) : path b ++ (grp bs ys.length (mn b.2)).filter (fun x => !(path b).contains x) = b.2 := by
  have nd := nd_of B.nd hb
  have C := (B.blk b hb).cs
  have M : ∀ x, x ∈ grp bs ys.length (mn b.2) ↔ x ∈ b.2 := fun x => B.mem_grp hb
  have N : (grp bs ys.length (mn b.2)).Nodup := grp_nd
  generalize grp bs ys.length (mn b.2) = l at M N
  by_cases h5 : b.1 = 5
  · obtain ⟨w, ms⟩ := b
    dsimp only at h5 C nd M ⊢
    subst h5
    cases C
    rename_i d a b c h1 h2 h3 h4
    unfold path
    simp at nd ⊢
    rw [filter_one (x := c) N (by rw [M]; simp) (by simp; omega) fun y hy hq => ?_]
    rw [M] at hy
    simp at hy hq
    omega
  · unfold path
    rw [if_neg h5]
    have e : l.filter (fun x => !b.2.contains x) = [] := by
      rw [List.filter_eq_nil_iff]
      intro x hx
      have := (M x).mp hx
      simp [this]
    rw [e, List.append_nil]
/-- where the walk starts: at the first record that no other of the group shows, or at the first one -/
theorem Built.start (B : Built ys bs) {b : Bk} (hb : b ∈ bs) (K : Canon b) (T : List Nat)
    (hT : T = (grp bs ys.length (mn b.2)).filter (fun x => !((grp bs ys.length (mn b.2)).map fun y => ys.getD y 0).contains x)) :
    (T = [] → (grp bs ys.length (mn b.2)).head? = some (b.2.getD 0 0)) ∧ (T ≠ [] → T.head? = some (b.2.getD 0 0)) := by
  have nd := nd_of B.nd hb
  have C := (B.blk b hb).cs
  have M : ∀ x, x ∈ grp bs ys.length (mn b.2) ↔ x ∈ b.2 := fun x => B.mem_grp hb
  have sh : ∀ x, ((grp bs ys.length (mn b.2)).map fun y => ys.getD y 0).contains x = (b.2.map fun y => ys.getD y 0).contains x := fun x => by
    rw [Bool.eq_iff_iff, List.contains_iff_mem, List.contains_iff_mem, List.mem_map, List.mem_map]
    exact ⟨fun ⟨y, hy, e⟩ => ⟨y, (M y).mp hy, e⟩, fun ⟨y, hy, e⟩ => ⟨y, (M y).mpr hy, e⟩⟩
  have hT2 : T = (List.range ys.length).filter fun x => decide (beta bs x = mn b.2) && !(b.2.map fun y => ys.getD y 0).contains x := by
    rw [hT]
    unfold grp
    rw [List.filter_filter]
    refine List.filter_congr fun x hx => ?_
    have := sh x
    unfold grp at this
    rw [this, Bool.and_comm]
  have inB : ∀ x, x < ys.length → (decide (beta bs x = mn b.2) = true ↔ x ∈ b.2) := fun x hx => by
    rw [← M x]
    unfold grp
    rw [List.mem_filter, List.mem_range]
    exact ⟨fun h => ⟨hx, h⟩, fun h => h.2⟩
  have root : b.2.getD 0 0 = mn b.2 → (grp bs ys.length (mn b.2)).head? = some (b.2.getD 0 0) := fun e => by
    unfold grp
    rw [List.head?_filter, List.find?_range_eq_some, e]
    refine ⟨by rw [decide_eq_true_eq]; exact B.mn_beta hb, List.mem_range.mpr (B.lt hb (mn_mem (B.ne hb))), fun j hj => ?_⟩
    have hjn : j < ys.length := Nat.lt_trans hj (B.lt hb (mn_mem (B.ne hb)))
    have := B.beta_le hjn
    simp
    omega
  have tail : ∀ m0 : Nat, m0 ∈ b.2 → (b.2.map fun y => ys.getD y 0).contains m0 = false → (∀ j, j < m0 → j ∈ b.2 → (b.2.map fun y => ys.getD y 0).contains j = true) → T.head? = some m0 := fun m0 h1 h2 h3 => by
    rw [hT2, List.head?_filter, List.find?_range_eq_some]
    refine ⟨by rw [h2, (inB m0 (B.lt hb h1)).mpr h1]; rfl, List.mem_range.mpr (B.lt hb h1), fun j hj => ?_⟩
    have hjn : j < ys.length := Nat.lt_trans hj (B.lt hb h1)
    by_cases hjb : j ∈ b.2
    · rw [h3 j hj hjb]
      simp
    · have : decide (beta bs j = mn b.2) = false := by
        cases h : decide (beta bs j = mn b.2) with
        | false => rfl
        | true => exact absurd ((inB j hjn).mp h) hjb
      rw [this]
      rfl
  have none : (∀ x ∈ b.2, (b.2.map fun y => ys.getD y 0).contains x = true) → T = [] := fun h => by
    rw [hT2, List.filter_eq_nil_iff]
    intro x hx
    have hxn := List.mem_range.mp hx
    by_cases hxb : x ∈ b.2
    · rw [h x hxb]
      simp
    · intro z
      rw [Bool.and_eq_true] at z
      exact hxb ((inB x hxn).mp z.1)
  obtain ⟨w, ms⟩ := b
  dsimp only at *
  generalize hg : (fun y => ys.getD y 0) = g at C tail none
  clear hT hT2 sh
  cases C with
  | free a h1 =>
    have t := none (by simp [h1])
    exact ⟨fun _ => root rfl, fun h => absurd t h⟩
  | pair a b h1 h2 =>
    have t := none (by simp [h1, h2])
    have := K.pair rfl
    simp at this
    exact ⟨fun _ => root (by simp [mn]; omega), fun h => absurd t h⟩
  | wheel a b c d h1 h2 h3 h4 =>
    have t := none (by simp [h1, h2, h3, h4])
    exact ⟨fun _ => root (K.wheel rfl), fun h => absurd t h⟩
  | claim a b h1 h2 =>
    simp at nd
    have t := tail a (by simp) (by simp [h1, h2]; omega) (fun j hj hm => by simp at hm; simp [h1, h2]; omega)
    exact ⟨fun h => (by rw [h] at t; simp at t), fun _ => t⟩
  | hook c a b h1 h2 h3 =>
    simp at nd
    have t := tail c (by simp) (by simp [h1, h2, h3]; omega) (fun j hj hm => by simp at hm; simp [h1, h2, h3]; omega)
    exact ⟨fun h => (by rw [h] at t; simp at t), fun _ => t⟩
  | relay c a b h1 h2 h3 =>
    simp at nd
    have t := tail c (by simp) (by simp [h1, h2, h3]; omega) (fun j hj hm => by simp at hm; simp [h1, h2, h3]; omega)
    exact ⟨fun h => (by rw [h] at t; simp at t), fun _ => t⟩
  | clamp d a b c h1 h2 h3 h4 =>
    simp at nd
    have kk := K.clamp rfl
    simp at kk
    have t := tail d (by simp) (by simp [h1, h2, h3, h4]; omega) (fun j hj hm => by simp at hm; simp [h1, h2, h3, h4]; omega)
    exact ⟨fun h => (by rw [h] at t; simp at t), fun _ => t⟩
  | trail d c a b h1 h2 h3 h4 =>
    simp at nd
    have t := tail d (by simp) (by simp [h1, h2, h3, h4]; omega) (fun j hj hm => by simp at hm; simp [h1, h2, h3, h4]; omega)
    exact ⟨fun h => (by rw [h] at t; simp at t), fun _ => t⟩
end
end Pm

namespace L2
open PySem PySem.Spec PyProof.Rows
/-! ### a table of the text keyed by tuples of ints -/
def numK (ks : List Nat) : NestedKey := .tup (ks.map fun k : Nat => NestedKey.num (k : Int))
/-- at a, in the written part: a table of the given keys and texts -/
def TabK (P : Program) (w : World) (K : PySem.W.Frag) (a : Addr) (kvs : List (List Nat × Str)) : Prop := (a == sysModules) = false ∧
  ∃ ts : List Tok, ∀ h : Heap, K.In h → h.DictKeyed (nestedKind P w) a ((kvs.zip ts).map fun x => (numK x.1.1, Value.str x.1.2 x.2)) ∧ ts.length = kvs.length
theorem numK_depth : ∀ ks : List Nat, (numK ks).depth ≤ 8 := fun ks => by
  have h : ∀ l : List Nat, NestedKey.depthAll (l.map fun k : Nat => NestedKey.num (k : Int)) ≤ 1 := fun l => by
    induction l with
    | nil => simp [NestedKey.depthAll]
    | cons a l ih =>
      simp only [List.map_cons, NestedKey.depthAll, NestedKey.depth]
      omega
  have := h ks
  unfold numK
  simp only [NestedKey.depth]
  omega
theorem numAll_of {h : Heap} : ∀ {ks : List Nat} {us : List Value}, Vals (ks.map fun k : Nat => V.int (k : Int)) us → NestedAll h (ks.map fun k : Nat => NestedKey.num (k : Int)) us
  | [], _, r => by cases r; exact .nil
  | k :: ks, _, r => by
    cases r with
    | cons r1 r2 =>
      obtain ⟨t, e⟩ := r1
      rw [e]
      exact .cons (.int _ t) (numAll_of r2)
/-- d.get(t) of such a table, the key there -/
def tTabGet (P : Program) (w : World) (K : PySem.W.Frag) (td te : TE) : TE := fun σ H Q => td σ H fun x H1 => ∃ (a : Addr) (kvs : List (List Nat × Str)), x = .ref a ∧ TabK P w K a kvs ∧ te σ H1 fun y H2 => ∃ (p : Addr) (ks : List Nat) (z : Str), y = .ref p ∧ H2 p = some (.tup (ks.map fun k : Nat => V.int (k : Int))) ∧
  (∃ i, kvs[i]? = some (ks, z) ∧ ∀ (j : Nat) (q : List Nat × Str), j < i → kvs[j]? = some q → q.1 ≠ ks) ∧ Q (.str z) H2
theorem numK_inj {a b : List Nat} (h : numK a = numK b) : a = b := by
  unfold numK at h
  injection h with h
  have g : ∀ {l m : List Nat}, (l.map fun k : Nat => NestedKey.num (k : Int)) = (m.map fun k : Nat => NestedKey.num (k : Int)) → l = m := by
    intro l
    induction l with
    | nil =>
      intro m e
      cases m with
      | nil => rfl
      | cons _ _ => cases e
    | cons a l ih =>
      intro m e
      cases m with
      | nil => cases e
      | cons b m =>
        rw [List.map_cons, List.map_cons] at e
        injection e with e1 e2
        injection e1 with e1
        have : a = b := by omega
        rw [this, ih e2]
  exact g h
theorem tab_find {ks : List Nat} {z : Str} : ∀ {kvs : List (List Nat × Str)} {ts : List Tok} {i : Nat}, ts.length = kvs.length → kvs[i]? = some (ks, z) → (∀ (j : Nat) (q : List Nat × Str), j < i → kvs[j]? = some q → q.1 ≠ ks) →
    ∃ t : Tok, valueAt ((kvs.zip ts).map fun x => (numK x.1.1, Value.str x.1.2 x.2)) (numK ks) = some (Value.str z t)
  | [], _, i, _, h, _ => by simp at h
  | _ :: _, [], _, hl, _, _ => by simp at hl
  | (k0, z0) :: kvs, t0 :: ts, 0, _, h, _ => by
    have e := Option.some.inj h
    cases e
    exact ⟨t0, by simp [valueAt]⟩
  | (k0, z0) :: kvs, t0 :: ts, i + 1, hl, h, hn => by
    have ne : k0 ≠ ks := hn 0 (k0, z0) (Nat.succ_pos _) rfl
    have ne2 : ¬ numK k0 = numK ks := fun e => ne (numK_inj e)
    obtain ⟨t, e⟩ := tab_find (ks := ks) (z := z) (kvs := kvs) (ts := ts) (i := i) (by simpa using hl) (by simpa using h) fun j q hj hq => hn (j + 1) q (by omega) (by simpa using hq)
    refine ⟨t, ?_⟩
    unfold valueAt at e ⊢
    rw [List.zip_cons_cons, List.map_cons, List.find?_cons_of_neg (by simpa using ne2)]
    exact e
theorem pe_tabGet {X : Cx} {o e : Expr} {td te : TE} {apos cpos : Pos} (hu : X.A.units + 64 < cLine) (ho : PE X o td) (he : PE X e te) (m : M1 X o "get" apos e cpos) : PE X (.Call (.Attribute o "get" apos) [e] [] cpos) (tTabGet X.prog X.w X.K td te) := by
  refine ⟨fun pins s σ H Q I h => ?_⟩
  refine wpAny_Call_method m.base m.few m.line PySem.F.plainAttrs_dict PySem.F.slot_dict_get PySem.F.type_dict_get (thn (ho.run pins s σ H _ I h) fun u s1 ⟨x, H1, I1, rx, a, kvs, ex, ⟨hsm, ts, hT⟩, q1⟩ => ?_)
  subst ex
  obtain rfl : u = Value.ref a := rx
  obtain ⟨hD, _⟩ := hT _ I1.kIn
  have hD' := hD
  obtain ⟨xs, ⟨ob, es, ep, hob, hcl, hdat, _⟩, _⟩ := hD'
  refine ⟨hD.typeIs, fun b q => by cases q; exact ⟨ob, hob, hcl.2.1⟩, ?_⟩
  rw [m.trees]
  refine Calls.callWith_builtin rfl (Calls.evalArgs_plain (Calls.spliced_cons (thn (he.run pins s1 σ H1 _ I1 q1) fun iv s2 ⟨y, H2, I2, ry, p, ks, z, ey, hp, ⟨i, hi, hlt⟩, q2⟩ => Calls.spliced_nil ?_)))
  subst ey
  obtain rfl : iv = Value.ref p := ry
  obtain ⟨_, its, rv, ot, h1, h2, n, h3⟩ := (show ObjOk X.prog X.w H2 s2.heap p (.tup (ks.map fun k : Nat => V.int (k : Int))) from I2.hok p _ hp)
  obtain ⟨hD2, hlen⟩ := hT _ I2.kIn
  obtain ⟨t, ht⟩ := tab_find hlen hi hlt
  have hk : (nestedKind X.prog X.w).is s2.heap (numK ks) p := ⟨.tup h1 h2 h3 (by simpa using numAll_of (h := s2.heap) rv), numK_depth ks⟩
  refine get_keyed (knd := nestedKind X.prog X.w) (show X.A.in1.units + 8 < cLine by show X.A.units + 1 + 8 < cLine; omega) hk hsm hD2 ?_
  rw [ht]
  exact ⟨.str z, H2, I2.tok _, ⟨t, rfl⟩, q2⟩
/-! ### list(d.values()), list(d.keys()) -/
def tListVals (te : TE) : TE := fun σ H Q => te σ H fun x H1 => ∃ (d : Addr) (kvs : List (Key × V)), x = .ref d ∧ H1 d = some (.dK kvs) ∧ ∀ p, H1 p = none → Q (.ref p) (upd H1 p (.lst (kvs.map (·.2))))
def tListKeys (te : TE) : TE := fun σ H Q => te σ H fun x H1 => ∃ (d : Addr) (kvs : List (Key × V)), x = .ref d ∧ H1 d = some (.dK kvs) ∧ ∀ p, H1 p = none → Q (.ref p) (upd H1 p (.lst (kvs.map fun kv => kV kv.1)))
theorem vals_items {P : Nat → Value → Prop} : ∀ {xs : List V} {us : List Value} (k : Nat), us.length = xs.length → (∀ j v, us[j]? = some v → P (k + j) v) → (∀ j x v, xs[j]? = some x → P (k + j) v → RelV x v) → Vals xs us
  | [], [], _, _, _, _ => .nil
  | [], _ :: _, _, h, _, _ => by simp at h
  | _ :: _, [], _, h, _, _ => by simp at h
  | x :: xs, u :: us, k, h, h1, h2 => .cons (h2 0 x u rfl (h1 0 u rfl)) (vals_items (P := P) (k + 1) (by simpa using h) (fun j v e => by
      have := h1 (j + 1) v (by simpa using e)
      rw [show k + (j + 1) = k + 1 + j by omega] at this
      exact this) fun j y v e p => h2 (j + 1) y v (by simpa using e) (by rw [show k + (j + 1) = k + 1 + j by omega]; exact p))
section
variable {X : Cx} {e : Expr} {te : TE} {p apos cpos pos : Pos}
theorem pe_listVals (hc : X.calm = true) (he : PE X e te) (hg : Gl X "list") (hm : X.mg "list" = none) (hbase : attributeBase e "values" X.env (eval e X.env) = eval e X.env := by rfl) (hline : (apos.endLine == cpos.line) = true := by rfl)
    (hs : starEach [.Call (.Attribute e "values" apos) [] [] cpos] X.env = (false, eval (.Call (.Attribute e "values" apos) [] [] cpos) X.env) :: starEach [] X.env := by rfl) :
    PE X (.Call (.Name "list" p) [.Call (.Attribute e "values" apos) [] [] cpos] [] pos) (tListVals te) := by
  refine ⟨fun pins s σ H Q I hq => ?_⟩
  refine wpAny_Call_Name_kw (ld_blt I hg hm (by decide +kernel : bootBuiltins "list" = some (.type "list")) ?_)
  refine PyProof.Rows.callWith_type1 ?_ hs rfl
  rw [hs]
  show wpAny _ _ (spliced ((false, eval (.Call (.Attribute e "values" apos) [] [] cpos) X.env) :: backTo pos (starEach [] X.env))) _ _ s
  refine Calls.spliced_cons ?_
  refine wpAny_Call_method (T := "dict") (id := "dict.values") hbase rfl hline F.plainAttrs_dict F.slot_dict_values F.type_dict_values (thn (he.run pins s σ H _ I hq) fun u s1 ⟨x, H1, I1, rx, d, kvs, ex, hd, q⟩ => ?_)
  subst ex
  obtain rfl : u = Value.ref d := rx
  obtain ⟨hz, hs0, vs, kv, hdo⟩ := I1.hok d _ hd
  obtain ⟨ep, hat⟩ := hdo.dictAt
  have lk : kvs.length = vs.length := Paired.length kv
  refine ⟨hdo.typeIs, hdo.mapOf.noDict, ?_⟩
  show wpAny _ _ (callWith cpos (.builtin "dict.values") [.ref d] [] []) _ X.xe s1
  refine method_meetsIn F.slot_dict_values F.entry_dict_values rfl (PySem.evalArgs_none ⟨rfl, hdo.typeIs, F.args_dict_values_1 _, _, meets_dict_values (mixKind X.prog X.w) d hs0, ⟨vs, hdo⟩, ?_⟩)
  refine Calls.spliced_nil ?_
  refine PySem.W.kdl_call (PySem.W.kdl_values (knd := mixKind X.prog X.w) (kvs := vs) (ep := ep) (r := s1.heap.objs.size)) (I1.ok.hd hc) ⟨⟨_, Heap.get?_push_size _ rfl, rfl, rfl⟩, hat.push _⟩ (by omega) fun h' tk acc c hk hS hI => ?_
  have keep : ∀ b o, s1.heap.get? b = some o → h'.get? b = some o := fun b o z => hk b o (Heap.get?_push_of_some _ z)
  have hl : acc.toList.length = (kvs.map (·.2)).length := by rw [Array.length_toList, List.length_map, hI.1]; omega
  have rv : Vals (kvs.map (·.2)) acc.toList := vals_items (P := fun i v => ∃ k, vs[i]? = some (k, v)) 0 hl (fun j v z => by rw [Nat.zero_add]; exact hI.2 j v (by rw [← Array.getElem?_toList]; exact z)) fun j y v z ⟨k, w'⟩ => by
    rw [Nat.zero_add] at w'
    obtain ⟨q0, g1, g2⟩ : ∃ q0, kvs[j]? = some q0 ∧ y = q0.2 := by
      rw [List.getElem?_map] at z
      cases h : kvs[j]? with
      | none => rw [h] at z; cases z
      | some q0 => rw [h] at z; exact ⟨q0, rfl, (Option.some.inj z).symm⟩
    obtain ⟨pk, e2, e3⟩ := LiI.paired_get kv g1
    rw [w'] at e2
    cases e2
    rw [g2]
    exact e3.2
  refine ⟨.ref _, upd H1 _ (.lst (kvs.map (·.2))), I1.laid (t' := tk) keep (Nat.le_succ _ |> fun z => by rw [Heap.size_push]; exact z) ⟨by rw [List.length_map]; omega, acc.toList, c, rv, by simpa using hS⟩, rfl, q _ (I1.hok.fresh (by rw [Heap.size_push]; exact Nat.le_succ _))⟩
theorem pe_listKeys (hc : X.calm = true) (he : PE X e te) (hg : Gl X "list") (hm : X.mg "list" = none) (hbase : attributeBase e "keys" X.env (eval e X.env) = eval e X.env := by rfl) (hline : (apos.endLine == cpos.line) = true := by rfl)
    (hs : starEach [.Call (.Attribute e "keys" apos) [] [] cpos] X.env = (false, eval (.Call (.Attribute e "keys" apos) [] [] cpos) X.env) :: starEach [] X.env := by rfl) :
    PE X (.Call (.Name "list" p) [.Call (.Attribute e "keys" apos) [] [] cpos] [] pos) (tListKeys te) := by
  refine ⟨fun pins s σ H Q I hq => ?_⟩
  refine wpAny_Call_Name_kw (ld_blt I hg hm (by decide +kernel : bootBuiltins "list" = some (.type "list")) ?_)
  refine PyProof.Rows.callWith_type1 ?_ hs rfl
  rw [hs]
  show wpAny _ _ (spliced ((false, eval (.Call (.Attribute e "keys" apos) [] [] cpos) X.env) :: backTo pos (starEach [] X.env))) _ _ s
  refine Calls.spliced_cons ?_
  refine wpAny_Call_method (T := "dict") (id := "dict.keys") hbase rfl hline F.plainAttrs_dict F.slot_dict_keys F.type_dict_keys (thn (he.run pins s σ H _ I hq) fun u s1 ⟨x, H1, I1, rx, d, kvs, ex, hd, q⟩ => ?_)
  subst ex
  obtain rfl : u = Value.ref d := rx
  obtain ⟨hz, hs0, vs, kv, hdo⟩ := I1.hok d _ hd
  obtain ⟨ep, hat⟩ := hdo.dictAt
  have lk : kvs.length = vs.length := Paired.length kv
  refine ⟨hdo.typeIs, hdo.mapOf.noDict, ?_⟩
  show wpAny _ _ (callWith cpos (.builtin "dict.keys") [.ref d] [] []) _ X.xe s1
  refine method_meetsIn F.slot_dict_keys F.entry_dict_keys rfl (PySem.evalArgs_none ⟨rfl, hdo.typeIs, F.args_dict_keys_1 _, _, PySem.W.kdl_meets_keys (mixKind X.prog X.w) d hs0, ⟨vs, hdo⟩, ?_⟩)
  refine Calls.spliced_nil ?_
  refine PySem.W.kdl_call (PySem.W.kdl_keys (knd := mixKind X.prog X.w) (kvs := vs) (ep := ep) (r := s1.heap.objs.size)) (I1.ok.hd hc) ⟨⟨_, Heap.get?_push_size _ rfl, rfl, rfl⟩, hat.push _⟩ (by omega) fun h' tk acc c hk hS hI => ?_
  have keep : ∀ b o, s1.heap.get? b = some o → h'.get? b = some o := fun b o z => hk b o (Heap.get?_push_of_some _ z)
  have hl : acc.toList.length = (kvs.map fun kv => kV kv.1).length := by rw [Array.length_toList, List.length_map, hI.1]; omega
  have rv : Vals (kvs.map fun kv => kV kv.1) acc.toList := vals_items (P := fun i v => ∃ k x, vs[i]? = some (k, x) ∧ (mixKind X.prog X.w).is k v = true) 0 hl (fun j v z => by rw [Nat.zero_add]; exact hI.2 j v (by rw [← Array.getElem?_toList]; exact z)) fun j y v z ⟨k, x, w', w2⟩ => by
    rw [Nat.zero_add] at w'
    obtain ⟨q0, g1, g2⟩ : ∃ q0, kvs[j]? = some q0 ∧ y = kV q0.1 := by
      rw [List.getElem?_map] at z
      cases h : kvs[j]? with
      | none => rw [h] at z; cases z
      | some q0 => rw [h] at z; exact ⟨q0, rfl, (Option.some.inj z).symm⟩
    obtain ⟨pk, e2, e3⟩ := LiI.paired_get kv g1
    rw [w'] at e2
    cases e2
    rw [g2]
    rw [e3.1]
    exact relV_key (show keyIs k v = true from w2)
  refine ⟨.ref _, upd H1 _ (.lst (kvs.map fun kv => kV kv.1)), I1.laid (t' := tk) keep (Nat.le_succ _ |> fun z => by rw [Heap.size_push]; exact z) ⟨by rw [List.length_map]; omega, acc.toList, c, rv, by simpa using hS⟩, rfl, q _ (I1.hok.fresh (by rw [Heap.size_push]; exact Nat.le_succ _))⟩
end
end L2

namespace SrtO
open PySem PyProof.Rows PySem.W
/-- a tuple of two ints and an object -/
def IsRow (h : Heap) (v : Value) (x : Int) : Prop := ∃ a o t y u c n, v = .ref a ∧ h.get? a = some o ∧ o.cls = .type "tuple" ∧ o.data = .seq #[.int x t, .int y u, .ref c] n
theorem IsRow.keeps {h h' : Heap} {v : Value} {x : Int} (p : IsRow h v x) (k : ∀ b o, h.get? b = some o → o.cls = .type "tuple" → h'.get? b = some o) : IsRow h' v x := by
  obtain ⟨a, o, t, y, u, c, n, e, ho, hc, hd⟩ := p
  exact ⟨a, o, t, y, u, c, n, e, k _ _ ho hc, hc, hd⟩
theorem row_firsts {h : Heap} : ∀ {vs : List Value}, (∀ v ∈ vs, ∃ x, IsRow h v x) → ∃ fs : List Value, PySem.W.KatTups h vs fs ∧ fs.length = vs.length ∧ ∀ f ∈ fs, ∃ x t, f = Value.int x t
  | [], _ => ⟨[], PySem.W.KatTups.nil, rfl, fun _ hm => by simp at hm⟩
  | v :: vs, hv => by
    obtain ⟨fs, h1, h2, h3⟩ := row_firsts (h := h) (vs := vs) fun w hw => hv w (List.mem_cons_of_mem _ hw)
    obtain ⟨x, a, o, t, y, u, c, n, e, ho, hc, hd⟩ := hv v List.mem_cons_self
    subst e
    refine ⟨.int x t :: fs, .cons ho hc hd rfl h1, by simp [h2], fun f hf => ?_⟩
    rcases List.mem_cons.mp hf with e | hf
    · exact ⟨x, t, e⟩
    · exact h3 f hf
theorem swo_key (k : Value → Int) : Swo fun v u => decide (k v < k u) := by
  refine ⟨fun x y h => ?_, fun x y z h1 h2 => ?_⟩
  · have a := of_decide_eq_true h
    exact decide_eq_false (by omega)
  · have a := of_decide_eq_false h1
    have b := of_decide_eq_false h2
    exact decide_eq_false (by omega)
section
variable {prog : Program} {w : World} {A : Around} {E : Value → Shared → Prop} {s : Shared}
theorem row_cmp {vs : List Value} {k : Value → Int} (hp : ∀ v ∈ vs, IsRow s.heap v (k v)) (hi : ∀ v ∈ vs, ∀ u ∈ vs, k v = k u → v = u) : Cmp prog w A s (tuples' true) (fun p => p.1 ∈ vs) (lt2 fun v u => decide (k v < k u)) := by
  intro p q hm hm'
  have h1 := hp _ hm
  have h2 := hp _ hm'
  have h3 := hi _ hm _ hm'
  show wpAny (model prog w) A (keyLt' (tuples' true) p.1 q.1) (fun r s' => s' = s ∧ r = decide (k p.1 < k q.1)) (fun _ _ => False) s
  generalize k p.1 = x at h1 h3 ⊢
  generalize k q.1 = x' at h2 h3 ⊢
  obtain ⟨a, o, t, y, u, c, n, e, ho, hc, hd⟩ := h1
  obtain ⟨a', o', t', y', u', c', n', e', ho', hc', hd'⟩ := h2
  rw [e, e'] at h3 ⊢
  refine PySem.W.kat_lt ho hd ho' hd' ?_
  show PySem.W.KatLex prog w A true (decide (3 < 3)) _ [(.int x t, .int x' t'), (.int y u, .int y' u'), (.ref c, .ref c')] 0 s
  refine PySem.W.kat_cons (SeqAt.EqAt.int_int x t x' t' prog w _ _ ?_)
  refine PySem.W.kat_go (fun e1 => ?_) (fun e1 => ?_)
  · have ex : x = x' := by simpa using e1
    have ea : a = a' := Value.ref.inj (h3 ex)
    subst ea
    rw [ho] at ho'
    have eo := Option.some.inj ho'
    subst eo
    rw [hd] at hd'
    injection hd' with ed _
    have ey : y = y' := by
      have z := congrArg (fun a : Array Value => a[1]?) ed
      simp at z
      exact z.1
    have ec : c = c' := by
      have z := congrArg (fun a : Array Value => a[2]?) ed
      simpa using z
    subst ec
    refine PySem.W.kat_yes (PySem.W.kat_cons (SeqAt.EqAt.int_int y u y' u' prog w _ _ ?_))
    refine PySem.W.kat_go (fun e2 => ?_) (fun e2 => ?_)
    · refine PySem.W.kat_yes (PySem.W.kat_cons (SeqAt.EqAt.same (.ref c) prog w _ _ ?_))
      refine PySem.W.kat_go (fun _ => ?_) (fun z => nomatch z)
      refine PySem.W.kat_yes (PySem.W.kat_nil ⟨rfl, ?_⟩)
      rw [ex]
      exact (decide_eq_false (by omega)).symm
    · exact absurd ey (by simpa using e2)
  · have ex : ¬ x = x' := by simpa using e1
    exact PySem.W.kat_no (oneLt_int ⟨rfl, rfl⟩)
theorem rows_sortableO {a : Addr} {vs : List Value} {k : Value → Int} (h0 : 0 < vs.length) (hp : ∀ v ∈ vs, IsRow s.heap v (k v)) (hi : ∀ v ∈ vs, ∀ u ∈ vs, k v = k u → v = u) (ha : ∀ o, s.heap.get? a = some o → o.cls ≠ .type "tuple") : SortableO prog w A s a vs fun v u => decide (k v < k u) := by
  intro h' keep
  have hp' : ∀ v ∈ vs, IsRow h' v (k v) := fun v hm => (hp v hm).keeps fun b o e c => keep b o (fun z => by subst z; exact ha o e c) e
  obtain ⟨fs, h1, h2, h3⟩ := row_firsts fun v hm => ⟨_, hp' v hm⟩
  refine ⟨tuples' true, fun Q E hq => ?_, row_cmp hp' hi⟩
  refine PySem.W.kat_kind (T := .type "int") h1 (by omega) (fun f hm => ?_) (by rfl) ?_
  · obtain ⟨x, t, rfl⟩ := h3 f hm
    exact PySem.W.Looks.now
  · have e : (Value.type "int" != Value.type "tuple") = true := by first | decide +kernel | rfl | decide
    rw [e]
    exact hq
theorem sorted_rowsO {l : Addr} {vs : List Value} {k : Value → Int} {Q : Value → Shared → Prop} (hl : s.heap.IsList l vs.toArray) (hz : vs.length ≤ sizeLine) (hp : ∀ v ∈ vs, IsRow s.heap v (k v)) (hi : ∀ v ∈ vs, ∀ u ∈ vs, k v = k u → v = u)
    (h : ∀ (h' : Heap) (d : Addr) (out : List Value), Srtd (fun v u => decide (k v < k u)) out → Stb (fun v u => decide (k v < k u)) out vs → (∀ b o, s.heap.get? b = some o → h'.get? b = some o) → s.heap.objs.size ≤ d → (∃ n, h'.get? d = some (seqObj "list" out.toArray n)) → Q (.ref d) { s with heap := h' }) :
    wpAny (model prog w) A (call (.builtin "sorted") [.ref l]) Q E s := by
  refine sorted_ord (swo_key k) hl hz (fun h2 h₁ a ha kk => ?_) fun out hs hb => ?_
  · refine rows_sortableO (s := { s with heap := h₁ }) (by omega) (fun v hm => (hp v hm).keeps fun b o e _ => (kk b o e).2) hi fun o e => ?_
    have e' : some o = some (seqObj "list" vs.toArray 0) := e.symm.trans ha
    cases e'
    intro c
    exact absurd (Value.type.inj c) (by decide)
  · exact h _ _ out hs hb (fun b o e => sortedAll_old e) (Nat.le_succ _) (sortedAll_at s.heap vs out.toArray)
end
end SrtO
namespace L2
open PySem PySem.Spec PyProof.Rows
def rSortedR (K : PySem.W.Frag) : List V → Hp → VK → Prop := fun vs H Q => ∃ (a : Addr) (rs : List Addr) (k : Addr → Int), vs = [V.ref a] ∧ SqL K H a (rs.map V.ref) ∧ (∀ r ∈ rs, ∃ (y : Int) (c : Addr), H r = some (.tup [.int (k r), .int y, .ref c])) ∧
  (∀ r ∈ rs, ∀ r' ∈ rs, k r = k r' → r = r') ∧ ∀ (rs' : List Addr) (p : Addr), rs'.Perm rs → rs'.Pairwise (fun a b => k a ≤ k b) → H p = none → Q (.ref p) (upd H p (.lst (rs'.map V.ref)))
theorem vals_refs_eq : ∀ {rs : List Addr} {us : List Value}, Vals (rs.map V.ref) us → us = rs.map Value.ref
  | [], _, r => by cases r; rfl
  | a :: rs, _, r => by
    cases r with
    | cons r1 r2 =>
      rw [vals_refs_eq r2]
      cases r1
      rfl
def addrV : Value → Addr
  | .ref a => a
  | _ => 0
theorem cr_sortedR {X : Cx} : CallR X (.builtin "sorted") (rSortedR X.K) := by
  intro pins s σ H vs us Q I r h
  obtain ⟨a, rs, k, rfl, hs, hx, hi, q⟩ := h
  obtain ⟨its, rv, hl, hz⟩ := I.list hs
  obtain ⟨u, rfl, ru⟩ := vals1 r
  obtain rfl : u = Value.ref a := ru
  have ei := vals_refs_eq rv
  subst ei
  refine SrtO.sorted_rowsO (k := fun u => k (addrV u)) hl.isList (by rw [List.length_map] at *; exact hz) (fun v hv => ?_) (fun v hv u hu e => ?_) fun h' d out h1 h2 kp hd hn => ?_
  · obtain ⟨t, ht, rfl⟩ := List.mem_map.mp hv
    obtain ⟨y, c, e⟩ := hx t ht
    obtain ⟨_, its2, r2, o, ho, hc, n, hdt⟩ := (show ObjOk X.prog X.w H s.heap t (.tup [.int (k t), .int y, .ref c]) from I.hok _ _ e)
    cases r2 with
    | cons a1 r2 =>
      cases r2 with
      | cons a2 r2 =>
        cases r2 with
        | cons a3 r2 =>
          cases r2
          obtain ⟨t1, rfl⟩ := a1
          obtain ⟨t2, rfl⟩ := a2
          cases a3
          exact ⟨t, o, t1, y, t2, c, n, rfl, ho, hc, hdt⟩
  · obtain ⟨t, ht, rfl⟩ := List.mem_map.mp hv
    obtain ⟨t', ht', rfl⟩ := List.mem_map.mp hu
    rw [hi t ht t' ht' e]
  · obtain ⟨n, hn⟩ := hn
    have hp := h2.perm
    have eo : out = (out.map addrV).map Value.ref := by
      rw [List.map_map]
      have : ∀ u ∈ out, Value.ref (addrV u) = u := fun u hu => by
        obtain ⟨t, _, rfl⟩ := List.mem_map.mp (hp.mem_iff.mp hu)
        rfl
      conv => lhs; rw [← List.map_id out]
      exact List.map_congr_left fun u hu => (this u hu).symm
    have hp2 : (out.map addrV).Perm rs := by
      have z := hp.map addrV
      rw [List.map_map] at z
      have id : (rs.map (addrV ∘ Value.ref)) = rs := by
        conv => rhs; rw [← List.map_id rs]
        rfl
      rw [id] at z
      exact z
    have hs2 : (out.map addrV).Pairwise (fun a b => k a ≤ k b) := by
      rw [List.pairwise_map]
      refine List.Pairwise.imp (fun {a b} h => ?_) h1
      have := of_decide_eq_false h
      omega
    refine ⟨.ref d, upd H d (.lst ((out.map addrV).map V.ref)), I.laid (t' := s.toks) kp hd ⟨?_, out, n, ?_, hn⟩, rfl, q _ d hp2 hs2 (I.hok.fresh hd)⟩
    · rw [List.length_map, hp2.length_eq]
      rw [List.length_map] at hz
      exact hz
    · rw [eo]
      have g : ∀ l : List Addr, Vals (l.map V.ref) (l.map Value.ref) := fun l => by
        induction l with
        | nil => exact .nil
        | cons a l ih => exact .cons rfl ih
      rw [← eo]
      conv => arg 2; rw [eo]
      exact g _
/-- list.index within a comprehension -/
theorem pe_indexK {X : Cx} {K : PySem.W.Frag} (h : X.K = K) {o e : Expr} {to te : TE} {apos cpos : Pos} (p : PE X (.Call (.Attribute o "index" apos) [e] [] cpos) (tBM X.K "list" (rIndex X.K) to (tCons te tNil))) : PE X (.Call (.Attribute o "index" apos) [e] [] cpos) (tBM K "list" (rIndex K) to (tCons te tNil)) := by
  subst h
  exact p
theorem op_notInK {X : Cx} {K : PySem.W.Frag} (h : X.K = K) : OpR X (compareOp .NotIn) (rIn K true) := by
  subst h
  exact op_notIn_seq
end L2

namespace L2
open PySem PySem.Spec PyProof.Rows
section
variable {X : Cx}
/-- a name of the def's own, on the line of the comprehension: stored within its frame -/
theorem swd_true {kx vx : Expr} {gs : List Comprehension} {scope : Scope} {pos py : Pos} {y : Str} {l : Nat} {env : Env} (e1 : env.scope.kind = .function) (e2 : env.scope.names.lookup y = some .local) (e3 : (py.line == pos.line) = true)
    (e4 : (scope.names.any fun (n, k) => n == y && (k == .local || k == .cell)) = false) : swapsWith (.DictComp kx vx gs scope pos) (some (.Name y py)) l env = pure true := by
  have a1 : env.kindOf y = some .local := e2
  have a2 : env.blockKind = .function := (by unfold Env.blockKind; rw [e1]; rfl)
  unfold swapsWith
  simp only [a2, a1, e4, Expr.pos, e3]
  rfl
/-- y = {k: v for x in xs} -/
theorem ps_setDc {i : Nat} {y : Str} {py pos spos : Pos} {kx vx tg iter : Expr} {ifs : List Expr} {scope : Scope} {own : List (Str × Nat)} {wi : TI} {g : TG} {tt : TT} {tk tv : TE} (calm : X.calm = true) (nd : X.N.Nodup) (at_y : X.N[i]? = some y) (loc : X.env.scope.names.lookup y = some .local)
    (sw : swapsWith (.DictComp kx vx [⟨tg, iter, ifs, 0⟩] scope pos) (some (.Name y py)) spos.line X.env = pure true) (walk : PI X tg iter wi) (ok : BlkOk X.N X.env.scope scope own)
    (rg : ∀ (s : Shared) (H : Hp) (C : Addr) (cl : List (Str × Addr)) (fp : List Addr), PG (X.blk s H scope (compEnvC scope cl C X.env) fp) tg g)
    (rt : ∀ (s : Shared) (H : Hp) (C : Addr) (cl : List (Str × Addr)) (fp : List Addr), PTs (X.blk s H scope (compEnvC scope cl C X.env) fp) ifs tt)
    (rk : ∀ (s : Shared) (H : Hp) (C : Addr) (cl : List (Str × Addr)) (fp : List Addr), PE (X.blk s H scope (compEnvC scope cl C X.env) fp) kx tk)
    (rv : ∀ (s : Shared) (H : Hp) (C : Addr) (cl : List (Str × Addr)) (fp : List Addr), PE (X.blk s H scope (compEnvC scope cl C X.env) fp) vx tv)
    (fold : ∀ x, foldedSetIterable iter X.env x = pure x := by intro _; rfl) :
    PS X (.Assign [.Name y py] (.DictComp kx vx [⟨tg, iter, ifs, 0⟩] scope pos) spos) (tAsg (tDc wi g tt tk tv (own.map (·.2))) (gName i)) := by
  constructor
  intro pins s σ H D I q
  have q : tDc wi g tt tk tv (own.map (·.2)) σ H (fun x H1 => gName i x σ H1 D.nx) := q
  rw [exec_Assign_Name_used _ _ _ _ sw]
  apply wpAny_bind
  apply wpAny_standAt
  apply wpAny_bind
  show wpAny _ X.A (do let _ ← comprehension (.DictComp kx vx [⟨tg, iter, ifs, 0⟩] scope pos) scope X.env (firstIterPos [⟨tg, iter, ifs, 0⟩] pos) newDict false (eval iter X.env) (some (assign (.Name y py) X.env))) _ _ s
  apply wpAny_bind
  refine thn (dc_core (Qf := fun _ s' => SP X pins D .next s') calm nd I walk ok rg rt rk rv fold q ?_) fun _ _ z => wpAny_pure (wpAny_pure z)
  intro d c t n H2 J nx ns fr
  show wpAny _ _ (assign (.Name y py) X.env (.ref d)) _ _ _
  refine wpAny_assign_Name (store_ok2 (v := V.ref d) J nd at_y (.inl loc) rfl ?_ (.inr loc))
  rintro u JU ⟨b, same, which⟩
  obtain ⟨r0, r1, r2, r3, r4, r5⟩ := fr
  have far : c ≠ b := by
    cases which with
    | inl z => exact z ▸ r1
    | inr z => exact fun e => r4 y b z e.symm
  exact ⟨n, ns.sameBut same far, fun _ rest => ⟨_, H2, JU.turned (t' := u.toks) (fun a o ha e => (rest.2 a ha).trans e) r0 r1 r3 r4 r5, nx⟩⟩
end
end L2

namespace SrtO
open PySem PyProof.Rows Srt
section
variable {prog : Program} {w : World} {A : Around} {E : Value → Shared → Prop} {s : Shared}
/-- the heap with the items of a tuple in a new list -/
def gath (h : Heap) (its : List Value) : Heap := (h.push (seqObj "list" #[] 0)).update h.objs.size (Obj.mapSeq (· ++ its.toArray))
theorem gath_at (h : Heap) (its : List Value) : ∃ k, (gath h its).get? h.objs.size = some (seqObj "list" its.toArray k) := by
  have e := get?_update_seq (c := "list") (xs := #[]) (n := 0) (Heap.get?_push_size h rfl) (· ++ its.toArray)
  rw [Array.empty_append] at e
  exact ⟨_, e⟩
theorem gath_old {h : Heap} {its : List Value} {b : Addr} {o : Obj} (e : h.get? b = some o) : (gath h its).get? b = some o := by
  unfold gath
  rw [Heap.get?_update_ne _ _ _ _ (Nat.ne_of_lt (Heap.lt_size e))]
  exact Heap.get?_push_of_some _ e
theorem gath_size (h : Heap) (its : List Value) : (gath h its).objs.size = h.objs.size + 1 := by
  unfold gath
  rw [Heap.size_update, size_push']
theorem gather_tup {t : Addr} {o : Obj} {its : List Value} {k : Nat} {Q : List Value → Shared → Prop} (there : s.heap.get? t = some o) (cls : o.cls = .type "tuple") (dat : o.data = .seq its.toArray k) (few : its.length ≤ sizeLine)
    (next : Q its { s with heap := gath s.heap its }) : wpAny (model prog w) A (collect (.ref t)) Q E s := by
  have there' : (s.heap.push (seqObj "list" #[] 0)).get? t = some o := Heap.get?_push_of_some _ there
  have new0 : (s.heap.push (seqObj "list" #[] 0)).get? s.heap.objs.size = some (seqObj "list" #[] 0) := Heap.get?_push_size _ rfl
  unfold collect
  apply wpAny_bind
  refine wpAny_runValue (codeAny_builtin entry_proto_collect' ?_)
  show wpAny _ _ (newList [] >>= fun l => again (.builtin "list.__iadd__" ⟨[l, .ref t], []⟩)) _ _ s
  apply wpAny_bind
  refine wpAny_newList (wpAny_pure ⟨Code.quiet_builtin _ (by decide +kernel), codeAny_builtin entry_list_iadd' ?_⟩)
  show wpAny _ _ (Builtin.List.listExtendWith (.ref s.heap.objs.size) (.ref t) (.ref s.heap.objs.size)) _ _ { s with heap := s.heap.push (seqObj "list" #[] 0) }
  unfold Builtin.List.listExtendWith
  apply wpAny_bind
  refine wpAny_typeOf (T := "tuple") ⟨o, there', cls⟩ ?_
  have isT : (Value.type "tuple" == Value.type "tuple") = true := by rfl
  rw [if_pos (by rw [isT]; simp)]
  refine wpAny_bind (listItems_at there' dat ?_)
  refine wpAny_bind (listItems_at new0 rfl ?_)
  rw [if_neg (by simp)]
  refine wpAny_bind (listUpdate_at new0 rfl ?_ (Nat.zero_le _) (by show (#[] ++ its.toArray).size ≤ sizeLine + 1; simp only [Array.size_append, List.size_toArray, List.length_nil]; omega))
  refine wpAny_pure ?_
  obtain ⟨k2, e⟩ := gath_at s.heap its
  show wpAny (model prog w) A (do
      let o ← load s.heap.objs.size
      match o.data with
      | .seq xs _ => pure xs.toList
      | _ => unsupported "internal:collect") Q E { s with heap := gath s.heap its }
  exact wpAny_bind (wpAny_load e (wpAny_pure next))
/-- sorted(t), t a tuple of ints -/
theorem sorted_tupI {t : Addr} {o : Obj} {its : List Value} {ns : List Int} {k : Nat} {Q : Value → Shared → Prop} (I : IntsAre its ns) (there : s.heap.get? t = some o) (cls : o.cls = .type "tuple") (dat : o.data = .seq its.toArray k) (few : its.length ≤ sizeLine)
    (next : ∀ (out : List Value) (h' : Heap) (e : Nat), Srtd ltIv out → Stb ltIv out its → (∀ b u, s.heap.get? b = some u → h'.get? b = some u) → h'.get? (s.heap.objs.size + 1) = some (seqObj "list" out.toArray e) → Q (.ref (s.heap.objs.size + 1)) { s with heap := h' }) :
    wpAny (model prog w) A (call (.builtin "sorted") [.ref t]) Q E s := by
  refine Calls.call_function_entry kind_sorted plain_sorted entry_sorted (args_sorted1 _) ?_
  unfold Builtin.«sorted»
  refine wpAny_bind (m := checkCount "sorted" 1 1 _) (wpAny_pure ?_)
  refine wpAny_bind (gather_tup there cls dat few ?_)
  refine wpAny_bind (wpAny_newList ?_ few)
  show wpAny _ _ _ _ _ { s with heap := (gath s.heap its).push (seqObj "list" its.toArray 0) }
  have at_l : ((gath s.heap its).push (seqObj "list" its.toArray 0)).get? (gath s.heap its).objs.size = some (seqObj "list" its.toArray 0) := Heap.get?_push_size _ rfl
  refine wpAny_bind (wpAny_holding (wpAny_call_entry slot_list_sort ⟨_, at_l, rfl⟩ entry_list_sort (list_sort_ord swo_int at_l few (fun two => ints_sortable I two) fun out h1 h2 => ⟨_, rfl, ?_⟩) (args_list_sort _)))
  obtain ⟨e, he⟩ := sortedHeap_at (vs := its) (out := out.toArray) at_l
  rw [gath_size] at he ⊢
  refine wpAny_pure ⟨_, rfl, next out _ e h1 h2 (fun b u z => ?_) he⟩
  have lt : b < s.heap.objs.size := Heap.lt_size z
  rw [sortedHeap_old (Nat.ne_of_lt (Nat.lt_succ_of_lt lt)) (by rw [size_push', gath_size]; exact Nat.lt_succ_of_lt (Nat.lt_succ_of_lt lt))]
  exact Heap.get?_push_of_some _ (gath_old z)
end
end SrtO
namespace L2
open PySem PySem.Spec PyProof.Rows
def rSortedTI (K : PySem.W.Frag) : List V → Hp → VK → Prop := fun vs H Q => ∃ (a : Addr) (ns : List Int), vs = [V.ref a] ∧ SqT K H a (ns.map V.int) ∧ ∀ (ns' : List Int) (p : Addr), ns'.Perm ns → ns'.Pairwise (· ≤ ·) → H p = none → Q (.ref p) (upd H p (.lst (ns'.map V.int)))
theorem cr_sortedTI {X : Cx} : CallR X (.builtin "sorted") (rSortedTI X.K) := by
  intro pins s σ H vs us Q I r h
  obtain ⟨a, ns, rfl, hs, q⟩ := h
  obtain ⟨its, rv, ⟨o, ho, hc, k, hd⟩, hz⟩ := I.tuple hs
  rw [Vals.ref1 r]
  have hz' : ns.length ≤ sizeLine := by
    rw [List.length_map] at hz
    exact hz
  refine SrtO.sorted_tupI rv.ints ho hc hd (by rw [← rv.length]; exact hz) fun out h' e h1 h2 old new => ?_
  obtain ⟨k1, k2, k3⟩ := SrtO.ints_out rv.ints h1 h2
  exact ⟨.ref _, upd H (s.heap.objs.size + 1) (.lst ((out.map SrtO.iv).map V.int)), I.laid (t' := s.toks) old (Nat.le_succ _) ⟨by rw [List.length_map, k2.length_eq]; exact hz', out, e, vals_of_ints k1, new⟩, rfl, q _ _ k2 k3 (I.hok.fresh (Nat.le_succ _))⟩
end L2

namespace L2
open PySem PySem.Spec PyProof.Rows
section
variable {X : Cx} {st : Stmt} {rest : List Stmt} {t : TS}
/-- a statement behind which nothing is ever run -/
def tStop (t : TS) : TS := fun D σ H => t { D with nx := fun _ _ => False } σ H
theorem pss_stop (h1 : PS X st t) : PSs X (st :: rest) (tStop t) := by
  refine ⟨fun pins s σ H D I h => ?_⟩
  refine wpAny_execs_cons (thn (h1.run pins s σ H { D with nx := fun _ _ => False } I h) fun f s1 q => ?_)
  cases f with
  | next =>
    obtain ⟨σ', H', I', q⟩ := q
    exact False.elim q
  | ret v => exact q
  | brk => exact q
  | cont => exact q
end
end L2

namespace L2
open PySem PySem.Spec PyProof.Rows
/-- d.get(t) of a written table, whether the key is there or not -/
def tTabLook (P : Program) (w : World) (K : PySem.W.Frag) (td te : TE) : TE := fun σ H Q => td σ H fun x H1 => ∃ (a : Addr) (kvs : List (List Nat × Str)), x = .ref a ∧ TabK P w K a kvs ∧ te σ H1 fun y H2 => ∃ (p : Addr) (ks : List Nat), y = .ref p ∧ H2 p = some (.tup (ks.map fun k : Nat => V.int (k : Int))) ∧
  (∀ q, (kvs.find? fun q => decide (q.1 = ks)) = some q → Q (.str q.2) H2) ∧ ((kvs.find? fun q => decide (q.1 = ks)) = none → Q .non H2)
theorem tab_look {ks : List Nat} : ∀ {kvs : List (List Nat × Str)} {ts : List Tok}, ts.length = kvs.length →
    (∀ q, (kvs.find? fun q => decide (q.1 = ks)) = some q → ∃ t : Tok, valueAt ((kvs.zip ts).map fun x => (numK x.1.1, Value.str x.1.2 x.2)) (numK ks) = some (Value.str q.2 t)) ∧
    ((kvs.find? fun q => decide (q.1 = ks)) = none → valueAt ((kvs.zip ts).map fun x => (numK x.1.1, Value.str x.1.2 x.2)) (numK ks) = none)
  | [], ts, _ => ⟨fun q h => by simp at h, fun _ => by simp [valueAt]⟩
  | _ :: _, [], hl => by simp at hl
  | (k0, z0) :: kvs, t0 :: ts, hl => by
    have ih := tab_look (ks := ks) (kvs := kvs) (ts := ts) (by simpa using hl)
    by_cases c : k0 = ks
    · subst c
      refine ⟨fun q h => ?_, fun h => ?_⟩
      · rw [List.find?_cons_of_pos (by simp)] at h
        cases Option.some.inj h
        exact ⟨t0, by simp [valueAt]⟩
      · rw [List.find?_cons_of_pos (by simp)] at h
        cases h
    · have ne2 : ¬ numK k0 = numK ks := fun e => c (numK_inj e)
      rw [List.find?_cons_of_neg (by simpa using c)]
      unfold valueAt at ih ⊢
      rw [List.zip_cons_cons, List.map_cons, List.find?_cons_of_neg (by simpa using ne2)]
      exact ih
theorem pe_tabLook {X : Cx} {o e : Expr} {td te : TE} {apos cpos : Pos} (hu : X.A.units + 64 < cLine) (ho : PE X o td) (he : PE X e te) (m : M1 X o "get" apos e cpos) : PE X (.Call (.Attribute o "get" apos) [e] [] cpos) (tTabLook X.prog X.w X.K td te) := by
  refine ⟨fun pins s σ H Q I h => ?_⟩
  refine wpAny_Call_method m.base m.few m.line PySem.F.plainAttrs_dict PySem.F.slot_dict_get PySem.F.type_dict_get (thn (ho.run pins s σ H _ I h) fun u s1 ⟨x, H1, I1, rx, a, kvs, ex, ⟨hsm, ts, hT⟩, q1⟩ => ?_)
  subst ex
  obtain rfl : u = Value.ref a := rx
  obtain ⟨hD, _⟩ := hT _ I1.kIn
  have hD' := hD
  obtain ⟨xs, ⟨ob, es, ep, hob, hcl, hdat, _⟩, _⟩ := hD'
  refine ⟨hD.typeIs, fun b q => by cases q; exact ⟨ob, hob, hcl.2.1⟩, ?_⟩
  rw [m.trees]
  refine Calls.callWith_builtin rfl (Calls.evalArgs_plain (Calls.spliced_cons (thn (he.run pins s1 σ H1 _ I1 q1) fun iv s2 ⟨y, H2, I2, ry, p, ks, ey, hp, q2, q3⟩ => Calls.spliced_nil ?_)))
  subst ey
  obtain rfl : iv = Value.ref p := ry
  obtain ⟨_, its, rv, ot, h1, h2, n, h3⟩ := (show ObjOk X.prog X.w H2 s2.heap p (.tup (ks.map fun k : Nat => V.int (k : Int))) from I2.hok p _ hp)
  obtain ⟨hD2, hlen⟩ := hT _ I2.kIn
  obtain ⟨f1, f2⟩ := tab_look (ks := ks) hlen
  have hk : (nestedKind X.prog X.w).is s2.heap (numK ks) p := ⟨.tup h1 h2 h3 (by simpa using numAll_of (h := s2.heap) rv), numK_depth ks⟩
  refine get_keyed (knd := nestedKind X.prog X.w) (show X.A.in1.units + 8 < cLine by show X.A.units + 1 + 8 < cLine; omega) hk hsm hD2 ?_
  cases hf : kvs.find? fun q => decide (q.1 = ks) with
  | some q =>
    obtain ⟨t, ht⟩ := f1 q hf
    rw [ht]
    exact ⟨.str q.2, H2, I2.tok _, ⟨t, rfl⟩, q2 q hf⟩
  | none =>
    rw [f2 hf]
    exact ⟨.non, H2, I2.tok _, rfl, q3 hf⟩
end L2

/-! exceptions whose context is known to be None: raised by defs, caught where the suite calls defs -/
namespace L2N
open PySem PySem.Spec PyProof.Rows L2
theorem takes0N {X : Cx} : Takes X (fun _ _ _ _ => False) := fun _ _ x => by
  obtain ⟨a, B, sI, pins, σ, H, cls, d, e, I, nb, up, sky, na, os, ag, w⟩ := x
  exact False.elim w
section
variable {X : Cx} {e : Expr} {es : List Expr} {ta : TA} {p pos : Pos}
/-- raise X(e, ..), own __init__: the new exception has no context -/
theorem pmk_oexN {CX : CXT} {x : Str} {C fI : Addr} {k : Nat} {fd : FuncData} {ps : List Str} {sp : Sp} (T : OexC X.K C) (iC : PySem.W.findIn X.K (.ref C) "__init__" = some (some (.ref fI))) (tI : PySem.W.typeIn X.K (.ref fI) = some (.type "function"))
    (F1 : FnOk X.prog X.w X.K X.mg X.base CX k fI fd ps sp) (hr : Room (k + 1) X.A) (hb : Binds X.K fd ps []) (hx : Passes CX X (fun _ _ _ => False)) (hg : Gl X x) (hm : X.mg x = some (.ref C)) (ha : PA X (e :: es) ta)
    (hdb : (x == ("__debug__" : Str)) = false := by decide) (he : starEach (e :: es) X.env = (false, eval e X.env) :: starEach es X.env := by rfl) (hpl : (backTo pos (starEach es X.env)).any (·.1) = false := by rfl) :
    PMk X (.Call (.Name x p) (e :: es) [] pos) (tMkO C sp [] ta) := by
  intro pins s σ H Q I h
  obtain ⟨c1, c2, c3, c4, c5, c6, c7, c8, c9, d0, d1, d2, d3, d4, d5, hC, hbm⟩ := T.cls
  refine wpAny_Call_Name_kw (ld_glob I hg hm ?_ hdb)
  refine PySem.W.callWith_K (h₀ := X.base) I.ok.mod.kin T.kC (thn (ha.run pos pins s σ H _ I h) fun us s1 ⟨vs, H1, I1, r1, hz, q1⟩ => ⟨I1.kIn, ?_⟩) he hpl
  show wpAny _ _ (call (.ref C) us) _ _ _
  obtain ⟨h1, g1, w1, k1, o1⟩ := s1
  have up1 : h1.objs.size ≤ h1.objs.size + 1 := Nat.le_succ _
  have fr : H1 (h1.objs.size + 1) = none := I1.hok.fresh up1
  have pr := q1 (h1.objs.size + 1) fr
  rw [List.append_nil] at pr
  have kp : ∀ b o, h1.get? b = some o → ((h1.push (PySem.W.kdv_tup us)).push (PySem.HandSPX.excO C h1.objs.size)).get? b = some o := fun b o z => Heap.get?_push_of_some _ (Heap.get?_push_of_some _ z)
  have ob : ((h1.push (PySem.W.kdv_tup us)).push (PySem.HandSPX.excO C h1.objs.size)).get? (h1.objs.size + 1) = some (PySem.HandSPX.excO C h1.objs.size) := by heap_get
  have J : Inv X pins σ (upd H1 (h1.objs.size + 1) (exo (h1.objs.size + 1) C none)) ⟨(h1.push (PySem.W.kdv_tup us)).push (PySem.HandSPX.excO C h1.objs.size), g1, w1, k1, o1⟩ :=
    I1.laid (t' := k1) (a := h1.objs.size + 1) (o := exo (h1.objs.size + 1) C none) (h' := (h1.push (PySem.W.kdv_tup us)).push (PySem.HandSPX.excO C h1.objs.size)) kp up1 (exo_ok ob)
  have rl : Vals (V.ref (h1.objs.size + 1) :: vs) (Value.ref (h1.objs.size + 1) :: us) := .cons rfl r1
  have ln : (Value.ref (h1.objs.size + 1) :: us).length = ps.length := by
    have z := rl.length
    rw [F1.len _ _ _ _ pr] at z
    exact z.symm
  have few : us.length ≤ sizeLine := by
    rw [← Paired.length r1, sizeLine_eq]
    omega
  have bd := hb ⟨(h1.push (PySem.W.kdv_tup us)).push (PySem.HandSPX.excO C h1.objs.size), g1, w1, k1, o1⟩ (Value.ref (h1.objs.size + 1) :: us) J.kIn (by rw [List.append_nil]; exact ln)
  rw [List.append_nil] at bd
  refine wpAny_call (PySem.HandSPX.call_own F.excBase_ValueError (fun Y => PySem.HandSPX.refsVE_contains Y c5 hbm) (I1.kIn _ _ hC) (PySem.W.looks_findIn I1.kIn iC) (fun self => PySem.W.bind_fn I1.kIn self tI) few
    (codeAny_mono (F1.run _ X.stack _ _ ⟨Value.ref (h1.objs.size + 1) :: us, []⟩ (Value.ref (h1.objs.size + 1) :: us) _ _ (fun _ _ _ => False) (hr.make C us []) (J.env0.make C us []) bd rl pr) fun r s' hq => ?_))
  cases r with
  | error er => exact hx pins σ _ _ er s' J hq
  | ok fl =>
    cases fl with
    | ret u =>
      obtain ⟨v, H2, os2, bare2, un2, hok2, rv, ev, d, fs, ea, ed, hd1, q2⟩ := hq
      subst ev
      obtain ⟨h2, g2, w2, k2, o2⟩ := s'
      obtain ⟨t0, G, JG, kG, ge, hoe, na⟩ := mk_end0 (d2 := w2) (t2 := k2) I1 up1 kp un2 hok2 os2 bare2 ea ed hd1
      exact ⟨rv, h1.objs.size + 1, _, _, ⟨G, g2, w2, k2, o2⟩, _, .ref C, some d, rfl, JG, kG, ge, hoe, ⟨rfl, rfl, fun vs hv => by cases hv; rfl⟩, rfl, rfl, na, rfl, bare2, raises_own T.exC T.tyC, q2⟩
    | next => exact False.elim hq
    | brk => exact False.elim hq
    | cont => exact False.elim hq
variable {C : Addr} {bmB : List Value} {B newId initId : String} {x : Str}
/-- raise X(), no own __init__ -/
theorem pmk_own0N (F : ExcBaseFacts B newId initId bmB) (q : PySem.W.excIn X.K C bmB newId = true) (gC : X.mg x = some (.ref C)) (kC : PySem.W.keepIn X.K (.ref C) = true) (r : Raises X (.ref C)) (hg : Gl X x)
    (hdb : (x == ("__debug__" : Str)) = false := by decide) : PMk X (.Call (.Name x p) [] [] pos) (fun _ H Q => Q (.ref C) none H) := by
  intro pins s σ H Q I h
  refine wpAny_Call_Name_kw (ld_glob I hg gC ?_ hdb)
  refine PySem.W.callWith_K0 I.kIn kC ?_
  obtain ⟨bm, N, nm, qn, bs, hdct, sn, sub, ab, col, dd, k0, k1, k2, k3, k5, mN, hC, hN, hni, T⟩ := exc_obj I.kIn q
  refine wpAny_call_exc_subT F T hC hN hni (fun h' e hm => ?_) (Nat.zero_le _)
  exact mk_of I hm r h (I.hok.gone hm.new)
end
end L2N
namespace L2
open PySem PySem.Spec PyProof.Rows
section
variable {P : Program} {w : World} {K : PySem.W.Frag} {mg : Str → Option Value} {base : Heap}
/-- a def that may raise, what it raises has no context -/
theorem Fun.okN {x qual : Str} {st : Stmt} {f : Addr} {fd : FuncData} {N ps : List Str} {k : Nat} {sp : Sp} (F : Fun K x qual st f fd) (S : FnScope N ps (defScope st)) (len : ∀ vs H Q E, sp vs H Q E → vs.length = ps.length)
    (hbody : ∀ (cdv : Value) (A : Around) (outer : List Env) (s : Shared) (H : Hp) (vs : List V) (Q : VK) (E : XK), Room k (A.deeper (envOfC qual (defScope st) s.heap.objs.size f cdv)) → sp vs H Q E →
      ∃ t, PSs (cxOf (L2N.CX P w) P w K mg base N qual (defScope st) f cdv A outer s H E) (defBody st) t ∧ t { nx := fun _ H' => Q .non H', rt := Q } (start N vs) H) : FnOk P w K mg base (L2N.CX P w) (k + 1) f fd ps sp := by
  obtain ⟨oc, od, kV, doc, pm, an, cdv, ct, osl, rfl, lk, hcd⟩ := F.ex
  exact fn_of lk hcd S len fun A outer s H vs Q E hr hsp => hbody cdv A outer s H vs Q E hr hsp
/-- a def called where an exception is handled, lets none out -/
theorem Fun.okH {x qual : Str} {st : Stmt} {f : Addr} {fd : FuncData} {N ps : List Str} {k : Nat} {sp : Sp} (F : Fun K x qual st f fd) (S : FnScope N ps (defScope st)) (len : ∀ vs H Q E, sp vs H Q E → vs.length = ps.length)
    (hbody : ∀ (cdv : Value) (A : Around) (outer : List Env) (s : Shared) (H : Hp) (vs : List V) (Q : VK) (E : XK) (p : Addr × Obj), L2H.Hot1 A p → L2H.RoomH k (A.deeper (envOfC qual (defScope st) s.heap.objs.size f cdv)) → sp vs H Q E →
      ∃ t, PSs (L2H.cxH CX0 P w K mg base N qual (defScope st) f cdv A outer s H E p).nox (defBody st) t ∧ t { nx := fun _ H' => Q .non H', rt := Q } (start N vs) H) : L2H.FnH P w K mg base CX0 (k + 1) f fd ps sp := by
  obtain ⟨oc, od, kV, doc, pm, an, cdv, ct, osl, rfl, lk, hcd⟩ := F.ex
  refine L2H.fn_ofH lk hcd S len fun A outer s H vs Q E p hot hr hsp => ?_
  obtain ⟨t, h, q⟩ := hbody cdv A outer s H vs Q E p hot hr hsp
  exact ⟨t, h.nox, q⟩
end
/-- within a suite: the exception that is handled has no context -/
theorem hot_suite {X : Cx} {a : Addr} {oe : Obj} {cls : Value} {d : Option Addr} {pn : List (Addr × Obj)} (hz : L2N.Zn cls d oe) (hf : ∃ vs, oe.data = .fields vs) : L2H.HotC (X.suite a ((a, oe) :: pn)) := by
  obtain ⟨vs, hv⟩ := hf
  exact ⟨(a, oe), ⟨rfl, vs, hv, hz.2.2 vs hv⟩, List.mem_cons_self⟩
end L2
namespace L2
open PySem PySem.Spec PyProof.Rows
/-- nothing is let out -/
theorem passH0 {X : Cx} (E : St → XK) : ∀ σ, PassesAt CX0 X σ (E σ) := fun _ _ _ _ _ _ _ z => False.elim z
theorem call_isiQ {X : Cx} {K : PySem.W.Frag} (h : X.K = K) : CallR X (.builtin "isinstance") (rIsi K) := by
  subst h
  exact call_isi
theorem call_lenK {X : Cx} {K : PySem.W.Frag} (h : X.K = K) : CallR X (.builtin "len") (fun xs H Q => ∃ p ys, xs = [.ref p] ∧ (SqL K H p ys ∨ SqT K H p ys) ∧ Q (.int ys.length) H) := by
  subst h
  exact call_len_seq
end L2

/-! min, max, len(set(..)) of a tuple of ints -/
namespace MmT
open PySem PyProof.Rows
theorem keep_old {s : Shared} {o : Obj} {h' : Heap} (hk : ∀ b u, b ∉ [s.heap.objs.size] → (s.heap.push o).get? b = some u → h'.get? b = some u) : ∀ b u, s.heap.get? b = some u → h'.get? b = some u := fun b u e => by
  refine hk b u (fun hm => ?_) (Heap.get?_push_of_some _ e)
  have := Heap.lt_size e
  rw [List.mem_singleton.mp hm] at this
  exact Nat.lt_irrefl _ this
theorem ints_arr {its : List Value} {ns : List Int} (hi : IntsAre its ns) : ∃ xs : Array (Int × Tok), its.toArray = intItems xs ∧ (xs.toList.map (·.1)) = ns := by
  obtain ⟨xs, e⟩ := hi.allInts.items
  have hn : numsOf (intItems xs).toList = ns := by
    rw [← e]
    exact hi.numsOf
  rw [nums_intItems] at hn
  exact ⟨xs, e, hn⟩
section
variable {prog : Program} {w : World} {A : Around} {E : Value → Shared → Prop} {s : Shared}
theorem min_tup {t : Addr} {its : List Value} {ns : List Int} {Q : Value → Shared → Prop} (calm : A.handled = none) (there : s.heap.IsTuple t its.toArray) (hi : IntsAre its ns) (some_ : 0 < ns.length)
    (next : ∀ (h' : Heap) (tk : Nat) (m : Int) (u : Tok), (∀ b o, s.heap.get? b = some o → h'.get? b = some o) → m ∈ ns → (∀ y ∈ ns, m ≤ y) → Q (.int m u) { s with heap := h', toks := tk }) :
    wpAny (model prog w) A (call (.builtin "min") [.ref t]) Q E s := by
  obtain ⟨xs, e1, e2⟩ := ints_arr hi
  subst e2
  rw [e1] at there
  have pos : 0 < xs.size := by simpa using some_
  have tb : t < s.heap.objs.size := by
    obtain ⟨o, ho, _⟩ := there
    exact Heap.lt_size ho
  refine call_min_walk (wpAny_pyIter_tuple there ?_)
  refine ⟨_, [_, t], [_], _, _, _, _, rfl, Walks.tuple (A := A.in1) calm _ t (Nat.ne_of_lt tb) (intItems xs), ⟨⟨_, Heap.get?_push_size _ rfl, rfl, rfl⟩, there.push _⟩, fun c hc => ?_, by simpa [intItems] using pos, CmpOf.ints_lt (numAt xs) (fun _ _ => intItems_at), fun v h' tk hP hk => ?_⟩
  · show c < (s.heap.push _).objs.size
    rw [Heap.size_push]
    rcases List.mem_cons.mp hc with rfl | hc
    · exact Nat.lt_succ_self _
    · rw [List.mem_singleton.mp hc]
      exact Nat.lt_succ_of_lt tb
  · have hP' : (intItems xs)[argBest (fun i j => decide (numAt xs i < numAt xs j)) (xs.size - 1)]? = some v := by simpa [intItems] using hP
    obtain ⟨u, rfl⟩ := intItems_at hP'
    obtain ⟨b1, b2⟩ := argBest_lt (numAt xs) (xs.size - 1)
    refine next h' tk _ u (keep_old hk) ?_ fun y hy => ?_
    · rw [numAt_eq]
      exact PySem.getD_mem (by rw [List.length_map, Array.length_toList]; omega)
    · obtain ⟨j, hj, rfl⟩ := mem_getD hy
      rw [List.length_map, Array.length_toList] at hj
      rw [← numAt_eq]
      exact b2 j (by omega)
theorem max_tup {t : Addr} {its : List Value} {ns : List Int} {Q : Value → Shared → Prop} (calm : A.handled = none) (there : s.heap.IsTuple t its.toArray) (hi : IntsAre its ns) (some_ : 0 < ns.length)
    (next : ∀ (h' : Heap) (tk : Nat) (m : Int) (u : Tok), (∀ b o, s.heap.get? b = some o → h'.get? b = some o) → m ∈ ns → (∀ y ∈ ns, y ≤ m) → Q (.int m u) { s with heap := h', toks := tk }) :
    wpAny (model prog w) A (call (.builtin "max") [.ref t]) Q E s := by
  obtain ⟨xs, e1, e2⟩ := ints_arr hi
  subst e2
  rw [e1] at there
  have pos : 0 < xs.size := by simpa using some_
  have tb : t < s.heap.objs.size := by
    obtain ⟨o, ho, _⟩ := there
    exact Heap.lt_size ho
  refine call_max_walk (wpAny_pyIter_tuple there ?_)
  refine ⟨_, [_, t], [_], _, _, _, _, rfl, Walks.tuple (A := A.in1) calm _ t (Nat.ne_of_lt tb) (intItems xs), ⟨⟨_, Heap.get?_push_size _ rfl, rfl, rfl⟩, there.push _⟩, fun c hc => ?_, by simpa [intItems] using pos, CmpOf.ints_gt (numAt xs) (fun _ _ => intItems_at), fun v h' tk hP hk => ?_⟩
  · show c < (s.heap.push _).objs.size
    rw [Heap.size_push]
    rcases List.mem_cons.mp hc with rfl | hc
    · exact Nat.lt_succ_self _
    · rw [List.mem_singleton.mp hc]
      exact Nat.lt_succ_of_lt tb
  · have hP' : (intItems xs)[argBest (fun i j => decide (numAt xs i > numAt xs j)) (xs.size - 1)]? = some v := by simpa [intItems] using hP
    obtain ⟨u, rfl⟩ := intItems_at hP'
    obtain ⟨b1, b2⟩ := argBest_gt (numAt xs) (xs.size - 1)
    refine next h' tk _ u (keep_old hk) ?_ fun y hy => ?_
    · rw [numAt_eq]
      exact PySem.getD_mem (by rw [List.length_map, Array.length_toList]; omega)
    · obtain ⟨j, hj, rfl⟩ := mem_getD hy
      rw [List.length_map, Array.length_toList] at hj
      rw [← numAt_eq]
      exact b2 j (by omega)
end
/-- a list without doubles has as many members as another of the same members exactly if that one has no doubles -/
theorem sub_perm : ∀ {L ns : List Int}, L.Nodup → (∀ x ∈ L, x ∈ ns) → L.length = ns.length → L.Perm ns
  | [], ns, _, _, h => by
    rw [List.length_eq_zero_iff.mp h.symm]
  | x :: L, ns, nd, sub, h => by
    have hx := sub x (List.mem_cons_self ..)
    have nd' := List.nodup_cons.mp nd
    have ih := sub_perm (L := L) (ns := ns.erase x) nd'.2 (fun y hy => (List.mem_erase_of_ne (fun z => nd'.1 (by rw [← z]; exact hy))).mpr (sub y (List.mem_cons_of_mem _ hy))) (by
      rw [List.length_erase_of_mem hx]
      simp at h
      omega)
    exact (List.Perm.cons x ih).trans (List.perm_cons_erase hx).symm
theorem sub_len : ∀ {L ns : List Int}, L.Nodup → (∀ x ∈ L, x ∈ ns) → L.length ≤ ns.length
  | [], _, _, _ => Nat.zero_le _
  | x :: L, ns, nd, sub => by
    have hx := sub x (List.mem_cons_self ..)
    have nd' := List.nodup_cons.mp nd
    have ih := sub_len (L := L) (ns := ns.erase x) nd'.2 fun y hy => (List.mem_erase_of_ne (fun z => nd'.1 (by rw [← z]; exact hy))).mpr (sub y (List.mem_cons_of_mem _ hy))
    have := List.length_erase_of_mem hx
    have hp : 0 < ns.length := List.length_pos_of_mem hx
    show L.length + 1 ≤ ns.length
    omega
theorem count_nd {L ns : List Int} (nd : L.Nodup) (m : ∀ x, x ∈ L ↔ x ∈ ns) : L.length = ns.length ↔ ns.Nodup :=
  ⟨fun h => (sub_perm nd (fun x hx => (m x).mp hx) h).nodup_iff.mp nd, fun h => Nat.le_antisymm (sub_len nd fun x hx => (m x).mp hx) (sub_len h fun x hx => (m x).mpr hx)⟩
end MmT
namespace L2
open PySem PySem.Spec PyProof.Rows
section
variable {X : Cx}
def rMinT (K : PySem.W.Frag) : List V → Hp → VK → Prop := fun vs H Q => ∃ (a : Addr) (ns : List Int), vs = [V.ref a] ∧ SqT K H a (ns.map V.int) ∧ 0 < ns.length ∧ ∀ m, m ∈ ns → (∀ y ∈ ns, m ≤ y) → Q (.int m) H
def rMaxT (K : PySem.W.Frag) : List V → Hp → VK → Prop := fun vs H Q => ∃ (a : Addr) (ns : List Int), vs = [V.ref a] ∧ SqT K H a (ns.map V.int) ∧ 0 < ns.length ∧ ∀ m, m ∈ ns → (∀ y ∈ ns, y ≤ m) → Q (.int m) H
theorem tup_is {h : Heap} {t : Addr} {its : List Value} (p : ∃ o : Obj, h.get? t = some o ∧ o.cls = .type "tuple" ∧ ∃ k, o.data = .seq its.toArray k) : h.IsTuple t its.toArray := by
  obtain ⟨o, h1, h2, k, h3⟩ := p
  exact ⟨o, h1, h2, k, h3⟩
theorem cr_minT (calm : X.calm = true) : CallR X (.builtin "min") (rMinT X.K) := by
  intro pins s σ H vs us Q I r h
  obtain ⟨a, ns, rfl, hs, pos, q⟩ := h
  obtain ⟨its, rv, ⟨o, ho, hc, k, hd⟩, hz⟩ := I.tuple hs
  rw [Vals.ref1 r]
  exact MmT.min_tup (I.ok.hd calm) ⟨o, ho, hc, k, hd⟩ rv.ints pos fun h' tk m u keep hm hl => ⟨.int m, H, I.kept keep, ⟨u, rfl⟩, q m hm hl⟩
theorem cr_maxT (calm : X.calm = true) : CallR X (.builtin "max") (rMaxT X.K) := by
  intro pins s σ H vs us Q I r h
  obtain ⟨a, ns, rfl, hs, pos, q⟩ := h
  obtain ⟨its, rv, ⟨o, ho, hc, k, hd⟩, hz⟩ := I.tuple hs
  rw [Vals.ref1 r]
  exact MmT.max_tup (I.ok.hd calm) ⟨o, ho, hc, k, hd⟩ rv.ints pos fun h' tk m u keep hm hl => ⟨.int m, H, I.kept keep, ⟨u, rfl⟩, q m hm hl⟩
/-- len(set(t)), t a tuple of ints: how many there are tells whether there are doubles -/
def tLenSetT (K : PySem.W.Frag) (ta : TE) : TE := fun σ H Q => ta σ H fun x H1 => ∃ (l : Addr) (ns : List Int), x = .ref l ∧ SqT K H1 l (ns.map V.int) ∧ ns.length ≤ 1000 ∧ ∀ c : Nat, c ≤ ns.length → (c = ns.length ↔ ns.Nodup) → Q (.int (c : Int)) H1
theorem pe_lenSetT {a : Expr} {ta : TE} {p p2 q pos : Pos} (calm : X.calm = true) (g1 : Gl X "len") (m1 : X.mg "len" = none) (g2 : Gl X "set") (m2 : X.mg "set" = none) (ha : PE X a ta)
    (na : starEach [a] X.env = (false, eval a X.env) :: starEach [] X.env := by rfl) : PE X (.Call (.Name "len" p) [.Call (.Name "set" p2) [a] [] q] [] pos) (tLenSetT X.K ta) := by
  refine ⟨fun pins s σ H Q I hw => ?_⟩
  refine Call_ (ld_blt I g1 m1 PySem.boot_len ?_)
  refine PyProof.Rows.callWith_builtin1 (PyProof.Rows.args_cons ?_ rfl) rfl rfl
  refine Call_ (ld_blt I g2 m2 PyProof.Rows.boot_set ?_)
  refine PyProof.Rows.callWith_type1 (PyProof.Rows.args_cons (thn (ha.run pins s σ H _ I hw) fun v s1 ⟨x, H1, I1, r1, z1⟩ => PyProof.Rows.args_nil ?_) na) na rfl
  obtain ⟨l, ns, rfl, hq, few, z1⟩ := z1
  cases r1
  obtain ⟨its, rv, ⟨o, ho, hc, k, hd⟩, hz⟩ := I1.tuple hq
  refine call_set_tupI ns (I1.ok.hd calm) ⟨o, ho, hc, k, hd⟩ (by simpa using rv.ints) (by unfold scanBound; omega) fun h' tk c hS hc' keep => ?_
  refine PyProof.Rows.args_nil ?_
  obtain ⟨o2, es, ep, t2, h1, h2, h3, _, h5, h6, _, h8, h9, _⟩ := hS
  have I2 : Inv X pins σ H1 { s1 with heap := h', toks := tk } := I1.kept keep
  have m : ∀ x, x ∈ es.toList.map keyOf ↔ x ∈ ns := fun x => by
    rw [← h6 x]
    exact decide_eq_true_iff
  have cnt := MmT.count_nd h5 m
  rw [List.length_map, Array.length_toList, h9] at cnt
  exact call_len_set h1 h2 h3 h8 (by omega) ⟨.int (c : Int), H1, I2.tok _, ⟨_, by rw [h9]⟩, z1 c hc' cnt⟩
end
end L2

/-! enumerate of a tuple; calls in a try's body; isinstance of an exception without a dict -/
namespace EnT
open PySem
/-- the iterator of the tuple t, and the enumerate object over the iterator at i, both as they are made -/
def itO (t : Addr) : Obj := { cls := .type "tuple_iterator", data := .fields #[.ref t, .int 0 0] }
def enO (i : Addr) : Obj := { cls := .type "enumerate", data := .fields #[.none, .bool false, .ref i, rawInt 0, .none, .none] }
def made (g : Heap) (t : Addr) : Heap := (g.push (itO t)).push (enO g.objs.size)
theorem made_top (g : Heap) (t : Addr) : (g.push (itO t)).objs.size = g.objs.size + 1 := Heap.size_push ..
theorem made_en (g : Heap) (t : Addr) : (made g t).get? (g.objs.size + 1) = some (enO g.objs.size) :=
  made_top g t ▸ Heap.get?_push_size (g.push (itO t)) (o := enO g.objs.size) rfl
theorem made_it (g : Heap) (t : Addr) : (made g t).get? g.objs.size = some (itO t) := Heap.get?_push_of_some _ (Heap.get?_push_size _ rfl)
theorem made_old (g : Heap) (t b : Addr) (o : Obj) (h : g.get? b = some o) : (made g t).get? b = some o :=
  Heap.get?_push_of_some _ (Heap.get?_push_of_some _ h)
/-- what enumerate's __new__ does with a tuple -/
theorem new_does (t : Addr) (vs : Array Value) : Meets (Builtin.«enumerate.__new__» ⟨[.type "enumerate", .ref t], []⟩)
    (fun _ R s => s.heap.IsTuple t vs ∧ R (.ok (.ret (.ref (s.heap.objs.size + 1)))) { s with heap := made s.heap t }) :=
  Meets.of_wp fun P w A R s there => by
    cases s with
    | mk g gl dw tc ow =>
      obtain ⟨isT, goal⟩ := there
      rw [← made_top g t] at goal
      have sub1 := sub_enumerate
      have mk_it : ∀ {A1 : Around} {E1 Q1 : Value → Shared → Prop}, Q1 (.ref g.objs.size) ⟨g.push (itO t), gl, dw, tc, ow⟩ → wpAny (model P w) A1 (pyIter (.ref t)) Q1 E1 ⟨g, gl, dw, tc, ow⟩ :=
        fun q => wpAny_pyIter_tuple isT q
      wp_walk using mk_it
      refine wpAny_stack_any fun _ => wpAny_pure ?_
      split
      · next cls _ _ _ _ _ =>
        by_cases same : (cls == Value.type "enumerate") = true
        · rw [same]
          wp_walk using mk_it
          exact ⟨_, rfl, goal⟩
        · rw [Bool.eq_false_iff.mpr same]
          wp_walk using mk_it
          exact ⟨_, rfl, goal⟩
      · wp_walk using mk_it
        exact ⟨_, rfl, goal⟩
end EnT
namespace EnT
open PySem PySem.Spec PyProof.Rows L2
theorem call_does {P : Program} {w : World} {A : Around} {E Q : Value → Shared → Prop} {s : Shared} {t : Addr} {vs : Array Value} (isT : s.heap.IsTuple t vs) (goal : Q (.ref (s.heap.objs.size + 1)) { s with heap := made s.heap t }) :
    wpAny (model P w) A (call (.type "enumerate") [.ref t]) Q E s := by
  have top : Shared.TypeIs { s with heap := made s.heap t } (.ref (s.heap.objs.size + 1)) "enumerate" := ⟨_, made_en s.heap t, rfl⟩
  have done : (fun (_ : Around) (R : Result → Shared → Prop) (z : Shared) => z.heap.IsTuple t vs ∧ R (.ok (.ret (.ref (z.heap.objs.size + 1)))) { z with heap := made z.heap t }) A.in1
      (wants (fun obj z => z.TypeIs obj "enumerate" ∧ Q obj z) E) s := ⟨isT, top, goal⟩
  exact callType_new F.called_enumerate (by decide) (F.typeCall_enumerate_1 _) (F.newCall_enumerate_1 _) (fun o => F.args_object_init_2 o _)
    F.entry_enumerate_new (new_does t vs) done
theorem tup_ne {h : Heap} {i t : Addr} {n : Nat} {vs : Array Value} (a : h.IsTupleIter i t n) (b : h.IsTuple t vs) : t ≠ i := by
  intro same
  subst same
  obtain ⟨u, hu, cu, _⟩ := a
  obtain ⟨v, hv, cv, _⟩ := b
  cases hu.symm.trans hv
  exact absurd (Value.type.inj (cu.symm.trans cv)) (by decide)
theorem en_ne {h : Heap} {e i t : Addr} {c : Int} {old : Value} {vs : Array Value} (a : IsEnum h e i c old) (b : h.IsTuple t vs) : e ≠ t := by
  intro same
  subst same
  obtain ⟨v, hv, cv, _⟩ := b
  cases (show h.get? e = _ from a).symm.trans hv
  exact absurd (Value.type.inj cv) (by decide)
/-- what the enumerate object at e walks with: its tuple at t, the iterator at i -/
def Stands (e i t : Addr) (n : Nat) (h : Heap) : Prop := (∃ old, IsEnum h e i ((n : Nat) : Int) old) ∧ h.IsTupleIter i t n ∧ e ≠ i
/-- the tuple at t, each item behind its number in a new pair -/
def ItN (K : PySem.W.Frag) (t : Addr) : It where
  go := fun n H => ∃ xs x, SqT K H t xs ∧ xs[n]? = some x
  yld := fun n H v H2 => ∃ p x, v = .ref p ∧ H p = none ∧ H2 = upd H p (.tup [.int (n : Nat), x]) ∧ ∀ xs, SqT K H t xs → xs[n]? = some x
  stop := fun n H => ∃ xs : List V, SqT K H t xs ∧ xs.length = n
theorem turns {P : Program} {w : World} {K : PySem.W.Frag} {es : List Expr} {kk : Nat} {ps : Pos} (e i t : Addr) : Turn P w K (.Tuple es kk ps) (ItN K t) [e, i] e (Stands e i t) := by
  constructor
  · exact List.mem_cons_self
  · rintro n h ⟨⟨old, a⟩, ⟨u, hu, cu, du⟩, ne⟩ b hb
    rcases List.mem_cons.mp hb with rfl | hb
    · exact ⟨_, a, fun v q => by cases q⟩
    · rw [List.mem_singleton.mp hb]
      exact ⟨u, hu, fun v q => by rw [du] at q; cases q⟩
  · rintro n h h2 ⟨⟨old, a⟩, b, ne⟩ kp
    exact ⟨⟨old, kp e List.mem_cons_self _ a⟩, b.at fun o q => kp i (List.mem_cons_of_mem _ List.mem_cons_self) o q, ne⟩
  · rintro X rfl rfl rfl calm n pins s σ H E I apart ⟨⟨old, a⟩, b, ne⟩ ⟨xs, x, tx, hx⟩
    obtain ⟨vs, rel, isT, _⟩ := I.tuple tx
    have isT := tup_is isT
    obtain ⟨v, hv, rv⟩ := rel.get hx
    have hv2 : vs.toArray[n]? = some v := by rw [List.getElem?_toArray]; exact hv
    have lt := (Array.getElem?_eq_some_iff.mp hv2).1
    have away : e ∉ [i, t] := fun z => by
      rcases List.mem_cons.mp z with z | z
      · exact ne z
      · exact en_ne a isT (List.mem_singleton.mp z)
    have drawn := Draws.tuple (prog := X.prog) (w := X.w) (A := X.A.in1) (I.ok.hd calm) i t (tup_ne b isT) vs.toArray
    have W := WalksT.enumerateD drawn e ne away List.mem_cons_self
    refine W.item n s _ E lt ⟨⟨old, a⟩, b, isT⟩ ?_
    rintro p ws h1 tk ⟨tok, v2, g, rfl⟩ up there mid kp1
    cases hv2.symm.trans g
    refine ⟨_, rfl, W.go es kk ps n p { s with heap := h1, toks := tk } _ E mid ?_⟩
    rintro h2 ⟨⟨old2, a2⟩, b2, _⟩ kp2
    obtain ⟨op, hop, cp, c1, dp⟩ := there
    have free : H p = none := I.hok.fresh up
    have made : ObjOk X.prog X.w (upd H p (.tup [.int (n : Nat), x])) h2 p (.tup [.int (n : Nat), x]) := by
      refine ⟨?_, [.int n tok, v], .cons ⟨tok, rfl⟩ (.cons rv .nil), op, kp2 p op (W.apart n p h1 mid) hop, cp, c1, dp⟩
      show 2 ≤ sizeLine
      decide
    have I2 := I.turnedNew (t' := tk) (fun c o nc q => kp2 c o nc (kp1 c o nc q)) apart up made
    refine ⟨.ref p, _, I2, rfl, ⟨p, x, rfl, free, rfl, fun ys ty => by rw [I.tuple_inj ty tx]; exact hx⟩, ⟨⟨old2, a2⟩, b2, ne⟩, fun c hc => ?_⟩
    rw [upd_ne fun z => by
      obtain ⟨o, ho, _⟩ : ∃ o, s.heap.get? c = some o ∧ True := by
        rcases List.mem_cons.mp hc with rfl | hc
        · exact ⟨_, a, trivial⟩
        · rw [List.mem_singleton.mp hc]
          obtain ⟨o, ho, _⟩ := b
          exact ⟨o, ho, trivial⟩
      have := Heap.lt_size ho
      rw [z] at this
      exact absurd up (Nat.not_le.mpr this)]
    exact (apart c hc).1
  · rintro X rfl rfl rfl calm n pins s σ H E I apart ⟨⟨old, a⟩, b, ne⟩ ⟨xs, tx, len⟩
    obtain ⟨vs, rel, isT, _⟩ := I.tuple tx
    have isT := tup_is isT
    have away : e ∉ [i, t] := fun z => by
      rcases List.mem_cons.mp z with z | z
      · exact ne z
      · exact en_ne a isT (List.mem_singleton.mp z)
    have drawn := Draws.tuple (prog := X.prog) (w := X.w) (A := X.A.in1) (I.ok.hd calm) i t (tup_ne b isT) vs.toArray
    have W := WalksT.enumerateD drawn e ne away List.mem_cons_self
    have eq : n = vs.toArray.size := by rw [← len, rel.length, List.size_toArray]
    subst eq
    exact W.done s _ E ⟨⟨old, a⟩, b, isT⟩ fun h2 tk kp => ⟨rfl, I.turnedL kp apart⟩
  · rintro A n s Q E ⟨⟨old, a⟩, _⟩ goal
    exact wpAny_pyIter_enum a goal
def iNum (K : PySem.W.Frag) (ta : TA) : TI := fun σ H R => ta σ H fun vs H1 => ∃ t xs, vs = [.ref t] ∧ SqT K H1 t xs ∧ R (ItN K t) H1
theorem pi_enumT {X : Cx} {e : Expr} {ta : TA} {p pos tpos : Pos} {es : List Expr} {kk : Nat} (g : Gl X "enumerate") (free : X.mg "enumerate" = none) (arg : PA X [e] ta) (one : starEach [e] X.env = [(false, eval e X.env)] := by rfl) :
    PI X (.Tuple es kk tpos) (.Call (.Name "enumerate" p) [e] [] pos) (iNum X.K ta) := by
  constructor
  intro pins s σ H R I had
  refine Call_ (ld_blt I g free boot_enumerate ?_)
  refine PyProof.Rows.callWith_type1 ?_ one rfl
  refine thn (arg.run pos pins s σ H _ I had) ?_
  rintro us s1 ⟨vs, H1, I1, rel, t, xs, rfl, tx, goal⟩
  obtain ⟨u, rfl, ru⟩ := vals1 rel
  cases (show u = Value.ref t from ru)
  obtain ⟨ws, _, isT, _⟩ := I1.tuple tx
  refine call_does (tup_is isT) (wpAny_pyIter_enum (made_en s1.heap t) ?_)
  have I2 : Inv X pins σ H1 { s1 with heap := made s1.heap t } := I1.kept (t' := s1.toks) fun b o q => made_old s1.heap t b o q
  refine ⟨_, _, _, _, H1, rfl, I2, turns (s1.heap.objs.size + 1) s1.heap.objs.size t, ⟨⟨.none, made_en s1.heap t⟩, ⟨_, made_it s1.heap t, rfl, rfl⟩, Nat.succ_ne_self _⟩, fun b hb => ?_, goal⟩
  have up : s1.heap.objs.size ≤ b := by
    rcases List.mem_cons.mp hb with rfl | hb
    · exact Nat.le_succ _
    · rw [List.mem_singleton.mp hb]
      exact Nat.le_refl _
  exact I1.fpOk up (I1.hok.fresh up)
theorem walk_enumT {K : PySem.W.Frag} {t : Addr} {xs : List V} : Walk (ItN K t) xs.length (fun H => SqT K H t xs) (YPair (fun n => some (.int (n : Nat))) (fun n => xs[n]?)) where
  goes := fun n _ lt q => ⟨xs, xs[n], q, List.getElem?_eq_getElem lt⟩
  stops := fun _ q => ⟨xs, q, rfl⟩
  yields := fun n _ _ _ _ q y => by
    obtain ⟨p, x, a, b, c, d⟩ := y
    exact ⟨p, .int (n : Nat), x, a, b, c, rfl, d xs q⟩
end EnT
namespace L2
open PySem PySem.Spec PyProof.Rows
/-- isinstance(e, c), e the exception that the suite holds, with a dict or without -/
def rIsS2 (K : PySem.W.Frag) (a : Addr) (cls : Value) (d : Option Addr) : List V → Hp → VK → Prop := fun xs H Q => ∃ (C : Addr) (c : V) (u : Value) (b : Bool), xs = [.ref a, c] ∧ cls = .ref C ∧ (d = none ∨ ∃ dd fs, d = some dd ∧ H dd = some (.xd fs)) ∧
  ExcC K C ∧ ClsV c u ∧ PySem.W.kitOne K (.ref C) u = some b ∧ Q (.bl b) H
theorem call_isS2 {X : Cx} {K : PySem.W.Frag} {a : Addr} {cls : Value} {d : Option Addr} {oe : Obj} {pn : List (Addr × Obj)} (hK : X.K = K) (hz : Zc cls d oe) (hf : ∃ vs, oe.data = .fields vs) : CallR (X.suite a ((a, oe) :: pn)) (.builtin "isinstance") (rIsS2 K a cls d) := by
  rintro pins s σ H _ us Q I rel ⟨C, c, u, b, rfl, rfl, kind, D, isC, ans, goal⟩
  rcases kind with rfl | ⟨dd, fs, rfl, there⟩
  · have E : CallR (X.suite a ((a, oe) :: pn)) (.builtin "isinstance") (rIsE X.K C a) := call_isE (hK ▸ D) hz hf
    exact E pins s σ H _ us Q I rel ⟨c, u, b, rfl, fun v q => isC.eq q, hK ▸ ans, goal⟩
  · exact call_isS hK hz hf pins s σ H _ us Q I rel ⟨C, dd, fs, c, u, b, rfl, rfl, rfl, there, D, isC, ans, goal⟩
theorem call_tuple_ofK {X : Cx} {K : PySem.W.Frag} (h : X.K = K) : CallR X (.type "tuple") (fun xs H Q => ∃ p ys, xs = [.ref p] ∧ ((SqL K H p ys ∧ ∀ l, H l = none → Q (.ref l) (upd H l (.tup ys))) ∨ (SqT K H p ys ∧ Q (.ref p) H))) := by
  subst h
  exact call_tuple_of
theorem call_list_ofK {X : Cx} {K : PySem.W.Frag} (h : X.K = K) : CallR X (.type "list") (fun xs H Q => ∃ p ys, xs = [.ref p] ∧ (SqL K H p ys ∨ SqT K H p ys) ∧ ∀ l, H l = none → Q (.ref l) (upd H l (.lst ys))) := by
  subst h
  exact call_list_of
end L2
namespace RZ
open PySem PySem.Spec PyProof.Rows L2
theorem walk_zipT {K : PySem.W.Frag} {a b : Addr} {xs ys : List V} {n : Nat} (hn : n = min xs.length ys.length) : Walk (ItzT K a b) n (fun H => SqT K H a xs ∧ SqT K H b ys) (YPair (fun i => xs[i]?) (fun i => ys[i]?)) where
  goes := fun i _ lt q => ⟨xs, ys, xs[i]'(by omega), ys[i]'(by omega), q.1, q.2, List.getElem?_eq_getElem _, List.getElem?_eq_getElem _⟩
  stops := fun _ q => ⟨xs, ys, q.1, q.2, by omega⟩
  yields := fun i _ _ _ _ q y => by
    obtain ⟨p, x, z, a1, a2, a3, a4, a5⟩ := y
    exact ⟨p, x, z, a1, a2, a3, a4 xs q.1, a5 ys q.2⟩
end RZ

/-! defs with a star parameter and keyword-only ones behind it, called with keywords -/
namespace StK
open PySem PySem.Spec PyProof.Rows L2 StX
/-- a def called with values and with keywords named ks, told of the values alone -/
def FnK (P : Program) (w : World) (K : PySem.W.Frag) (mg : Str → Option Value) (base : Heap) (CX : CXT) (k : Nat) (f : Addr) (ks : List Str) (sp : List V → List V → Hp → VK → XK → Prop) : Prop :=
  ∀ (A : Around) (outer : List Env) (s : Shared) (H : Hp) (us ws : List Value) (vs zs : List V) (Q : VK) (E : XK),
    Room k A → Env0 P w K mg base A outer s H → Vals vs us → Vals zs ws → zs.length = ks.length → sp vs zs H Q E →
      codeAny (model P w) A (.call (.ref f) ⟨us, ks.zip ws⟩) (CR CX outer P w H s Q E) s
section
variable {CX : CXT} {P : Program} {w : World} {K : PySem.W.Frag} {mg : Str → Option Value} {base : Heap} {k n : Nat} {f : Addr} {name qual : Str} {params : Arguments} {body : List Stmt} {scope : Scope} {dV kV doc pm cdv ct oc : Value} {an od : Option Addr}
  {osl : Array (Option Value)} {N ps ks : List Str} {sp : Sp}
theorem FnK.mono {j : Nat} {q : List V → List V → Hp → VK → XK → Prop} (F : FnK P w K mg base CX j f ks q) (h : j ≤ k) : FnK P w K mg base CX k f ks q :=
  fun A outer s H us ws vs zs Q E room => F A outer s H us ws vs zs Q E (room.mono h)
/-- def f(a, .., *v, k): n values ahead, the rest in a new tuple, each keyword written -/
theorem fn_starK {pv : Str} (at_ : K.lookup f = some ⟨oc, od, .func (PySem.W.fnOf name qual params body scope dV kV doc pm an cdv ct), osl⟩) (code : PySem.W.codeIn K cdv qual = true) (S : FnScope N (ps ++ [pv]) scope) (up : CXUp CX) (hps : ps.length = n + ks.length)
    (bind : ∀ us rest ws : List Value, us.length = n → ws.length = ks.length → bindArgs (PySem.W.fnOf name qual params body scope dV kV doc pm an cdv ct) ⟨us ++ rest, ks.zip ws⟩ = (newTuple rest >>= fun t => pure (ps.zip (us ++ ws) ++ [(pv, t)])))
    (run : ∀ (A : Around) (outer : List Env) (s : Shared) (H : Hp) (vs : List V) (Q : VK) (E : XK), Room k (A.deeper (envOfC qual scope s.heap.objs.size f cdv)) → sp vs H Q E →
      ∃ t, PSs (cxOf CX P w K mg base N qual scope f cdv A outer s H E) body t ∧ t { nx := fun _ H' => Q .non H', rt := Q } (start N vs) H) :
    FnK P w K mg base CX (k + 1) f ks (fun vs zs H Q E => ∃ hd rest, vs = hd ++ rest ∧ hd.length = n ∧ rest.length ≤ sizeLine ∧ ∀ p, H p = none → sp ((hd ++ zs) ++ [V.ref p]) (upd H p (.tup rest)) Q E) := by
  rintro A outer s H us ws vs zs Q E room env rv rz lz ⟨hd, rest, rfl, lh, small, goes⟩
  obtain ⟨u1, u2, rfl, r1, r2⟩ := vals_split rv
  have free : H s.heap.objs.size = none := env.hok.fresh (Nat.le_refl _)
  have l1 : u1.length = n := r1.length.symm.trans lh
  have lw : ws.length = ks.length := rz.length.symm.trans lz
  have few : u2.length ≤ sizeLine := by
    rw [← r2.length]
    exact small
  let here : Obj := { cls := .type "tuple", data := .seq u2.toArray }
  refine run_bnd at_ code S room env (G := fun xs G => ∃ p, H p = none ∧ xs = (hd ++ zs) ++ [V.ref p] ∧ G = upd H p (.tup rest)) (fun A' Ex Q' told => ?_) ?_
  · rw [bind u1 u2 ws l1 lw]
    refine wpAny_bind (wpAny_newTuple (wpAny_pure ?_) few)
    have laid : ObjOk P w (upd H s.heap.objs.size (.tup rest)) (s.heap.push here) s.heap.objs.size (.tup rest) := ⟨small, u2, r2, _, Heap.get?_push_size _ rfl, rfl, _, rfl⟩
    have un : Un (frs outer) [] H (upd H s.heap.objs.size (.tup rest)) s.heap (s.heap.push here) := un_laid free
    have len : ((hd ++ zs) ++ [V.ref s.heap.objs.size]).length = (ps ++ [pv]).length := by
      rw [List.length_append, List.length_append, List.length_append, lh, lz, hps]
      rfl
    have got := told _ _ ((hd ++ zs) ++ [V.ref s.heap.objs.size]) ((u1 ++ ws) ++ [Value.ref s.heap.objs.size]) (env0_laid env laid) un rfl
      (fun e s' => up outer s H _ _ E e s' un (fun b o q => Heap.get?_push_of_some _ q) rfl) ((r1.append rz).append (.cons rfl .nil)) len ⟨_, free, rfl, rfl⟩
    have cut : ps.length = (u1 ++ ws).length := by rw [List.length_append, l1, lw, hps]
    rw [List.zip_append cut] at got
    exact got
  · rintro s2 _ _ ⟨p, hp, rfl, rfl⟩ room'
    exact run A outer s2 _ _ Q E room' (goes p hp)
end
section
variable {X : Cx} {CX : CXT} {k : Nat} {f : Addr} {ks : List Str} {q : List V → List V → Hp → VK → XK → Prop} {E : XK} {x : Str} {p pos : Pos} {e : Expr} {es : List Expr} {kws : List Keyword} {t tk : TA}
def tCallFK (q : List V → List V → Hp → VK → XK → Prop) (n : Nat) (E : XK) (t tk : TA) : TE := fun σ H Q => t σ H fun vs H1 => tk σ H1 fun zs H2 => zs.length = n ∧ q vs zs H2 Q E
/-- f(e, .., k = v) of such a def -/
theorem pe_callFK (F : FnK X.prog X.w X.K X.mg X.base CX k f ks q) (room : Room k X.A) (gl : Gl X x) (there : X.mg x = some (.ref f)) (kp : PySem.W.keepIn X.K (.ref f) = true) (pass : Passes CX X E)
    (ha : PA X (e :: es) t) (hk : PK X kws tk) (each : (backToKw pos (keywordEach kws X.env)).all (·.1.isSome) = true := by rfl) (names : (backToKw pos (keywordEach kws X.env)).filterMap (·.1) = ks := by rfl)
    (nd : (x == ("__debug__" : Str)) = false := by decide) (st : starEach (e :: es) X.env = (false, eval e X.env) :: starEach es X.env := by rfl)
    (pl : ((backTo pos (starEach (e :: es) X.env)).any (·.1) || (backToKw pos (keywordEach kws X.env)).any (·.1.isNone)) = false := by rfl) :
    PE X (.Call (.Name x p) (e :: es) kws pos) (tCallFK q ks.length E t tk) := by
  refine ⟨fun pins s σ H Q I h => wpAny_Call_Name_kw (ld_glob I gl there ?_ nd)⟩
  refine PySem.W.callWith_KW (h₀ := X.base) I.ok.mod.kin kp each (thn (ha.run pos pins s σ H _ I h) ?_) pl st
  rintro us s1 ⟨vs, H1, I1, r, g1⟩
  refine thn (hk.run pos pins s1 σ H1 _ I1 g1) ?_
  rintro ws s2 ⟨zs, H2, I2, rz, lz, g2⟩
  refine ⟨I2.kIn, ?_⟩
  rw [names]
  refine wpAny_call (codeAny_mono (F X.A X.stack s2 H2 us ws vs zs Q E room I2.env0 r rz lz g2) fun out s' h' => ?_)
  match out, h' with
  | .error e, h' => exact pass pins σ H2 s2 e s' I2 h'
  | .ok (.ret u), h' => exact I2.after h'
  | .ok .next, h' => exact h'.elim
  | .ok .brk, h' => exact h'.elim
  | .ok .cont, h' => exact h'.elim
end
end StK

/-! an own object made within an except suite; a class that a local name holds, called with keywords -/
namespace MkH
open PySem PySem.Spec PyProof.Rows L2 L2H
section
variable {X : Cx} {CX : CXT} {k : Nat} {f C : Addr} {fd : FuncData} {ps : List Str} {sp : Sp} {x : Str} {p pos : Pos} {dvs : List V} {ds : List Value}
/-- C(): all that __init__ takes has defaults -/
theorem pe_make0H (M : Mk X.K C f) (F : FnH X.prog X.w X.K X.mg X.base CX k f fd ps sp) (room : RoomH (k + 1) X.A) (hot : HotC X) (b : Binds X.K fd ps ds) (d : Vals dvs ds) (pass : Passes CX X (fun _ _ _ => False)) (g : Gl X x) (m : X.mg x = some (.ref C))
    (nodebug : (x == ("__debug__" : Str)) = false := by decide) : PE X (.Call (.Name x p) [] [] pos) (tMake C sp dvs (fun _ _ _ => False) tNil) := by
  constructor
  intro pins s σ H Q I had
  obtain ⟨pn, h1, mem⟩ := hot
  refine wpAny_Call_Name_kw (ld_glob I g m ?_ nodebug)
  refine PySem.W.callWith_K0 I.kIn M.kp ?_
  have free : ∀ c, s.heap.objs.size ≤ c → H c = none := fun c le => I.hok.fresh le
  have had1 := had (s.heap.objs.size + 1) s.heap.objs.size (free _ (Nat.le_succ _)) (free _ (Nat.le_refl _)) (Nat.ne_of_lt (Nat.lt_succ_self _))
  have I2 := Inv.made I (C := C)
  have rel : Vals (V.ref (s.heap.objs.size + 1) :: ([] ++ dvs)) (Value.ref (s.heap.objs.size + 1) :: ([] ++ ds)) := .cons rfl d
  have len : ([Value.ref (s.heap.objs.size + 1)] ++ ds).length = ps.length := by
    rw [← F.len _ _ _ _ had1]
    exact rel.length.symm
  have at2 := I2.pin pn (List.mem_append_left _ mem)
  refine wpAny_call (make_map (f := f) I.kIn M.makes M.init (beq_iff_eq.mp M.fn) (codeAny_mono (F.run _ X.stack _ _ ⟨[Value.ref (s.heap.objs.size + 1)], []⟩ ([Value.ref (s.heap.objs.size + 1)] ++ ds) _ _ (fun _ _ _ => False) pn
    (RoomH.make room C [] []) ⟨h1.1, h1.2⟩ ⟨at2.1, at2.2.1, fun z => ?_, at2.2.2.2.2⟩ (I2.env0.make C [] []) (b _ [Value.ref (s.heap.objs.size + 1)] I2.kIn len) rel had1) fun r s2 told => ?_))
  · rcases List.mem_cons.mp (I2.stkSub pn.1 z) with z | z
    · exact at2.2.2.1 z
    · exact at2.2.2.2.1 z
  · match r, told with
    | .error e, told => exact pass pins σ _ _ e s2 I2 told
    | .ok (.ret u), told =>
      obtain ⟨v, H2, I3, ru, rfl, q⟩ := I2.after told
      exact ⟨ru, V.ref (s.heap.objs.size + 1), H2, I3, rfl, q⟩
    | .ok .next, told => exact told.elim
    | .ok .brk, told => exact told.elim
    | .ok .cont, told => exact told.elim
end
section
variable {X : Cx} {CX : CXT} {k i : Nat} {f C : Addr} {fd : FuncData} {ps ks : List Str} {sp : Sp} {E : XK} {x : Str} {p pos : Pos} {kws : List Keyword} {tk : TA} {gb : List Value → List Value → List Value} {gV : List V → List V → List V}
/-- the i-th slot holds the class C: name(k = v, ..) -/
def tMakeL (i : Nat) (C : Addr) (m : Nat) (sp : Sp) (gV : List V → List V → List V) (E : XK) (tk : TA) : TE := fun σ H Q => σ[i]? = some (some (.ref C)) ∧ tMakeK C 0 m sp gV E tNil tk σ H Q
theorem pe_makeL (M : Mk X.K C f) (F : FnOk X.prog X.w X.K X.mg X.base CX k f fd ps sp) (room : Room (k + 1) X.A) (at_ : X.N[i]? = some x) (vis : Vis X.env.scope x) (b : KBn X.K fd ps 1 ks gb gV) (pass : Passes CX X E) (kw : PK X kws tk)
    (hall : (backToKw pos (keywordEach kws X.env)).all (·.1.isSome) = true := by rfl) (hks : (backToKw pos (keywordEach kws X.env)).filterMap (·.1) = ks := by rfl) (d1 : (x == ("__debug__" : Str)) = false := by decide) (d2 : (x == ("__classdict__" : Str)) = false := by decide)
    (star : ((backTo pos (starEach [] X.env)).any (·.1) ||
      (backToKw pos (keywordEach kws X.env)).any (·.1.isNone)) = false := by rfl) :
    PE X (.Call (.Name x p) [] kws pos) (tMakeL i C ks.length sp gV E tk) := by
  constructor
  rintro pins s σ H Q I ⟨slot, had⟩
  refine wpAny_Call_Name_kw (thn ((pe_var (pos := p) at_ vis d1 d2).run pins s σ H (fun v G => v = .ref C ∧ G = H) I ⟨.ref C, slot, rfl, rfl⟩) ?_)
  rintro u s1 ⟨v, G, I1, rv, rfl, rfl⟩
  cases (show u = Value.ref C from rv)
  refine PySem.W.callWith_KW0 (h₀ := X.base)
    I.ok.mod.kin M.kp hall ?_ star
  refine thn (kw.run pos pins s1 σ G _ I1 had) ?_
  rintro ws s2 ⟨zs, G2, I2, rz, l1, l2, q⟩
  rw [hks]
  exact ⟨I2.kIn, run_makeK (us := []) (vs := []) M F room b pass I2 .nil rz rfl l2 q⟩
end
end MkH

/-! calls of methods that may raise: what they raise goes on -/
namespace MkS
open PySem PySem.Spec PyProof.Rows L2
section
variable {X : Cx} {CX : CXT} {k : Nat} {f C : Addr} {fd : FuncData} {ps : List Str} {sp : Sp} {E : L2.St → XK} {m : Str} {pos apos : Pos} {e o : Expr} {es : List Expr} {ta : TE} {t : TA} {pl : Sem Bool}
/-- o.m(e, ..) -/
theorem pe_methS (he : PE X o ta) (c : Cls X.K C) (hm : Meth X.K C m f) (F : FnOk X.prog X.w X.K X.mg X.base CX k f fd ps sp) (room : Room k X.A) (b : Binds X.K fd ps []) (pass : ∀ σ, PassesAt CX X σ (E σ)) (ha : PA X (e :: es) t)
    (one : starEach (e :: es) X.env = (false, eval e X.env) :: starEach es X.env := by rfl) (more : (backTo pos (starEach es X.env)).any (·.1) = false := by rfl)
    (road : eval (.Call (.Attribute o m apos) (e :: es) [] pos) X.env = (do
      let it ← eval o X.env
      standAt apos.atName
      let (fn, self) ← holding [it] (getMethod it m pl)
      callWith pos fn self (backTo pos (starEach (e :: es) X.env)) (backToKw pos (keywordEach [] X.env))) := by rfl) :
    PE X (.Call (.Attribute o m apos) (e :: es) [] pos) (L2H.tMethH C m sp E ta t) := by
  constructor
  intro pins s σ H Q I had
  refine PySem.W.methodCall_KW (pl := pl) (thn (he.run pins s σ H _ I had) ?_) road
  rintro u s1 ⟨x, H1, I1, ru, a, dx, fs, rfl, at_, no, q⟩
  cases (show u = Value.ref a from ru); skip
  refine getmeth_ok I1 at_ c hm no (PySem.W.callWith_K (first := [.ref a]) (h₀ := X.base) I.ok.mod.kin hm.kp (thn (ha.run pos pins s1 σ H1 _ I1 q) ?_) one more)
  rintro us s2 ⟨vs, H2, I2, r, q2⟩
  exact ⟨I2.kIn, run_fnS (us := .ref a :: us) (vs := .ref a :: vs) F room b (pass σ) I2 (.cons rfl r) q2⟩
end
section
variable {X : Cx} {CX : CXT} {k n : Nat} {f C : Addr} {fd : FuncData} {ps ks : List Str} {sp : Sp} {E : L2.St → XK} {x : Str} {p pos : Pos} {kws : List Keyword} {tk : TA} {gb : List Value → List Value → List Value} {gV : List V → List V → List V}
/-- a new object by keywords, its __init__ may raise -/
theorem run_makeS {pins : List (Addr × Obj)} {σ : L2.St} {H : Hp} {s : Shared} {Q : VK} {ws : List Value} {zs : List V} (M : Mk X.K C f) (F : FnOk X.prog X.w X.K X.mg X.base CX k f fd ps sp) (room : Room (k + 1) X.A) (b : KBn X.K fd ps 1 ks gb gV) (pass : PassesAt CX X σ (E σ))
    (I : Inv X pins σ H s) (rz : Vals zs ws) (lz : zs.length = ks.length)
    (had : ∀ c dx, H c = none → H dx = none → dx ≠ c → sp (gV [.ref c] zs) (upd (upd H dx (.own c)) c (.ins C dx [])) (fun v G => v = .non ∧ Q (.ref c) G) (E σ)) :
    wpAny (model X.prog X.w) X.A (call (.ref C) [] (ks.zip ws)) (EP X pins σ Q) X.xe s := by
  have free : ∀ c, s.heap.objs.size ≤ c → H c = none := fun c le => I.hok.fresh le
  have had1 := had (s.heap.objs.size + 1) s.heap.objs.size (free _ (Nat.le_succ _)) (free _ (Nat.le_refl _)) (Nat.ne_of_lt (Nat.lt_succ_self _))
  have I2 := Inv.made I (C := C)
  have self : Vals [V.ref (s.heap.objs.size + 1)] [Value.ref (s.heap.objs.size + 1)] := .cons rfl .nil
  refine wpAny_call (make_map (f := f) I.kIn M.makes M.init (beq_iff_eq.mp M.fn) (codeAny_mono (F.run _ X.stack _ _ ⟨[Value.ref (s.heap.objs.size + 1)], ks.zip ws⟩ (gb [Value.ref (s.heap.objs.size + 1)] ws) _ _ (E σ) (room.make C [] (ks.zip ws))
    (I2.env0.make C [] (ks.zip ws)) (b.to _ _ ws I2.kIn rfl (rz.length.symm.trans lz)) (b.rel self rz) had1) fun r s2 told => ?_))
  match r, told with
  | .error e, told => exact pass pins _ _ e s2 I2 told
  | .ok (.ret u), told =>
    obtain ⟨v, G, I3, ru, rfl, q⟩ := I2.after told
    exact ⟨ru, V.ref (s.heap.objs.size + 1), G, I3, rfl, q⟩
  | .ok .next, told => exact told.elim
  | .ok .brk, told => exact told.elim
  | .ok .cont, told => exact told.elim
/-- C(k = v, ..) -/
def tMakeS (C : Addr) (m : Nat) (sp : Sp) (gV : List V → List V → List V) (E : L2.St → XK) (tk : TA) : TE := fun σ H Q => tk σ H fun zs G => zs.length = m ∧ ∀ c dx, G c = none → G dx = none → dx ≠ c →
  sp (gV [.ref c] zs) (upd (upd G dx (.own c)) c (.ins C dx [])) (fun v G2 => v = .non ∧ Q (.ref c) G2) (E σ)
theorem pe_makeS (M : Mk X.K C f) (F : FnOk X.prog X.w X.K X.mg X.base CX k f fd ps sp) (room : Room (k + 1) X.A) (g : Gl X x) (m : X.mg x = some (.ref C)) (b : KBn X.K fd ps 1 ks gb gV) (pass : ∀ σ, PassesAt CX X σ (E σ)) (kw : PK X kws tk)
    (hall : (backToKw pos (keywordEach kws X.env)).all (·.1.isSome) = true := by rfl) (hks : (backToKw pos (keywordEach kws X.env)).filterMap (·.1) = ks := by rfl) (nodebug : (x == ("__debug__" : Str)) = false := by decide)
    (star : ((backTo pos (starEach [] X.env)).any (·.1) ||
      (backToKw pos (keywordEach kws X.env)).any (·.1.isNone)) = false := by rfl) :
    PE X (.Call (.Name x p) [] kws pos) (tMakeS C ks.length sp gV E tk) := by
  constructor
  intro pins s σ H Q I had
  refine wpAny_Call_Name_kw (ld_glob I g m ?_ nodebug)
  refine PySem.W.callWith_KW0 (h₀ := X.base) I.ok.mod.kin M.kp hall (thn (kw.run pos pins s σ H _ I had) ?_) star
  rintro ws s2 ⟨zs, G2, I2, rz, lz, q⟩
  rw [hks]
  exact ⟨I2.kIn, run_makeS M F room b (pass σ) I2 rz lz q⟩
end
end MkS

/-! a call of a class method that may raise -/
namespace MkS
open PySem PySem.Spec PyProof.Rows L2 ClX
section
variable {X : Cx} {CX : CXT} {k : Nat} {C p g : Addr} {mc : Value} {fd : FuncData} {ps : List Str} {sp : Sp} {E : L2.St → XK} {m : Str} {pos apos : Pos} {o e : Expr} {es : List Expr} {to : TE} {t : TA} {pl : Sem Bool}
def tCMethS (C : Addr) (sp : Sp) (E : L2.St → XK) (to : TE) (t : TA) : TE := fun σ H Q => to σ H fun x G => x = .ref C ∧ t σ G fun zs G2 => sp (.ref C :: zs) G2 Q (E σ)
/-- K.m(e, ..) -/
theorem pe_cmethS (he : PE X o to) (r : CRead X.K C mc) (c : CMet X.K C mc m p g) (F : FnOk X.prog X.w X.K X.mg X.base CX k g fd ps sp) (room : Room k X.A) (b : Binds X.K fd ps []) (pass : ∀ σ, PassesAt CX X σ (E σ)) (ha : PA X (e :: es) t)
    (one : starEach (e :: es) X.env = (false, eval e X.env) :: starEach es X.env := by rfl) (more : (backTo pos (starEach es X.env)).any (·.1) = false := by rfl)
    (road : eval (.Call (.Attribute o m apos) (e :: es) [] pos) X.env = (do
      let it ← eval o X.env
      standAt apos.atName
      let (fn, self) ← holding [it] (getMethod it m pl)
      callWith pos fn self (backTo pos (starEach (e :: es) X.env)) (backToKw pos (keywordEach [] X.env))) := by rfl) :
    PE X (.Call (.Attribute o m apos) (e :: es) [] pos) (tCMethS C sp E to t) := by
  constructor
  intro pins s σ H Q I had
  refine PySem.W.methodCall_KW (pl := pl) (thn (he.run pins s σ H _ I had) ?_) road
  rintro u s1 ⟨x, G, I1, ru, rfl, q⟩
  cases (show u = Value.ref C from ru)
  refine getmethcm_ok I1 r c ?_
  intro s2 I2
  refine callwith_cm I2 (base_none I1 (Nat.le_refl _)) c.fi (thn (ha.run pos _ s2 σ G _ I2 q) ?_) one more
  rintro us s3 ⟨zs, G2, I3, rz, q2⟩
  refine ⟨⟨pin_at I3, I3.kIn⟩, ?_⟩
  have both : Vals (V.ref C :: zs) (Value.ref C :: us) := .cons rfl rz
  have len : (Value.ref C :: us).length = ps.length := both.length.symm.trans (F.len _ _ _ _ q2)
  have args := b s3 (.ref C :: us) I3.kIn (by rw [List.append_nil]; exact len)
  rw [List.append_nil] at args
  have z : wpAny (model X.prog X.w) X.A (call (.ref s1.heap.objs.size) us) (EP X ((s1.heap.objs.size, PySem.W.methodObj (.ref g) (.ref C)) :: pins) σ Q) X.xe s3 := by
    refine wpAny_call (PySem.W.method_call (pin_at I3) (codeAny_mono (F.run X.A X.stack s3 G2 ⟨.ref C :: us, []⟩ (.ref C :: us) (.ref C :: zs) Q (E σ) room I3.env0 args both q2) ?_))
    intro r s4 told
    match r, told with
    | .error e, told => exact pass σ _ _ _ e s4 I3 told
    | .ok (.ret u), told => exact I3.after told
    | .ok .next, told => exact told.elim
    | .ok .brk, told => exact told.elim
    | .ok .cont, told => exact told.elim
  exact thn z fun _ _ told => unpinE told
end
end MkS

/-! more calls that may raise: a method without arguments, a class in a local name; a def with defaults where an exception is handled -/
namespace MkS
open PySem PySem.Spec PyProof.Rows L2
section
variable {X : Cx} {CX : CXT} {k : Nat} {f C : Addr} {fd : FuncData} {ps : List Str} {sp : Sp} {E : L2.St → XK} {m : Str} {pos apos : Pos} {o : Expr} {ta : TE} {pl : Sem Bool}
/-- o.m() -/
def tMethS0 (C : Addr) (m : Str) (sp : Sp) (E : L2.St → XK) (ta : TE) : TE := fun σ H Q => ta σ H fun x H1 => ∃ a dx fs, x = .ref a ∧ H1 a = some (.ins C dx fs) ∧ fs.lookup m = none ∧ sp [.ref a] H1 Q (E σ)
theorem pe_methS0 (he : PE X o ta) (c : Cls X.K C) (hm : Meth X.K C m f) (F : FnOk X.prog X.w X.K X.mg X.base CX k f fd ps sp) (room : Room k X.A) (b : Binds X.K fd ps []) (pass : ∀ σ, PassesAt CX X σ (E σ))
    (road : eval (.Call (.Attribute o m apos) [] [] pos) X.env = (do
      let it ← eval o X.env
      standAt apos.atName
      let (fn, self) ← holding [it] (getMethod it m pl)
      callWith pos fn self (backTo pos (starEach [] X.env)) (backToKw pos (keywordEach [] X.env))) := by rfl) :
    PE X (.Call (.Attribute o m apos) [] [] pos) (tMethS0 C m sp E ta) := by
  constructor
  intro pins s σ H Q I had
  refine PySem.W.methodCall_KW (pl := pl) (thn (he.run pins s σ H _ I had) ?_) road
  rintro u s1 ⟨x, H1, I1, ru, a, dx, fs, rfl, at_, no, q⟩
  cases (show u = Value.ref a from ru); skip
  refine getmeth_ok I1 at_ c hm no (PySem.W.callWith_K0 (first := [.ref a]) I1.kIn hm.kp ?_)
  exact run_fnS (us := [.ref a]) (vs := [.ref a]) F room b (pass σ) I1 (.cons rfl .nil) q
end
section
variable {X : Cx} {CX : CXT} {k i : Nat} {f C : Addr} {fd : FuncData} {ps ks : List Str} {sp : Sp} {E : L2.St → XK} {x : Str} {p pos : Pos} {kws : List Keyword} {tk : TA} {gb : List Value → List Value → List Value} {gV : List V → List V → List V}
/-- the i-th slot holds the class C: name(k = v, ..), its __init__ may raise -/
def tMakeLS (i : Nat) (C : Addr) (m : Nat) (sp : Sp) (gV : List V → List V → List V) (E : L2.St → XK) (tk : TA) : TE := fun σ H Q => σ[i]? = some (some (.ref C)) ∧ tMakeS C m sp gV E tk σ H Q
theorem pe_makeLS (M : Mk X.K C f) (F : FnOk X.prog X.w X.K X.mg X.base CX k f fd ps sp) (room : Room (k + 1) X.A) (at_ : X.N[i]? = some x) (vis : Vis X.env.scope x) (b : KBn X.K fd ps 1 ks gb gV) (pass : ∀ σ, PassesAt CX X σ (E σ)) (kw : PK X kws tk)
    (hall : (backToKw pos (keywordEach kws X.env)).all (·.1.isSome) = true := by rfl) (hks : (backToKw pos (keywordEach kws X.env)).filterMap (·.1) = ks := by rfl) (d1 : (x == ("__debug__" : Str)) = false := by decide) (d2 : (x == ("__classdict__" : Str)) = false := by decide)
    (star : ((backTo pos (starEach [] X.env)).any (·.1) ||
      (backToKw pos (keywordEach kws X.env)).any (·.1.isNone)) = false := by rfl) :
    PE X (.Call (.Name x p) [] kws pos) (tMakeLS i C ks.length sp gV E tk) := by
  constructor
  rintro pins s σ H Q I ⟨slot, had⟩
  refine wpAny_Call_Name_kw (thn ((pe_var (pos := p) at_ vis d1 d2).run pins s σ H (fun v G => v = .ref C ∧ G = H) I ⟨.ref C, slot, rfl, rfl⟩) ?_)
  rintro u s1 ⟨v, G, I1, rv, rfl, rfl⟩
  cases (show u = Value.ref C from rv)
  refine PySem.W.callWith_KW0 (h₀ := X.base)
    I.ok.mod.kin M.kp hall ?_ star
  refine thn (kw.run pos pins s1 σ G _ I1 had) ?_
  rintro ws s2 ⟨zs, G2, I2, rz, lz, q⟩
  rw [hks]
  exact ⟨I2.kIn, run_makeS M F room b (pass σ) I2 rz lz q⟩
end
end MkS
namespace L2
open PySem PySem.Spec PyProof.Rows
section
variable {P : Program} {w : World} {K : PySem.W.Frag} {mg : Str → Option Value} {base : Heap}
/-- a def with defaults called where an exception is handled, lets none out -/
theorem FunD.okH {x qual : Str} {params : Arguments} {body : List Stmt} {scope : Scope} {dvs : List V} {kws : List (Str × V)} {f : Addr} {fd : FuncData} {N ps : List Str} {k : Nat} {sp : Sp} (F : FunD K x qual params body scope dvs kws f fd) (S : FnScope N ps scope) (len : ∀ vs H Q E, sp vs H Q E → vs.length = ps.length)
    (walk : ∀ (cdv : Value) (A : Around) (outer : List Env) (s : Shared) (H : Hp) (vs : List V) (Q : VK) (E : XK) (p : Addr × Obj), L2H.Hot1 A p → L2H.RoomH k (A.deeper (envOfC qual scope s.heap.objs.size f cdv)) → sp vs H Q E →
      ∃ t, PSs (L2H.cxH CX0 P w K mg base N qual scope f cdv A outer s H E p).nox body t ∧ t { nx := fun _ H' => Q .non H', rt := Q } (start N vs) H) : L2H.FnH P w K mg base CX0 (k + 1) f fd ps sp := by
  obtain ⟨oc, od, dV, kV, doc, pm, an, cdv, ct, osl, rfl, lk, hcd, _, _⟩ := F.ex
  refine L2H.fn_ofH lk hcd S len fun A outer s H vs Q E p hot hr hsp => ?_
  obtain ⟨t, h, q⟩ := walk cdv A outer s H vs Q E p hot hr hsp
  exact ⟨t, h.nox, q⟩
/-- no keyword written: as if called by position with the defaults -/
theorem KBn.binds {fd : FuncData} {ps : List Str} {gb : List Value → List Value → List Value} {gV : List V → List V → List V} {ds : List Value} (b : KBn K fd ps 1 [] gb gV) (h : ∀ u, gb [u] [] = u :: ds) (hl : ps.length = ds.length + 1) : Binds K fd ps ds := by
  intro s us X l
  have e : us.length = 1 := by
    rw [List.length_append] at l
    omega
  match us, e with
  | [u], _ =>
    have z := b.to s [u] [] X rfl rfl
    rw [h u] at z
    exact z
end
end L2
namespace L2
open PySem PySem.Spec PyProof.Rows
theorem ix_kdictK {X : Cx} {K : PySem.W.Frag} {w : World} (h : X.K = K) (hw : X.w = w) : IxR X (rIxD K w) := by
  subst h
  subst hw
  exact ix_kdict
end L2
namespace L2
open PySem PySem.Spec PyProof.Rows
theorem pe_fldK {X : Cx} {K : PySem.W.Frag} {e : Expr} {f : Str} {pos : Pos} {ta : TE} (h : X.K = K) (it : PE X e ta) (hb : attributeBase e f X.env (eval e X.env) = eval e X.env) : PE X (.Attribute e f pos) (tFld K ta f) := by
  subst h
  exact pe_fld it hb
end L2

/-! == and repr of an instance with its own __eq__, __repr__ -/
namespace OwI
open PySem PySem.Spec PyProof.Rows L2
theorem stands {X : Cx} {pins : List (Addr × Obj)} {σ : L2.St} {H : Hp} {s : Shared} {a C dx : Addr} {fs : List (Str × V)} (I : Inv X pins σ H s) (e : H a = some (.ins C dx fs)) : ∃ o od, PySem.W.InstAt s.heap a o C (some od) := by
  obtain ⟨mA, O, _⟩ := ins_get I.hok e
  obtain ⟨od, J, _⟩ := O.look
  exact ⟨_, od, J⟩
/-- x op y, x an instance of the class at C whose def for op is at g, y an instance of the same class -/
def rOwnI (K : PySem.W.Frag) (C : Addr) (sp : Sp) (E : XK) : R2 := fun x y H Q => ∃ a dx fs b dy gs, x = .ref a ∧ y = .ref b ∧ H a = some (.ins C dx fs) ∧ H b = some (.ins C dy gs) ∧ PySem.W.notFirst K C (.ref C) = true ∧ sp [x, y] H Q E
section
variable {X : Cx} {CX : CXT} {C g : Addr} {n : Nat} {sp : Sp} {E : XK}
theorem op_ownI {op : CmpOp} (road : ∀ a b, compareOp op a b = richCompare op a b) (own : PySem.W.findIn X.K (.ref C) (cmpInfo op).2.1 = some (some (.ref g))) (isf : PySem.W.isFn X.K (.ref g) = true) (F : FnR X.prog X.w X.K X.mg X.base CX n g sp)
    (room : Room n X.A) (pass : Passes CX X E) : OpR X (compareOp op) (rOwnI X.K C sp E) := by
  rintro pins s σ H _ _ v u Q I rv ru ⟨a, dx, fs, b, dy, gs, rfl, rfl, ha, hb, nf, had⟩
  cases (show v = Value.ref a from rv)
  cases (show u = Value.ref b from ru)
  obtain ⟨o, od, J⟩ := stands I ha
  obtain ⟨o2, od2, J2⟩ := stands I hb
  obtain ⟨m, fr⟩ := I.fr
  rw [road]
  refine PySem.W.cmp_K (op := op) (tb := .ref C) room.units0 fr I.ok.mod.kin J J2.type nf own isf ?_
  refine wpAny_mono (wpAny_call (run_fnR (us := [.ref a, .ref b]) (vs := [.ref a, .ref b]) F room pass I (.cons rfl (.cons rfl .nil)) had)) ?_ fun _ _ z => z
  rintro w z ⟨y, G, I2, ry, q⟩
  exact SlX.cmpback ry ⟨y, G, I2, ry, q⟩
/-- repr(x), x an instance of the class at C with its own __repr__ at g -/
def rReprI (C : Addr) (sp : Sp) (E : XK) : List V → Hp → VK → Prop := fun xs H Q => ∃ a dx fs, xs = [.ref a] ∧ H a = some (.ins C dx fs) ∧ sp [.ref a] H (fun y G => ∃ t : Str, y = .str t ∧ Q y G) E
theorem call_reprI (own : PySem.W.findIn X.K (.ref C) "__repr__" = some (some (.ref g))) (isf : PySem.W.isFn X.K (.ref g) = true) (F : FnR X.prog X.w X.K X.mg X.base CX n g sp) (room : Room (n + 1) X.A) (pass : Passes CX X E) : CallR X (.builtin "repr") (rReprI C sp E) := by
  rintro pins s σ H _ us Q I rel ⟨a, dx, fs, rfl, ha, had⟩
  obtain ⟨u, rfl, ru⟩ := vals1 rel
  cases (show u = Value.ref a from ru); skip
  obtain ⟨o, od, J⟩ := stands I ha
  obtain ⟨m, fr⟩ := I.fr
  have room1 : Room n X.A.in1 := Room.in1 room
  refine PySem.W.repr_K room1.units0 fr I.ok.mod.kin J own isf ?_
  refine wpAny_mono (wpAny_call (SlX.run_at (us := [.ref a]) (ws := [.ref a]) F room1 I.env0.in1 pass I (.cons rfl .nil) had)) ?_ fun _ _ z => z
  rintro w z ⟨y, G, I2, ry, t, rfl, q⟩
  obtain ⟨tk, rfl⟩ := (show ∃ tk, w = Value.str t tk from ry)
  exact ⟨.str t, G, I2, ⟨tk, rfl⟩, q⟩
end
end OwI

/-! star defs that raise, and those whose keyword-only parameter is left out -/
namespace StK
open PySem PySem.Spec PyProof.Rows L2 StX
theorem upN {P : Program} {w : World} : CXUp (L2N.CX P w) := by
  intro outer s H s2 H2 E e s' un kp os h
  obtain ⟨a, B, G, cls, d, r, fly, ok, ub, free, os', bare, he⟩ := h
  have back : ∀ b o, s.heap.get? b = some o → H b = none → H2 b = none := fun b o q n => un.free b o q n (by simp)
  have ub' : UB (frs outer) H G s.heap B s'.heap := {
    keep := fun b o q n out => ub.keep b o (kp b o q) (back b o q n) out
    slot := fun b o q => ub.slot b o (kp b o q)
    free := fun b o q n => ub.free b o (kp b o q) (back b o q n)
    there := fun b o q => ub.there b o (kp b o q)
    tups := fun b xs q => ub.tups b xs (un.tups b xs q)
    frzs := fun b o xs q => ub.frzs b o xs (un.frzs b o xs q)
    tbls := fun b ps q => by
      obtain ⟨m1, x1⟩ := un.tbls b ps q
      obtain ⟨m2, x2⟩ := ub.tbls b _ x1
      exact ⟨m1 ++ m2, by rw [x2, Array.append_assoc]⟩ }
  exact ⟨a, B, G, cls, d, r, fly, ok, ub', free, os'.trans os, bare, he⟩
section
variable {CX : CXT} {P : Program} {w : World} {K : PySem.W.Frag} {mg : Str → Option Value} {base : Heap} {k n : Nat} {f : Addr} {name qual : Str} {params : Arguments} {body : List Stmt} {scope : Scope} {dV kV doc pm cdv ct oc : Value} {an od : Option Addr}
  {osl : Array (Option Value)} {N ps : List Str} {sp : Sp}
/-- def f(a, .., *v, q = dv), called without q -/
theorem fn_starD {pv q : Str} {D : Addr} {dv : V} {du : Value} (at_ : K.lookup f = some ⟨oc, od, .func (PySem.W.fnOf name qual params body scope dV kV doc pm an cdv ct), osl⟩) (code : PySem.W.codeIn K cdv qual = true) (S : FnScope N (ps ++ [pv]) scope) (up : CXUp CX) (hps : ps.length = n + 1)
    (isq : PySem.W.nsIn K D q = some (some du)) (rq : RelV dv du)
    (bind : ∀ us rest : List Value, us.length = n → ∃ (β γ : Type) (k1 : Option Value → Sem β) (k2 : β → Sem γ) (k3 : γ → Sem (List (Str × Value))) (a : β), bindArgs (PySem.W.fnOf name qual params body scope dV kV doc pm an cdv ct) ⟨us ++ rest, []⟩ = ((nsGet D q >>= k1) >>= k2) >>= k3 ∧
      k1 (some du) = pure a ∧ (k2 a >>= k3) = (newTuple rest >>= fun t => pure (ps.zip (us ++ [du]) ++ [(pv, t)])))
    (run : ∀ (A : Around) (outer : List Env) (s : Shared) (H : Hp) (vs : List V) (Q : VK) (E : XK), Room k (A.deeper (envOfC qual scope s.heap.objs.size f cdv)) → sp vs H Q E →
      ∃ t, PSs (cxOf CX P w K mg base N qual scope f cdv A outer s H E) body t ∧ t { nx := fun _ H' => Q .non H', rt := Q } (start N vs) H) :
    FnR P w K mg base CX (k + 1) f (fun vs H Q E => ∃ hd rest, vs = hd ++ rest ∧ hd.length = n ∧ rest.length ≤ sizeLine ∧ ∀ p, H p = none → sp ((hd ++ [dv]) ++ [V.ref p]) (upd H p (.tup rest)) Q E) := by
  rintro A outer s H us vs Q E room env rv ⟨hd, rest, rfl, lh, small, goes⟩
  obtain ⟨u1, u2, rfl, r1, r2⟩ := vals_split rv
  have free : H s.heap.objs.size = none := env.hok.fresh (Nat.le_refl _)
  have l1 : u1.length = n := r1.length.symm.trans lh
  have few : u2.length ≤ sizeLine := by
    rw [← r2.length]
    exact small
  have KX : K.In s.heap := env.mod.kin.keeps fun b o e => (env.bs b o e).1
  let here : Obj := { cls := .type "tuple", data := .seq u2.toArray }
  refine run_bnd at_ code S room env (G := fun xs G => ∃ p, H p = none ∧ xs = (hd ++ [dv]) ++ [V.ref p] ∧ G = upd H p (.tup rest)) (fun A' Ex Q' told => ?_) ?_
  · obtain ⟨β, γ, k1, k2, k3, a, e1, e2, e3⟩ := bind u1 u2 l1
    rw [e1, bind_assoc]
    refine wpAny_bind (((PySem.W.looks_nsIn KX isq).andThen (PySem.W.Looks.of_pure e2)).here ?_)
    rw [e3]
    refine wpAny_bind (wpAny_newTuple (wpAny_pure ?_) few)
    have laid : ObjOk P w (upd H s.heap.objs.size (.tup rest)) (s.heap.push here) s.heap.objs.size (.tup rest) := ⟨small, u2, r2, _, Heap.get?_push_size _ rfl, rfl, _, rfl⟩
    have un : Un (frs outer) [] H (upd H s.heap.objs.size (.tup rest)) s.heap (s.heap.push here) := un_laid free
    have len : ((hd ++ [dv]) ++ [V.ref s.heap.objs.size]).length = (ps ++ [pv]).length := by
      rw [List.length_append, List.length_append, List.length_append, lh, hps]
      rfl
    have got := told _ _ ((hd ++ [dv]) ++ [V.ref s.heap.objs.size]) ((u1 ++ [du]) ++ [Value.ref s.heap.objs.size]) (env0_laid env laid) un rfl
      (fun e s' => up outer s H _ _ E e s' un (fun b o q => Heap.get?_push_of_some _ q) rfl) ((r1.append (.cons rq .nil)).append (.cons rfl .nil)) len ⟨_, free, rfl, rfl⟩
    have cut : ps.length = (u1 ++ [du]).length := by rw [List.length_append, l1, hps]; rfl
    rw [List.zip_append cut] at got
    exact got
  · rintro s2 _ _ ⟨p, hp, rfl, rfl⟩ room'
    exact run A outer s2 _ _ Q E room' (goes p hp)
end
section
variable {X : Cx} {CX : CXT} {k : Nat} {f : Addr} {ks : List Str} {q : List V → List V → Hp → VK → XK → Prop} {sp : Sp} {x : Str} {p pos : Pos} {e : Expr} {es : List Expr} {kws : List Keyword} {t tk : TA}
def tCallFKS (q : List V → List V → Hp → VK → XK → Prop) (n : Nat) (E : L2.St → XK) (t tk : TA) : TE := fun σ H Q => t σ H fun vs H1 => tk σ H1 fun zs H2 => zs.length = n ∧ q vs zs H2 Q (E σ)
/-- the same of a def that may raise -/
theorem pe_callFKS {E : L2.St → XK} (F : FnK X.prog X.w X.K X.mg X.base CX k f ks q) (room : Room k X.A) (gl : Gl X x) (there : X.mg x = some (.ref f)) (kp : PySem.W.keepIn X.K (.ref f) = true) (pass : ∀ σ, PassesAt CX X σ (E σ))
    (ha : PA X (e :: es) t) (hk : PK X kws tk) (each : (backToKw pos (keywordEach kws X.env)).all (·.1.isSome) = true := by rfl) (names : (backToKw pos (keywordEach kws X.env)).filterMap (·.1) = ks := by rfl)
    (nd : (x == ("__debug__" : Str)) = false := by decide) (st : starEach (e :: es) X.env = (false, eval e X.env) :: starEach es X.env := by rfl)
    (pl : ((backTo pos (starEach (e :: es) X.env)).any (·.1) || (backToKw pos (keywordEach kws X.env)).any (·.1.isNone)) = false := by rfl) :
    PE X (.Call (.Name x p) (e :: es) kws pos) (tCallFKS q ks.length E t tk) := by
  refine ⟨fun pins s σ H Q I h => wpAny_Call_Name_kw (ld_glob I gl there ?_ nd)⟩
  refine PySem.W.callWith_KW (h₀ := X.base) I.ok.mod.kin kp each (thn (ha.run pos pins s σ H _ I h) ?_) pl st
  rintro us s1 ⟨vs, H1, I1, r, g1⟩
  refine thn (hk.run pos pins s1 σ H1 _ I1 g1) ?_
  rintro ws s2 ⟨zs, H2, I2, rz, lz, g2⟩
  refine ⟨I2.kIn, ?_⟩
  rw [names]
  refine wpAny_call (codeAny_mono (F X.A X.stack s2 H2 us ws vs zs Q (E σ) room I2.env0 r rz lz g2) fun out s' h' => ?_)
  match out, h' with
  | .error e, h' => exact pass σ pins H2 s2 e s' I2 h'
  | .ok (.ret u), h' => exact I2.after h'
  | .ok .next, h' => exact h'.elim
  | .ok .brk, h' => exact h'.elim
  | .ok .cont, h' => exact h'.elim
/-- f(e, ..), f told of its values alone -/
theorem pe_callR {E : XK} (F : FnR X.prog X.w X.K X.mg X.base CX k f sp) (room : Room k X.A) (gl : Gl X x) (there : X.mg x = some (.ref f)) (kp : PySem.W.keepIn X.K (.ref f) = true) (pass : Passes CX X E)
    (ha : PA X (e :: es) t) (nd : (x == ("__debug__" : Str)) = false := by decide) (st : starEach (e :: es) X.env = (false, eval e X.env) :: starEach es X.env := by rfl) (pl : (backTo pos (starEach es X.env)).any (·.1) = false := by rfl) :
    PE X (.Call (.Name x p) (e :: es) [] pos) (fun σ H Q => t σ H fun vs H1 => sp vs H1 Q E) := by
  refine ⟨fun pins s σ H Q I h => wpAny_Call_Name_kw (ld_glob I gl there ?_ nd)⟩
  refine PySem.W.callWith_K (h₀ := X.base) I.ok.mod.kin kp (thn (ha.run pos pins s σ H _ I h) ?_) st pl
  rintro us s1 ⟨vs, H1, I1, r, g1⟩
  exact ⟨I1.kIn, wpAny_call (run_fnR F room pass I1 r g1)⟩
end
end StK

/-! tuple(reversed(t)), t a tuple; in and not in of a tuple of data -/
namespace RvT
open PySem PySem.Spec PyProof.Rows L2 RT
theorem sized_no : typeLookup (.type "reversed") "__len__" = pure none := by
  rw [typeLookup_type, builtinLookup_eq_fast]
  kernel_rfl
theorem sized_hint : typeLookup (.type "reversed") "__length_hint__" = pure (some (.builtin "reversed.__length_hint__")) := by
  rw [typeLookup_type, builtinLookup_eq_fast]
  kernel_rfl
section
variable {prog : Program} {w : World} {A : Around} {E : Value → Shared → Prop} {s : Shared}
theorem tup_at {h h' : Heap} {t : Addr} {vs : Array Value} (x : IsTup h t vs) (e : ∀ o, h.get? t = some o → h'.get? t = some o) : IsTup h' t vs := by
  obtain ⟨o, ho, hc, n, hd⟩ := x
  exact ⟨o, e _ ho, hc, n, hd⟩
/-- a walk from a tuple's end -/
theorem backWalk (calm : A.handled = none) (I t : Addr) (ne : t ≠ I) (vs : Array Value) (small : vs.size ≤ sizeLine) :
    Walks prog w A I [I, t] [I] vs.size (fun k v => vs[vs.size - 1 - k]? = some v) (fun k h => k ≤ vs.size ∧ IsRt h I t ((vs.size : Int) - 1 - (k : Int)) ∧ IsTup h t vs) where
  sub b hb := by
    rw [List.mem_singleton.mp hb]
    exact List.mem_cons_self
  frame k h h' x kp := ⟨x.1, IsRt.at x.2.1 fun o e => kp I List.mem_cons_self o e, tup_at x.2.2 fun o e => kp t (List.mem_cons_of_mem _ List.mem_cons_self) o e⟩
  item k s Q E lt x told := by
    obtain ⟨_, at_, tup⟩ := x
    have there : vs.size - 1 - k < vs.size := by omega
    have get : vs[vs.size - 1 - k]? = some vs[vs.size - 1 - k] := Array.getElem?_eq_getElem there
    rw [show (vs.size : Int) - 1 - (k : Int) = ((vs.size - 1 - k : Nat) : Int) by omega] at at_
    refine next_rt_item at_ tup get small fun h' more same => ?_
    rw [show ((vs.size - 1 - k : Nat) : Int) - 1 = (vs.size : Int) - 1 - ((k + 1 : Nat) : Int) by omega] at more
    exact told _ h' _ get ⟨lt, more, tup_at tup fun o eo => (same.2 t ne).trans eo⟩ fun b o nb eo => (same.2 b fun z => nb (by rw [z]; exact List.mem_cons_self)).trans eo
  done s Q E x told := by
    obtain ⟨_, at_, _⟩ := x
    rw [show (vs.size : Int) - 1 - (vs.size : Int) = -1 by omega] at at_
    exact next_rt_end calm at_ fun h' ext => told h' _ fun b o nb eo => ext b o (fun z => nb (by rw [z]; exact List.mem_cons_self)) eo
  self _ _ _ _ x told := iter_rt x.2.1 told
end
end RvT
namespace RvT
open PySem PySem.Spec PyProof.Rows L2 RT
section
variable {X : Cx}
/-- x in t, t a tuple of data -/
def rInT (K : PySem.W.Frag) : R2 := fun x y H Q => ∃ d ds, Dp K H x d ∧ Dp K H y (.tuple ds) ∧ SeqAt.shaped d = true ∧ SeqAt.shaped (.list ds) = true ∧ Q (.bl (ds.any fun z => PyData.eqv z d)) H
def rNotInT (K : PySem.W.Frag) : R2 := fun x y H Q => ∃ d ds, Dp K H x d ∧ Dp K H y (.tuple ds) ∧ SeqAt.shaped d = true ∧ SeqAt.shaped (.list ds) = true ∧ Q (.bl (!ds.any fun z => PyData.eqv z d)) H
theorem op_inT (room : X.A.units + 65 < cLine) : OpR X (compareOp .In) (rInT X.K) := by
  rintro pins s σ H x y v u Q I rx ry ⟨d, ds, dx, dy, sx, sy, goal⟩
  obtain ⟨_, left⟩ := Dp.reads I d x v dx rx
  obtain ⟨_, right⟩ := Dp.reads I (.tuple ds) y u dy ry
  exact SeqAt.in_tuple_reads right left (SeqAt.canLay_of_shaped sy) (SeqAt.canLay_of_shaped sx) (room_in_shaped sx room) ⟨.bl _, H, I, rfl, goal⟩
theorem op_notInT (room : X.A.units + 65 < cLine) : OpR X (compareOp .NotIn) (rNotInT X.K) := by
  rintro pins s σ H x y v u Q I rx ry ⟨d, ds, dx, dy, sx, sy, goal⟩
  obtain ⟨_, left⟩ := Dp.reads I d x v dx rx
  obtain ⟨_, right⟩ := Dp.reads I (.tuple ds) y u dy ry
  exact SeqAt.notIn_tuple_reads right left (SeqAt.canLay_of_shaped sy) (SeqAt.canLay_of_shaped sx) (room_in_shaped sx room) ⟨.bl _, H, I, rfl, goal⟩
end
end RvT

namespace RvT
open PySem PySem.Spec PyProof.Rows L2 RT
theorem hint_kind : builtinKind "reversed.__length_hint__" = some .method := by decide +kernel
theorem hint_slot : Slot "reversed" "__length_hint__" "reversed.__length_hint__" := by
  refine .of (owner := "reversed") (n := "__length_hint__") sized_hint ?_ ?_ ?_ ?_ ?_
  · decide +kernel
  · decide +kernel
  · decide +kernel
  · first | exact Or.inl (by decide +kernel) | exact Or.inr (by decide +kernel)
  · exact PySem.F.sub_reversed_self
theorem hint_entry : entryFor table "reversed.__length_hint__" = some Builtin.«reversed.__length_hint__» := by
  apply entryFor_of_tree
  kernel_rfl
theorem hint_args (a : Value) : argsOk "reversed.__length_hint__" ⟨[a], []⟩ := by
  unfold argsOk
  rw [signature?_of (id := "reversed.__length_hint__") (n := ("__length_hint__".toList.reverse)) (o := ['d', 'e', 's', 'r', 'e', 'v', 'e', 'r']) (by kernel_rfl) owner_rt]
  kernel_rfl
theorem hint_bind (self : Value) : bindSpecial (.builtin "reversed.__length_hint__") self = pure (.builtin "reversed.__length_hint__", [self]) := by
  have no1 : withoutEnding? "reversed.__length_hint__" "#opaque" = none := by decide +kernel
  have no2 : withoutEnding? "reversed.__length_hint__" "#data" = none := by decide +kernel
  simp only [bindSpecial, typeOf, builtinType, no1, no2, hint_kind]
  rfl
section
variable {prog : Program} {w : World} {A : Around} {E : Value → Shared → Prop} {s : Shared}
theorem collect_back {it t : Addr} {vs : Array Value} {Q : List Value → Shared → Prop} (calm : A.handled = none) (at_ : IsRt s.heap it t ((vs.size : Int) - 1)) (tup : IsTup s.heap t vs) (ne : t ≠ it) (small : vs.size ≤ sizeLine)
    (told : ∀ (h' : Heap) (tk : Nat) (acc : Array Value), (∀ b o, b ≠ it → s.heap.get? b = some o → h'.get? b = some o) → ItemsOf (fun k v => vs[vs.size - 1 - k]? = some v) acc vs.size → Q acc.toList { s with heap := h', toks := tk }) :
    wpAny (model prog w) A (collect (.ref it)) Q E s := by
  have W := Walks.toS (backWalk (prog := prog) (w := w) (A := A.in1) calm it t ne vs small)
  have li : it < s.heap.objs.size := by
    obtain ⟨o, ho, _⟩ := at_
    exact Heap.lt_size ho
  have lt : t < s.heap.objs.size := by
    obtain ⟨o, ho, _⟩ := tup
    exact Heap.lt_size ho
  have apart : s.heap.objs.size ∉ [it, t] := fun z => by
    rcases List.mem_cons.mp z with z | z
    · exact Nat.ne_of_gt li z
    · exact Nat.ne_of_gt lt (List.mem_singleton.mp z)
  unfold collect
  apply wpAny_bind
  apply wpAny_runValue
  apply codeAny_builtin F.entry_proto_collect
  rw [Around.under_plainId F.plain_proto_collect]
  show wpAny _ A.in1 (newList [] >>= fun l' => again (.builtin "list.__iadd__" ⟨[l', Value.ref it], []⟩)) _ _ s
  apply wpAny_bind
  refine wpAny_newObj_type ?_
  apply wpAny_pure
  refine And.intro (plainId_quiet F.plain_list_iadd _) (codeAny_builtin F.entry_list_iadd ?_)
  rw [Around.under_plainId F.plain_list_iadd]
  generalize e1 : ({ cls := .type "list", data := .seq ([] : List Value).toArray } : Obj) = ol
  have l1 : (s.heap.push ol).get? s.heap.objs.size = some ol := Heap.get?_push_size _ (by rw [← e1]; rfl)
  have at1 : IsRt (s.heap.push ol) it t ((vs.size : Int) - 1) := IsRt.at at_ fun o e => Heap.get?_push_of_some _ e
  have tup1 : IsTup (s.heap.push ol) t vs := tup_at tup fun o e => Heap.get?_push_of_some _ e
  have ty : ({ s with heap := s.heap.push ol } : Shared).TypeIs (.ref it) "reversed" := IsRt.typeIs (s := { s with heap := s.heap.push ol }) at1
  have other : Builtin.List.listSameRef (.ref s.heap.objs.size) (.ref it) = false := by
    have : s.heap.objs.size ≠ it := Nat.ne_of_gt li
    simp [Builtin.List.listSameRef, this]
  show wpAny _ A.in1 (Builtin.List.listExtendWith (.ref s.heap.objs.size) (.ref it) (.ref s.heap.objs.size)) _ _ _
  unfold Builtin.List.listExtendWith
  apply wpAny_bind
  refine wpAny_typeOf ty ?_
  rw [if_neg (by rw [other]; decide)]
  apply wpAny_bind
  refine iter_rt (s := { s with heap := s.heap.push ol }) at1 ?_
  apply wpAny_bind
  apply wpAny_holding
  unfold Builtin.List.listLengthHint
  apply wpAny_bind
  refine wpAny_specialOf ty sized_no ?_
  show wpAny _ A.in1 (specialOf (Value.ref it) (Str.ofString "__length_hint__") >>= _) _ _ _
  apply wpAny_bind
  refine wpAny_specialOf ty sized_hint ?_
  generalize hid : ("reversed.__length_hint__" : String) = id0
  wp_delta
  rw [show splitId id0 = some ("reversed", "__length_hint__") from by subst hid; decide +kernel]
  subst hid
  refine wpAny_bind (wpAny_isInstance (b := true) ty PySem.F.sub_reversed_self ?_)
  rw [if_neg (by decide)]
  dsimp only
  rw [if_neg (by decide +kernel)]
  refine wpAny_bind (wpAny_rule ?_)
  rw [hint_bind]
  refine wpAny_bind (wpAny_pure ?_)
  apply wpAny_bind
  apply wpAny_attempt
  refine wpAny_call_entry hint_slot ty hint_entry ?_ (hint_args _)
  unfold Builtin.«reversed.__length_hint__»
  refine wpAny_bind (wpAny_of_eq (a := Value.ref it) rfl ?_)
  obtain ⟨o1, ho1, hc1, hd1⟩ := id at1
  refine wpAny_bind (wpAny_field ho1 hd1 (x := .ref t) rfl ?_)
  have ty2 : ({ s with heap := s.heap.push ol } : Shared).TypeIs (.ref t) "tuple" := IsTup.typeOf' tup1
  rw [if_neg (by intro z; cases z)]
  apply wpAny_bind
  refine len_tuple tup1 ?_ ?_
  · have := small
    have l63 := line63
    omega
  refine wpAny_bind (wpAny_of_eq (a := some ((vs.size : Nat) : Int)) rfl ?_)
  dsimp only
  refine wpAny_bind (wpAny_field ho1 hd1 (x := rawInt ((vs.size : Int) - 1)) rfl ?_)
  show wpAny _ _ (if ((vs.size : Nat) : Int) < (vs.size : Int) - 1 + 1 then _ else retInt ((vs.size : Int) - 1 + 1)) _ _ _
  rw [if_neg (by omega), show (vs.size : Int) - 1 + 1 = ((vs.size : Nat) : Int) by omega]
  unfold retInt
  refine wpAny_bind (wpAny_mkInt (wpAny_pure ⟨_, rfl, ?_⟩))
  dsimp only
  generalize hl : ((vs.size : Nat) : Int) = len
  apply wpAny_bind
  refine wpAny_pure ?_
  dsimp only
  have fits : Builtin.List.listFitsIndex len = true := by
    unfold Builtin.List.listFitsIndex
    have l63 := line63
    rw [decide_eq_true (by omega), decide_eq_true (by omega)]
    rfl
  have few : Builtin.List.listTooLong len.toNat = false := by
    unfold Builtin.List.listTooLong
    rw [← hl, Int.toNat_natCast]
    exact decide_eq_false (Nat.not_lt.mpr small)
  have up : ¬ len < 0 := by omega
  simp only [fits, few, up, Bool.not_true, Bool.false_eq_true, if_false]
  refine wpAny_pure ?_
  -- the walk itself, from any heap that holds the empty list
  have e0 : (vs.size : Int) - 1 - ((0 : Nat) : Int) = (vs.size : Int) - 1 := by omega
  have go : ∀ (h2 : Heap) (tk tk0 : Nat) (c : Nat) {R : Result → Shared → Prop}, h2.get? s.heap.objs.size = some { cls := .type "list", dict := none, data := .seq #[] c, slots := #[] } → (∀ b o, b ≠ s.heap.objs.size → s.heap.get? b = some o → h2.get? b = some o) →
      (∀ s' acc' c', Moved (s.heap.objs.size :: [it]) (fun a b => b = a) { s with heap := h2, toks := tk } s' → s'.heap.get? s.heap.objs.size = some { cls := .type "list", dict := none, data := .seq acc' c', slots := #[] } → ItemsOf (fun k v => vs[vs.size - 1 - k]? = some v) acc' vs.size → R (.ok (.ret (.ref s.heap.objs.size))) s') →
      codeAny (model prog w) A (.builtin "list.extend.loop" ⟨[.ref s.heap.objs.size, .ref it, .ref s.heap.objs.size], []⟩) R { s with heap := h2, toks := tk } := fun h2 tk tk0 c R hS ko told2 =>
    codeAny_extend_loopS W small _ apart _ vs.size 0 _ _ _ rfl (Nat.zero_le _) ⟨Nat.zero_le _, by rw [e0]; exact IsRt.at at_ fun o e => ko it o (fun z => Nat.ne_of_gt li z.symm) e, tup_at tup fun o e => ko t o (fun z => Nat.ne_of_gt lt z.symm) e⟩ hS (ItemsOf.nil _) told2
  have fin : ∀ (h2 : Heap) (tk : Nat), (∀ b o, b ≠ s.heap.objs.size → s.heap.get? b = some o → h2.get? b = some o) → ∀ (s' : Shared) (acc' : Array Value) (c' : Nat), Moved (s.heap.objs.size :: [it]) (fun a b => b = a) { s with heap := h2, toks := tk } s' →
      s'.heap.get? s.heap.objs.size = some { cls := .type "list", dict := none, data := .seq acc' c', slots := #[] } → ItemsOf (fun k v => vs[vs.size - 1 - k]? = some v) acc' vs.size →
      wpAny (model prog w) A (load s.heap.objs.size >>= fun o => match o.data with
        | .seq xs _ => pure xs.toList
        | _ => unsupported "internal:collect") Q E s' := fun h2 tk ko s' acc' c' mv here all => by
    refine wpAny_bind (wpAny_load here (wpAny_pure ?_))
    rw [Moved.eq_with mv]
    refine told s'.heap s'.toks acc' (fun b o nb eo => ?_) all
    have nb2 : b ≠ s.heap.objs.size := Nat.ne_of_lt (Heap.lt_size eo)
    refine mv.heap b o (fun z => ?_) (ko b o nb2 eo)
    rcases List.mem_cons.mp z with z | z
    · exact nb2 z
    · exact nb (List.mem_singleton.mp z)
  subst e1
  have h0 : ∀ b o, b ≠ s.heap.objs.size → s.heap.get? b = some o → (s.heap.push { cls := .type "list", data := .seq ([] : List Value).toArray }).get? b = some o := fun b o _ e => Heap.get?_push_of_some _ e
  by_cases nul : len = 0
  · rw [if_neg (by rw [nul]; decide)]
    refine wpAny_pure ⟨plainId_quiet F.plain_extend_loop _, ?_⟩
    refine go _ _ 0 0 l1 h0 ?_
    intro s' acc' c' mv here all
    exact fin _ _ h0 s' acc' c' mv here all
  · rw [if_pos (by rw [show (len != 0) = true from bne_iff_ne.mpr nul]; rfl)]
    refine wpAny_bind (wpAny_rule ?_)
    apply wpAny_bind
    show wpAny _ A.in1 (updateSeq s.heap.objs.size (·.push .none) >>= fun _ => updateSeq s.heap.objs.size (·.pop)) _ _ _
    have l2 := Heap.get?_update_self (Obj.mapSeq (·.push Value.none)) l1 rfl
    have l3 := Heap.get?_update_self (Obj.mapSeq (·.pop)) l2 rfl
    apply wpAny_bind
    refine wpAny_updateSeq l1 rfl ?_
    refine wpAny_updateSeq l2 rfl ?_
    refine wpAny_pure ⟨plainId_quiet F.plain_extend_loop _, ?_⟩
    have h3 : ∀ b o, b ≠ s.heap.objs.size → s.heap.get? b = some o → (((s.heap.push { cls := .type "list", data := .seq ([] : List Value).toArray }).update s.heap.objs.size (Obj.mapSeq (·.push Value.none))).update s.heap.objs.size (Obj.mapSeq (·.pop))).get? b = some o := fun b o nb e =>
      (Heap.get?_update_other _ _ (Ne.symm nb)).trans ((Heap.get?_update_other _ _ (Ne.symm nb)).trans (h0 b o nb e))
    refine go _ _ 0 _ l3 h3 ?_
    intro s' acc' c' mv here all
    exact fin _ _ h3 s' acc' c' mv here all
theorem code_tuple_back {it t : Addr} {vs : Array Value} {Q : Value → Shared → Prop} (calm : A.handled = none) (at_ : IsRt s.heap it t ((vs.size : Int) - 1)) (tup : IsTup s.heap t vs) (ne : t ≠ it) (small : vs.size ≤ sizeLine)
    (told : ∀ (h' : Heap) (tk : Nat) (acc : Array Value), (∀ b o, b ≠ it → s.heap.get? b = some o → h'.get? b = some o) → ItemsOf (fun k v => vs[vs.size - 1 - k]? = some v) acc vs.size →
      Q (.ref h'.objs.size) { s with heap := h'.push { cls := .type "tuple", data := .seq acc }, toks := tk }) :
    codeAny (model prog w) A (.call (.builtin "tuple.__new__") ⟨[.type "tuple", .ref it], []⟩) (wants Q E) s := by
  apply codeAny_of_tree
  show wpAny _ A.in1 (do checkBuiltinCall "tuple.__new__" ⟨[Value.type "tuple", Value.ref it], []⟩; again (.builtin "tuple.__new__" ⟨[Value.type "tuple", Value.ref it], []⟩)) _ _ s
  apply wpAny_bind
  refine wpAny_of_eq (F.newCall_tuple_1 _) (wpAny_pure (And.intro (plainId_quiet F.plain_tuple_new _) (codeAny_builtin F.entry_tuple_new ?_)))
  rw [Around.under_plainId F.plain_tuple_new]
  have isT : s.TypeIs (.ref it) "reversed" := IsRt.typeIs at_
  have calm1 : A.in1.handled = none := calm
  have h_sub := sub_tuple_self
  have h_init := init_tuple_lookup
  have h_made := madeHere_tuple
  wp_walk using wpAny_typeOf isT, collect_back (A := A.in1) calm1 at_ tup ne small
  intro h' tk acc kp all
  show wpAny _ _ (Builtin.Tuple.tupleExact acc.toList.toArray >>= fun u => ret u) _ _ _
  rw [show acc.toList.toArray = acc by simp]
  unfold Builtin.Tuple.tupleExact
  refine wpAny_bind (wpAny_newObj_type (wpAny_pure (told h' tk acc kp all)) ?_)
  show acc.size ≤ sizeLine
  rw [all.1]
  exact small
theorem call_tuple_back {it t : Addr} {vs : Array Value} {Q : Value → Shared → Prop} (calm : A.handled = none) (at_ : IsRt s.heap it t ((vs.size : Int) - 1)) (tup : IsTup s.heap t vs) (ne : t ≠ it) (small : vs.size ≤ sizeLine)
    (told : ∀ (h' : Heap) (tk : Nat) (acc : Array Value), (∀ b o, b ≠ it → s.heap.get? b = some o → h'.get? b = some o) → ItemsOf (fun k v => vs[vs.size - 1 - k]? = some v) acc vs.size →
      Q (.ref h'.objs.size) { s with heap := h'.push { cls := .type "tuple", data := .seq acc }, toks := tk }) :
    wpAny (model prog w) A (call (.type "tuple") [.ref it]) Q E s := by
  refine callType_codes (Q₁ := fun u s1 => s1.TypeIs u "tuple" ∧ Q u s1) F.called_tuple (F.typeCall_tuple_1 _) F.entry_object_init (code_tuple_back (A := A.in1) calm at_ tup ne small ?_) ?_
  · intro h' tk acc kp all
    exact ⟨⟨_, Heap.get?_push_size _ rfl, rfl⟩, told h' tk acc kp all⟩
  · rintro u s1 ⟨isT, q⟩
    exact ⟨isT, F.args_object_init_2 u _, object_init_meets F.called_tuple.init.lookup F.called_tuple.made (by decide) prog w A.in1 _ s1 ⟨isT, rfl, q⟩⟩
end
section
variable {X : Cx}
/-- tuple(reversed(t)), t a tuple: a new tuple -/
def tTupBack (K : PySem.W.Frag) (te : TE) : TE := fun σ H Q => te σ H fun v H1 => ∃ (a : Addr) (xs : List V), v = .ref a ∧ SqT K H1 a xs ∧ ∀ q, H1 q = none → Q (.ref q) (upd H1 q (.tup xs.reverse))
theorem pe_tupBack {e : Expr} {te : TE} {p p2 pos pos2 : Pos} (calm : X.calm = true) (g1 : Gl X "tuple") (m1 : X.mg "tuple" = none) (g2 : Gl X "reversed") (m2 : X.mg "reversed" = none) (he : PE X e te)
    (a1 : starEach [e] X.env = (false, eval e X.env) :: starEach [] X.env := by rfl)
    (a2 : starEach [.Call (.Name "reversed" p2) [e] [] pos2] X.env = (false, eval (.Call (.Name "reversed" p2) [e] [] pos2) X.env) :: starEach [] X.env := by rfl) :
    PE X (.Call (.Name "tuple" p) [.Call (.Name "reversed" p2) [e] [] pos2] [] pos) (tTupBack X.K te) := by
  constructor
  intro pins s σ H Q I had
  refine Call_ (ld_blt I g1 m1 boot_tuple (PyProof.Rows.callWith_type1 (args_cons (Call_ (ld_blt I g2 m2 PyProof.Rows.boot_reversed (PyProof.Rows.callWith_type1 (args_cons (thn (he.run pins s σ H _ I had) fun u s1 got => args_nil ?_) a1) a1 rfl))) a2) a2 rfl))
  obtain ⟨v, H1, I1, r1, a, xs, rfl, hx, goal⟩ := got
  cases (show u = Value.ref a from r1)
  obtain ⟨its, rv, tup, few⟩ := I1.tuple hx
  have ln := rv.length
  have sz : its.toArray.size = xs.length := by rw [List.size_toArray, ← ln]
  have l63 := line63
  refine call_reversed_tup tup (fun A E Q k => len_tuple tup (by rw [sz]; omega) k) (args_nil ?_)
  have k0 : ∀ b o, s1.heap.get? b = some o → (s1.heap.push (rtObj a ((its.toArray.size : Int) - 1))).get? b = some o := fun b o e => Heap.get?_push_of_some _ e
  have I2 : Inv X pins σ H1 { s1 with heap := s1.heap.push (rtObj a ((its.toArray.size : Int) - 1)), toks := s1.toks + 1 + 1 } := I1.kept (t' := s1.toks + 1 + 1) k0
  obtain ⟨p0, p1, p2, p3, p4, p5⟩ := I1.fpOk (H' := H1) (b := s1.heap.objs.size) (Nat.le_refl _) (I1.hok.fresh (Nat.le_refl _))
  have apart : a ≠ s1.heap.objs.size := by
    obtain ⟨o, ho, _⟩ := id tup
    exact Nat.ne_of_lt (Heap.lt_size ho)
  have small : its.toArray.size ≤ sizeLine := by rw [sz]; exact few
  refine call_tuple_back (s := { s1 with heap := s1.heap.push (rtObj a ((its.toArray.size : Int) - 1)), toks := s1.toks + 1 + 1 }) (I1.ok.hd calm) ⟨_, Heap.get?_push_size _ rfl, rfl, rfl⟩ (tup_at tup fun o e => k0 _ _ e) apart small fun h' tk acc kp all => ?_
  have I3 : Inv X pins σ H1 { s1 with heap := h', toks := tk } := I2.turned (t' := tk) (fun b o nb e => kp b o nb e) p0 p1 p3 p4 p5
  have new : ObjOk X.prog X.w (upd H1 h'.objs.size (.tup xs.reverse)) (h'.push { cls := .type "tuple", data := .seq acc }) h'.objs.size (.tup xs.reverse) := by
    refine ⟨by rw [List.length_reverse]; exact few, acc.toList, vals_rev rv all, ?_⟩
    rw [Array.toArray_toList]
    exact IsTup.new _ _
  exact ⟨.ref h'.objs.size, _, I3.laid (t' := tk) (fun c o e => Heap.get?_push_of_some _ e) (Nat.le_refl _) new, rfl, goal _ (I3.hok.fresh (Nat.le_refl _))⟩
end
end RvT

/-! a walk over zip of three lists of one length -/
namespace RZ3
open PySem PySem.Spec PyProof.Rows L2
/-- three lists of one length as they stand, the items in new triples -/
def It3 (K : PySem.W.Frag) (a b c : Addr) : It where
  go i H := ∃ (xs ys zs : List V), SqL K H a xs ∧ SqL K H b ys ∧ SqL K H c zs ∧ ys.length = xs.length ∧ zs.length = xs.length ∧ i < xs.length
  yld i H v H' := ∃ T x y z, v = .ref T ∧ H T = none ∧ H' = upd H T (.tup [x, y, z]) ∧ (∀ xs, SqL K H a xs → xs[i]? = some x) ∧ (∀ ys, SqL K H b ys → ys[i]? = some y) ∧ ∀ zs, SqL K H c zs → zs[i]? = some z
  stop i H := ∃ (xs ys zs : List V), SqL K H a xs ∧ SqL K H b ys ∧ SqL K H c zs ∧ ys.length = i ∧ zs.length = i ∧ xs.length = i
abbrev cells (z TI TO i1 i2 i3 : Addr) : List Addr := [z, TI, TO, i1, i2, i3]
def Tn3 (a b c z TI TO i1 i2 i3 : Addr) (i : Nat) (h : Heap) : Prop :=
  IsZip h z TI TO .none ∧ IsTupOf3 h TI (.ref i1) (.ref i2) (.ref i3) ∧ (∃ x y u, IsTupOf3 h TO x y u) ∧ h.IsListIter i1 a i ∧ h.IsListIter i2 b i ∧ h.IsListIter i3 c i
theorem turn3 {P : Program} {w : World} {K : PySem.W.Frag} {elts : List Expr} {kk : Nat} {tpos : Pos} {a b c z TI TO i1 i2 i3 : Addr} (S : ZipSep3 z TI TO i1 i2 i3 [i1, a] [i2, b] [i3, c]) (n1 : a ≠ i1) (n2 : b ≠ i2) (n3 : c ≠ i3) :
    Turn P w K (.Tuple elts kk tpos) (It3 K a b c) (cells z TI TO i1 i2 i3) z (Tn3 a b c z TI TO i1 i2 i3) where
  mem := List.mem_cons_self
  obj i h st q hq := by
    obtain ⟨hz, hTI, ⟨x, y, u, hTO⟩, ⟨o1, e1, _, d1⟩, ⟨o2, e2, _, d2⟩, ⟨o3, e3, _, d3⟩⟩ := st
    simp only [cells, List.mem_cons, List.not_mem_nil, or_false] at hq
    rcases hq with rfl | rfl | rfl | rfl | rfl | rfl
    · exact ⟨_, hz, fun v e => nomatch e⟩
    · exact ⟨_, hTI, fun v e => nomatch e⟩
    · exact ⟨_, hTO, fun v e => nomatch e⟩
    · exact ⟨o1, e1, fun v e => by rw [d1] at e; cases e⟩
    · exact ⟨o2, e2, fun v e => by rw [d2] at e; cases e⟩
    · exact ⟨o3, e3, fun v e => by rw [d3] at e; cases e⟩
  keep i h h' st k := by
    obtain ⟨hz, hTI, ⟨x, y, u, hTO⟩, h1, h2, h3⟩ := st
    exact ⟨k z (by simp) _ hz, k TI (by simp) _ hTI, ⟨x, y, u, k TO (by simp) _ hTO⟩, h1.at fun o q => k i1 (by simp) o q, h2.at fun o q => k i2 (by simp) o q, h3.at fun o q => k i3 (by simp) o q⟩
  item := by
    rintro X rfl rfl rfl calm i pins s σ H E I free st ⟨xs, ys, zs, q1, q2, q3, l2, l3, lt⟩
    obtain ⟨hz, hTI, ⟨x0, y0, u0, hTO⟩, h1, h2, h3⟩ := st
    obtain ⟨v1, r1, p1, _⟩ := I.list q1
    obtain ⟨v2, r2, p2, _⟩ := I.list q2
    obtain ⟨v3, r3, p3, _⟩ := I.list q3
    have hh : X.A.in1.handled = none := I.ok.hd calm
    have D1 := Draws.list (prog := X.prog) (w := X.w) hh i1 a n1 v1.toArray
    have D2 := Draws.list (prog := X.prog) (w := X.w) hh i2 b n2 v2.toArray
    have D3 := Draws.list (prog := X.prog) (w := X.w) hh i3 c n3 v3.toArray
    have s1 : v1.toArray.size = xs.length := by rw [List.size_toArray, ← r1.length]
    have s2 : v2.toArray.size = ys.length := by rw [List.size_toArray, ← r2.length]
    have s3 : v3.toArray.size = zs.length := by rw [List.size_toArray, ← r3.length]
    have zl : z < s.heap.objs.size := Heap.lt_size hz
    refine wpAny_pyNext_zipD3_item (i := i) S D1 D2 D3 hz hTI hTO ⟨h1, p1.isList⟩ ⟨h2, p2.isList⟩ ⟨h3, p3.isList⟩ (by omega) (by omega) (by omega) fun x1 x2 x3 h' tk g1 g2 g3 z' TO' t1 t2 t3 tup sz kp => ?_
    refine ⟨_, rfl, wpAny_letOwnedTupleGo_zip (s := { s with heap := h', toks := tk }) z' fun h'' z'' sb => ?_⟩
    have tup2 : h''.get? s.heap.objs.size = some { cls := .type "tuple", data := .seq #[x1, x2, x3] } := (sb.2 _ (Nat.ne_of_gt zl)).trans tup
    obtain ⟨u1, e1, w1⟩ : ∃ u, xs[i]? = some u ∧ RelV u x1 := by
      have hx : xs[i]? = some xs[i] := List.getElem?_eq_getElem lt
      obtain ⟨u, hu, ru⟩ := r1.get hx
      rw [← Array.getElem?_toList] at g1
      rw [show v1.toArray.toList = v1 from rfl, hu] at g1
      exact ⟨_, hx, Option.some.inj g1 ▸ ru⟩
    obtain ⟨u2, e2, w2⟩ : ∃ u, ys[i]? = some u ∧ RelV u x2 := by
      have hx : ys[i]? = some ys[i] := List.getElem?_eq_getElem (by omega)
      obtain ⟨u, hu, ru⟩ := r2.get hx
      rw [← Array.getElem?_toList] at g2
      rw [show v2.toArray.toList = v2 from rfl, hu] at g2
      exact ⟨_, hx, Option.some.inj g2 ▸ ru⟩
    obtain ⟨u3, e3, w3⟩ : ∃ u, zs[i]? = some u ∧ RelV u x3 := by
      have hx : zs[i]? = some zs[i] := List.getElem?_eq_getElem (by omega)
      obtain ⟨u, hu, ru⟩ := r3.get hx
      rw [← Array.getElem?_toList] at g3
      rw [show v3.toArray.toList = v3 from rfl, hu] at g3
      exact ⟨_, hx, Option.some.inj g3 ▸ ru⟩
    have new : ObjOk X.prog X.w (upd H s.heap.objs.size (.tup [u1, u2, u3])) h'' s.heap.objs.size (.tup [u1, u2, u3]) :=
      ⟨by show 3 ≤ sizeLine; decide, [x1, x2, x3], .cons w1 (.cons w2 (.cons w3 .nil)), _, tup2, rfl, _, rfl⟩
    have kp2 : ∀ q o, q ∉ cells z TI TO i1 i2 i3 → s.heap.get? q = some o → h''.get? q = some o := fun q o nq e => by
      simp only [cells, List.mem_cons, List.not_mem_nil, or_false, not_or] at nq
      exact (sb.2 q nq.1).trans (kp q o nq.1 nq.2.2.1 nq.2.2.2.1 nq.2.2.2.2.1 nq.2.2.2.2.2 e)
    have I1 : Inv X pins σ (upd H s.heap.objs.size (.tup [u1, u2, u3])) { s with heap := h'', toks := tk } := I.turnedNew (t' := tk) (ch := cells z TI TO i1 i2 i3) kp2 free (Nat.le_refl _) new
    refine ⟨.ref s.heap.objs.size, _, I1, rfl, ⟨_, u1, u2, u3, rfl, I.hok.fresh (Nat.le_refl _), rfl, fun l hl => by rw [I.list_inj hl q1]; exact e1, fun l hl => by rw [I.list_inj hl q2]; exact e2, fun l hl => by rw [I.list_inj hl q3]; exact e3⟩, ⟨z'', ?_, ⟨x1, x2, x3, ?_⟩, ?_, ?_, ?_⟩, fun q hq => ?_⟩
    · exact (sb.2 _ S.TIz).trans (kp _ _ S.TIz S.TITO S.TIi1 S.TIi2 S.TIi3 hTI)
    · exact (sb.2 _ S.TOz).trans TO'
    · exact t1.1.at fun o e => (sb.2 _ S.zi1.symm).trans e
    · exact t2.1.at fun o e => (sb.2 _ S.zi2.symm).trans e
    · exact t3.1.at fun o e => (sb.2 _ S.zi3.symm).trans e
    · have below : q < s.heap.objs.size := by
        simp only [cells, List.mem_cons, List.not_mem_nil, or_false] at hq
        rcases hq with rfl | rfl | rfl | rfl | rfl | rfl
        · exact zl
        · exact Heap.lt_size hTI
        · exact Heap.lt_size hTO
        · obtain ⟨_, e, _⟩ := h1; exact Heap.lt_size e
        · obtain ⟨_, e, _⟩ := h2; exact Heap.lt_size e
        · obtain ⟨_, e, _⟩ := h3; exact Heap.lt_size e
      rw [upd_ne (Nat.ne_of_lt below)]
      exact (free q hq).1
  done := by
    rintro X rfl rfl rfl calm i pins s σ H E I free st ⟨xs, ys, zs, q1, q2, q3, l2, l3, l1⟩
    obtain ⟨hz, hTI, ⟨x0, y0, u0, hTO⟩, h1, h2, h3⟩ := st
    obtain ⟨v1, r1, p1, _⟩ := I.list q1
    obtain ⟨v2, r2, p2, _⟩ := I.list q2
    obtain ⟨v3, r3, p3, _⟩ := I.list q3
    have hh : X.A.in1.handled = none := I.ok.hd calm
    have D1 := Draws.list (prog := X.prog) (w := X.w) hh i1 a n1 v1.toArray
    have D2 := Draws.list (prog := X.prog) (w := X.w) hh i2 b n2 v2.toArray
    have D3 := Draws.list (prog := X.prog) (w := X.w) hh i3 c n3 v3.toArray
    have s1 : v1.toArray.size = xs.length := by rw [List.size_toArray, ← r1.length]
    have s2 : v2.toArray.size = ys.length := by rw [List.size_toArray, ← r2.length]
    have s3 : v3.toArray.size = zs.length := by rw [List.size_toArray, ← r3.length]
    refine wpAny_pyNext_zipD3_end (i := i) S D1 D2 D3 hz hTI hTO ⟨h1, p1.isList⟩ ⟨h2, p2.isList⟩ ⟨h3, p3.isList⟩ (by omega) (by omega) (by omega) (Or.inl (by omega)) fun h' tk kp => ⟨rfl, I.turnedL (t' := tk) (ch := cells z TI TO i1 i2 i3) (fun q o nq e => ?_) free⟩
    simp only [cells, List.mem_cons, List.not_mem_nil, or_false, not_or] at nq
    exact kp q o nq.1 nq.2.2.1 nq.2.2.2.1 nq.2.2.2.2.1 nq.2.2.2.2.2 e
  self A i s Q E st h := wpAny_pyIter_zip st.1 h
def iZip3 (K : PySem.W.Frag) (ta : TA) : TI := fun σ H R => ta σ H fun vs H1 => ∃ a b c xs ys zs, vs = [.ref a, .ref b, .ref c] ∧ SqL K H1 a xs ∧ SqL K H1 b ys ∧ SqL K H1 c zs ∧ R (It3 K a b c) H1
theorem pi_zip3 {X : Cx} {e e2 e3 : Expr} {ta : TA} {p pos tpos : Pos} {elts : List Expr} {kk : Nat} (gl : Gl X "zip") (nm : X.mg "zip" = none) (args : PA X [e, e2, e3] ta)
    (one : starEach [e, e2, e3] X.env = (false, eval e X.env) :: starEach [e2, e3] X.env := by rfl) (more : (backTo pos (starEach [e2, e3] X.env)).any (·.1) = false := by rfl) :
    PI X (.Tuple elts kk tpos) (.Call (.Name "zip" p) [e, e2, e3] [] pos) (iZip3 X.K ta) := by
  constructor
  intro pins s σ H R I had
  refine Call_ (ld_blt I gl nm PyProof.Rows.boot_zip (PyProof.Rows.callWith_type1 (thn (args.run pos pins s σ H _ I had) fun us s1 got => ?_) one more))
  obtain ⟨vs, H1, I1, rel, a, b, c, xs, ys, zs, rfl, q1, q2, q3, goal⟩ := got
  obtain ⟨u1, us, rfl, ra, rel⟩ : ∃ u us', us = u :: us' ∧ RelV (.ref a) u ∧ Vals [V.ref b, V.ref c] us' := by
    cases rel with
    | cons r rr => exact ⟨_, _, rfl, r, rr⟩
  obtain ⟨u2, u3, rfl, rb, rc⟩ := vals2 rel
  cases (show u1 = Value.ref a from ra)
  cases (show u2 = Value.ref b from rb)
  cases (show u3 = Value.ref c from rc)
  obtain ⟨v1, r1, p1, _⟩ := I1.list q1
  obtain ⟨v2, r2, p2, _⟩ := I1.list q2
  obtain ⟨v3, r3, p3, _⟩ := I1.list q3
  have la : a < s1.heap.objs.size := p1.lt
  have lb : b < s1.heap.objs.size := p2.lt
  have lc : c < s1.heap.objs.size := p3.lt
  refine zip_begins3 (begins_list a v1.toArray) (begins_list b v2.toArray) (begins_list c v3.toArray) p1.isList p2.isList p3.isList fun h' hz hTI hTO g1 g2 g3 sz kp => wpAny_pyIter_zip hz ?_
  have I2 : Inv X pins σ H1 { s1 with heap := h' } := I1.kept (t' := s1.toks) kp
  have S := zip_sep3 (N := s1.heap.objs.size) (fp1 := [a]) (fp2 := [b]) (fp3 := [c]) (by simpa using la) (by simpa using lb) (by simpa using lc)
  refine ⟨s1.heap.objs.size + 5, cells (s1.heap.objs.size + 5) (s1.heap.objs.size + 3) (s1.heap.objs.size + 4) s1.heap.objs.size (s1.heap.objs.size + 1) (s1.heap.objs.size + 2), _, _, H1, rfl, I2, turn3 S (Nat.ne_of_lt la) (Nat.ne_of_lt (Nat.lt_succ_of_lt lb)) (Nat.ne_of_lt (Nat.lt_succ_of_lt (Nat.lt_succ_of_lt lc))), ⟨hz, hTI, ⟨_, _, _, hTO⟩, ⟨_, g1, rfl, rfl⟩, ⟨_, g2, rfl, rfl⟩, ⟨_, g3, rfl, rfl⟩⟩, fun q hq => ?_, goal⟩
  have le : s1.heap.objs.size ≤ q := by
    simp only [cells, List.mem_cons, List.not_mem_nil, or_false] at hq
    rcases hq with rfl | rfl | rfl | rfl | rfl | rfl
    · exact Nat.le_add_right _ _
    · exact Nat.le_add_right _ _
    · exact Nat.le_add_right _ _
    · exact Nat.le_refl _
    · exact Nat.le_add_right _ _
    · exact Nat.le_add_right _ _
  exact I1.fpOk le (I1.hok.fresh le)
/-- a new triple of the i-th ones -/
def YTri (xs ys zs : List V) : Nat → Hp → V → Hp → Prop := fun i H v H' => ∃ T x y z, v = .ref T ∧ H T = none ∧ H' = upd H T (.tup [x, y, z]) ∧ xs[i]? = some x ∧ ys[i]? = some y ∧ zs[i]? = some z
theorem walk_zip3 {K : PySem.W.Frag} {a b c : Addr} {xs ys zs : List V} (l2 : ys.length = xs.length) (l3 : zs.length = xs.length) : Walk (It3 K a b c) xs.length (fun H => SqL K H a xs ∧ SqL K H b ys ∧ SqL K H c zs) (YTri xs ys zs) where
  goes _ _ lt q := ⟨xs, ys, zs, q.1, q.2.1, q.2.2, l2, l3, lt⟩
  stops _ q := ⟨xs, ys, zs, q.1, q.2.1, q.2.2, l2, l3, rfl⟩
  yields _ _ _ _ _ q := fun ⟨T, x, y, z, e1, e2, e3, e4, e5, e6⟩ => ⟨T, x, y, z, e1, e2, e3, e4 xs q.1, e5 ys q.2.1, e6 zs q.2.2⟩
end RZ3

/-! a def called in an except suite with the exception itself -/
namespace HotE
open PySem PySem.Spec PyProof.Rows L2 L2H
/-- a promise that is told of the handled exception: its place, its class, its dict -/
abbrev SpE := Addr → Value → Option Addr → Sp
structure FnE (P : Program) (w : World) (K : PySem.W.Frag) (mg : Str → Option Value) (base : Heap) (CX : CXT) (k : Nat) (f : Addr) (fd : FuncData) (ps : List Str) (sp : SpE) : Prop where
  len : ∀ a c d vs H Q E, sp a c d vs H Q E → vs.length = ps.length
  run : ∀ (A : Around) (outer : List Env) (s : Shared) (H : Hp) (args : Args) (us : List Value) (vs : List V) (Q : VK) (E : XK) (p : Addr × Obj) (c : Value) (d : Option Addr),
    RoomH k A → Hot1 A p → PinOk outer H s p → Zc c d p.2 → Env0 P w K mg base A outer s H → BindsTo s fd args (ps.zip us) → Vals vs us → sp p.1 c d vs H Q E →
      codeAny (model P w) A (.call (.ref f) args) (CR CX outer P w H s Q E) s
section
variable {CX : CXT} {P : Program} {w : World} {K : PySem.W.Frag} {mg : Str → Option Value} {base : Heap} {k : Nat} {f : Addr} {N ps : List Str} {sp : SpE}
theorem fn_ofE {name qual : Str} {params : Arguments} {body : List Stmt} {scope : Scope} {dV kV doc pm cdv ct oc : Value} {an od : Option Addr} {osl : Array (Option Value)}
    (there : K.lookup f = some ⟨oc, od, .func (PySem.W.fnOf name qual params body scope dV kV doc pm an cdv ct), osl⟩) (code : PySem.W.codeIn K cdv qual = true) (S : FnScope N ps scope)
    (len : ∀ a c d vs H Q E, sp a c d vs H Q E → vs.length = ps.length)
    (does : ∀ (A : Around) (outer : List Env) (s : Shared) (H : Hp) (vs : List V) (Q : VK) (E : XK) (p : Addr × Obj) (c : Value) (d : Option Addr), Hot1 A p → Zc c d p.2 → RoomH k (A.deeper (envOfC qual scope s.heap.objs.size f cdv)) → sp p.1 c d vs H Q E →
      ∃ t, PSs (cxH CX P w K mg base N qual scope f cdv A outer s H E p) body t ∧ t { nx := fun _ H' => Q .non H', rt := Q } (L2.start N vs) H) :
    FnE P w K mg base CX (k + 1) f (PySem.W.fnOf name qual params body scope dV kV doc pm an cdv ct) ps sp where
  len := len
  run A outer s H args us vs Q E p c d room hot pin zc env bound rel told := by
    have ln := len _ _ _ _ _ _ _ told
    have KX : K.In s.heap := env.mod.kin.keeps fun b o e => And.left (env.bs b o e)
    have free := env.mod.nolimit.keeps fun b o e => And.left (env.bs b o e)
    refine codeAny_call_function room.depth (KX _ _ there) rfl S.co S.gen rfl (PySem.W.codeRec_of KX code) (bound _ _ _ _ (wpAny_newFunctionEnv_cells S.kind (fun nv inz => ?_) fun env2 eq2 s1 x => ?_))
    · obtain ⟨n, v⟩ := nv
      cases S.par n (List.of_mem_zip inz).1 with
      | inl q => exact Or.inl q
      | inr q => exact Or.inr ⟨q, PySem.W.cellsFrom_some _ _ _ (Or.inl q)⟩
    subst eq2
    obtain ⟨t, ht, goal⟩ := does A outer s H vs Q E p c d hot zc (room.deeper _) told
    have I : Inv (cxH CX P w K mg base N qual scope f cdv A outer s H E p) [] (L2.start N vs) H s1 := by exact inv_startH S pin env ln rel x
    refine ⟨free.keeps x.toInCall.keep, codeAny_func (wpAny_mono (ht.run [] s1 _ H _ I goal) (fun fl s' out => ?_) fun _ _ z => z)⟩
    match fl, out with
    | .ret u, ⟨v, σ', H', J, rv, q⟩ => exact ⟨v, H', J.os, J.bare, J.base, J.hok, rv, q⟩
    | .next, ⟨σ', H', J, q⟩ => exact ⟨V.non, H', J.os, J.bare, J.base, J.hok, rfl, q⟩
    | .brk, ⟨_, _, _, q⟩ => exact q.elim
    | .cont, ⟨_, _, _, q⟩ => exact q.elim
/-- a def of the text, called so; it lets nothing out -/
theorem okE {x qual : Str} {st : Stmt} {fd : FuncData} (F : Fun K x qual st f fd) (S : FnScope N ps (defScope st)) (len : ∀ a c d vs H Q E, sp a c d vs H Q E → vs.length = ps.length)
    (does : ∀ (cdv : Value) (A : Around) (outer : List Env) (s : Shared) (H : Hp) (vs : List V) (Q : VK) (E : XK) (p : Addr × Obj) (c : Value) (d : Option Addr), Hot1 A p → Zc c d p.2 → RoomH k (A.deeper (envOfC qual (defScope st) s.heap.objs.size f cdv)) → sp p.1 c d vs H Q E →
      ∃ t, PSs (cxH CX0 P w K mg base N qual (defScope st) f cdv A outer s H E p).nox (defBody st) t ∧ t { nx := fun _ H' => Q .non H', rt := Q } (L2.start N vs) H) : FnE P w K mg base CX0 (k + 1) f fd ps sp := by
  obtain ⟨oc, od, kV, doc, pm, an, cdv, ct, osl, rfl, there, code⟩ := F.ex
  refine fn_ofE there code S len fun A outer s H vs Q E p c d hot zc room told => ?_
  obtain ⟨t, h, q⟩ := does cdv A outer s H vs Q E p c d hot zc room told
  exact ⟨t, h.nox, q⟩
end
/-- the context bears the exception at a, of this class and dict -/
def HotP (X : Cx) (a : Addr) (c : Value) (d : Option Addr) : Prop := ∃ o : Obj, Hot1 X.A (a, o) ∧ (a, o) ∈ X.pn ∧ Zc c d o
theorem hotP_suite {X : Cx} {a : Addr} {oe : Obj} {c : Value} {d : Option Addr} {pn : List (Addr × Obj)} (hz : L2N.Zn c d oe) (hf : ∃ vs, oe.data = .fields vs) : HotP (X.suite a ((a, oe) :: pn)) a c d := by
  obtain ⟨vs, hv⟩ := hf
  exact ⟨oe, ⟨rfl, vs, hv, hz.2.2 vs hv⟩, List.mem_cons_self, hz.zc⟩
section
variable {X : Cx} {CX : CXT} {k : Nat} {f a : Addr} {c : Value} {d : Option Addr} {fd : FuncData} {ps : List Str} {sp : SpE} {E : L2.St → XK} {x : Str} {q pos : Pos} {e : Expr} {es : List Expr} {t : TA}
/-- f(.., the exception, ..) in its suite -/
theorem pe_callE (F : FnE X.prog X.w X.K X.mg X.base CX k f fd ps sp) (room : RoomH k X.A) (hot : HotP X a c d) (gl : Gl X x) (there : X.mg x = some (.ref f)) (kp : PySem.W.keepIn X.K (.ref f) = true) (bi : Binds X.K fd ps []) (pass : ∀ σ, PassesAt CX X σ (E σ))
    (args : PA X (e :: es) t) (nodebug : (x == ("__debug__" : Str)) = false := by decide) (one : starEach (e :: es) X.env = (false, eval e X.env) :: starEach es X.env := by rfl) (more : (backTo pos (starEach es X.env)).any (·.1) = false := by rfl) :
    PE X (.Call (.Name x q) (e :: es) [] pos) (tCallS (sp a c d) E t) := by
  constructor
  intro pins s σ H Q I had
  refine wpAny_Call_Name_kw (ld_glob I gl there ?_ nodebug)
  refine PySem.W.callWith_K (h₀ := X.base) I.ok.mod.kin kp (thn (args.run pos pins s σ H _ I had) ?_) one more
  rintro us s1 ⟨vs, G, I1, rel, told⟩
  obtain ⟨o, h1, inp, zc⟩ := hot
  have bnd := bi s1 us I1.kIn (by rw [List.append_nil, ← rel.length]; exact F.len _ _ _ _ _ _ _ told)
  rw [List.append_nil] at bnd
  obtain ⟨p1, p2, p3, p4, p5⟩ := I1.pin (a, o) (List.mem_append_left _ inp)
  have pin : PinOk X.stack G s1 (a, o) := ⟨p1, p2, fun z => (List.mem_cons.mp (I1.stkSub a z)).elim p3 p4, p5⟩
  refine ⟨I1.kIn, wpAny_call (codeAny_mono (F.run X.A X.stack s1 G ⟨us, []⟩ us vs Q (E σ) (a, o) c d room h1 pin zc I1.env0 bnd rel told) fun r s2 h2 => ?_)⟩
  match r, h2 with
  | .error er, h2 => exact pass σ pins G s1 er s2 I1 h2
  | .ok (.ret u), h2 => exact I1.after h2
  | .ok .next, h2 => exact h2.elim
  | .ok .brk, h2 => exact h2.elim
  | .ok .cont, h2 => exact h2.elim
end
/-- isinstance(e, c), e the exception that the context bears -/
theorem call_isP {X : Cx} {K : PySem.W.Frag} {a : Addr} {cls : Value} {d : Option Addr} (hK : X.K = K) (hot : HotP X a cls d) : CallR X (.builtin "isinstance") (rIsS2 K a cls d) := by
  subst hK
  rintro pins s σ H _ us Q I rel ⟨C, c, u, b, rfl, rfl, kind, D, isC, ans, goal⟩
  obtain ⟨u1, u2, rfl, r1, r2⟩ := vals2 rel
  cases isC.eq r2
  cases (show u1 = Value.ref a from r1)
  obtain ⟨o, ⟨_, vs, hv, _⟩, inp, zc1, zc2⟩ := hot
  have here : s.heap.get? a = some o := (I.pin (a, o) (List.mem_append_left _ inp)).1
  have nc : PySem.W.notCls o = true := by
    unfold PySem.W.notCls
    rw [show o.data = .fields vs from hv]
  rcases kind with rfl | ⟨dd, fs, rfl, there⟩
  · have J : PySem.W.InstAt s.heap a o C none := ⟨here, zc1, nc, by rw [zc2]; trivial⟩
    exact PySem.W.kia_one (kitX_err D) I.kIn J ans (fun z => nomatch z) fun tk => ⟨.bl b, H, I.kept (t' := tk) fun _ _ z => z, rfl, goal⟩
  · have hx : ObjOk X.prog X.w H s.heap dd (.xd fs) := I.hok dd _ there
    obtain ⟨mA, hns, _⟩ := hx
    obtain ⟨od, ho, _⟩ := lookIn_ns hns
    have J : PySem.W.InstAt s.heap a o C (some od) := ⟨here, zc1, nc, by rw [zc2]; exact ho⟩
    exact PySem.W.kia_one (kitX_err D) I.kIn J ans (fun z => nomatch z) fun tk => ⟨.bl b, H, I.kept (t' := tk) fun _ _ z => z, rfl, goal⟩
end HotE

namespace StK
open PySem PySem.Spec PyProof.Rows L2 StX
section
variable {X : Cx} {CX : CXT} {k : Nat} {f : Addr} {sp : Sp} {E : L2.St → XK} {x : Str} {p pos : Pos} {e : Expr} {es : List Expr} {t : TA}
/-- f(e, ..) of a def that may raise and is told of its values alone -/
theorem pe_callRS (F : FnR X.prog X.w X.K X.mg X.base CX k f sp) (room : Room k X.A) (gl : Gl X x) (there : X.mg x = some (.ref f)) (kp : PySem.W.keepIn X.K (.ref f) = true) (pass : ∀ σ, PassesAt CX X σ (E σ))
    (ha : PA X (e :: es) t) (nd : (x == ("__debug__" : Str)) = false := by decide) (st : starEach (e :: es) X.env = (false, eval e X.env) :: starEach es X.env := by rfl) (pl : (backTo pos (starEach es X.env)).any (·.1) = false := by rfl) :
    PE X (.Call (.Name x p) (e :: es) [] pos) (tCallS sp E t) := by
  constructor
  intro pins s σ H Q I had
  refine wpAny_Call_Name_kw (ld_glob I gl there ?_ nd)
  refine PySem.W.callWith_K (h₀ := X.base) I.ok.mod.kin kp (thn (ha.run pos pins s σ H _ I had) ?_) st pl
  rintro us s1 ⟨vs, H1, I1, r, g1⟩
  refine ⟨I1.kIn, wpAny_call (codeAny_mono (F X.A X.stack s1 H1 us vs Q (E σ) room I1.env0 r g1) fun out s' h' => ?_)⟩
  match out, h' with
  | .error e, h' => exact pass σ pins H1 s1 e s' I1 h'
  | .ok (.ret u), h' => exact I1.after h'
  | .ok .next, h' => exact h'.elim
  | .ok .brk, h' => exact h'.elim
  | .ok .cont, h' => exact h'.elim
theorem pe_callRS0 (F : FnR X.prog X.w X.K X.mg X.base CX k f sp) (room : Room k X.A) (gl : Gl X x) (there : X.mg x = some (.ref f)) (kp : PySem.W.keepIn X.K (.ref f) = true) (pass : ∀ σ, PassesAt CX X σ (E σ))
    (nd : (x == ("__debug__" : Str)) = false := by decide) : PE X (.Call (.Name x p) [] [] pos) (tCallS sp E tNil) := by
  constructor
  intro pins s σ H Q I had
  refine wpAny_Call_Name_kw (ld_glob I gl there (PySem.W.callWith_K0 I.kIn kp ?_) nd)
  refine wpAny_call (codeAny_mono (F X.A X.stack s H [] [] Q (E σ) room I.env0 .nil had) fun out s' h' => ?_)
  match out, h' with
  | .error e, h' => exact pass σ pins H s e s' I h'
  | .ok (.ret u), h' => exact I.after h'
  | .ok .next, h' => exact h'.elim
  | .ok .brk, h' => exact h'.elim
  | .ok .cont, h' => exact h'.elim
end
end StK
namespace RvT
open PySem PySem.Spec PyProof.Rows L2
theorem op_notInTK {X : Cx} {K : PySem.W.Frag} (h : X.K = K) (room : X.A.units + 65 < cLine) : OpR X (compareOp .NotIn) (rNotInT K) := by
  subst h
  exact op_notInT room
end RvT

/-! xs[::-1] of a list; x in d as a test -/
namespace StK
open PySem PySem.Spec PyProof.Rows L2
section
variable {X : Cx} {e st : Expr} {te tk : TE} {pos p2 : Pos}
def tBack (K : PySem.W.Frag) (te tk : TE) : TE := fun σ H Q => te σ H fun x H1 => tk σ H1 fun z H2 => z = .int (-1) ∧ ∃ a xs, x = .ref a ∧ SqL K H2 a xs ∧ ∀ p, H2 p = none → Q (.ref p) (upd H2 p (.lst xs.reverse))
theorem pe_back (he : PE X e te) (hk : PE X st tk) : PE X (.Subscript e (.Slice none none (some st) p2) pos) (tBack X.K te tk) := by
  refine ⟨fun pins s σ H Q I h => Subscript_ (thn (he.run pins s σ H _ I h) ?_)⟩
  rintro v s1 ⟨x, H1, I1, r1, q1⟩
  refine wpAny_Slice ?_
  rw [evalPart_none]
  refine wpAny_pure (wpAny_pure ?_)
  rw [evalPart_some]
  refine thn (hk.run pins s1 σ H1 _ I1 q1) ?_
  rintro vk s3 ⟨z, H3, I3, rz, rfl, a, xs, rfl, hx, q⟩
  cases r1
  obtain ⟨tk3, rfl⟩ : ∃ t, vk = .int (-1) t := by
    obtain ⟨t, e⟩ := rz
    exact ⟨t, e⟩
  have I4 : Inv X pins σ H3 { s3 with heap := s3.heap.push { cls := .type "slice", data := .fields #[.none, .none, .int (-1) tk3] } } := I3.kept (t' := s3.toks) fun b ob g => Heap.get?_push_of_some _ g
  obtain ⟨its, r, ht, hz⟩ := I4.list hx
  have rl := r.length
  have sl : ({ s3 with heap := s3.heap.push { cls := .type "slice", data := .fields #[.none, .none, .int (-1) tk3] } } : Shared).heap.IsSliceOf s3.heap.objs.size .none .none (.int (-1) tk3) := Heap.IsSliceOf.new ..
  refine tail_any (T := "list") (ops := [.ref a, .ref s3.heap.objs.size]) ht.isList.typeIs slot_list_getitem.lookup ?_ rfl
  refine wpAny_getItem_list_slice ht.isList sl .none .none (.int _ _) (by decide) ?_ (by rw [List.size_toArray]; omega)
  rw [PySem.W.krv_pick]
  refine ⟨.ref _, _, I4.laid (t' := s3.toks) (o := .lst xs.reverse) (fun b ob g => Heap.get?_push_of_some _ g) (Nat.le_refl _) ?_, rfl, q _ (I4.hok.fresh (Nat.le_refl _))⟩
  exact ⟨by rw [List.length_reverse]; omega, _, 0, r.reverse, Heap.get?_push_size _ rfl⟩
end
end StK

/-! data of one shape: <, <= and sorted; xs[:0:-1]; C(e, ..) that may raise -/
namespace DaS
open PySem PySem.Spec PyProof.Rows PySem.W L2
/-- two things of one shape, compared -/
def Two (K : PySem.W.Frag) (H : Hp) (x y : V) (d e : PyData) : Prop := Dp K H x d ∧ Dp K H y e ∧ alike d e = true ∧ d ≠ .none ∧ d.depth ≤ 64
def rLeD (K : PySem.W.Frag) : R2 := fun x y H Q => ∃ d e, Two K H x y d e ∧ Q (.bl (!dataLt e d)) H
def rLtD (K : PySem.W.Frag) : R2 := fun x y H Q => ∃ d e, Two K H x y d e ∧ Q (.bl (dataLt d e)) H
section
variable {X : Cx}
theorem op_leD (room : X.A.units + 64 < cLine) : OpR X (compareOp .LtE) (rLeD X.K) := by
  rintro pins s σ H x y v u Q I rx ry ⟨d, e, ⟨hd, he, al, nn, dp⟩, q⟩
  obtain ⟨as, reads1⟩ := Dp.reads I d x v hd rx
  obtain ⟨bs, reads2⟩ := Dp.reads I e y u he ry
  exact le_data reads1 reads2 al nn (by omega) ⟨.bl _, H, I, rfl, q⟩
theorem op_ltD (room : X.A.units + 64 < cLine) : OpR X (compareOp .Lt) (rLtD X.K) := by
  rintro pins s σ H x y v u Q I rx ry ⟨d, e, ⟨hd, he, al, nn, dp⟩, q⟩
  obtain ⟨as, reads1⟩ := Dp.reads I d x v hd rx
  obtain ⟨bs, reads2⟩ := Dp.reads I e y u he ry
  exact lt_data reads1 reads2 al nn (by omega) ⟨.bl _, H, I, rfl, q⟩
/-- sorted of a list of things of one shape -/
def rSortD (K : PySem.W.Frag) : List V → Hp → VK → Prop := fun vs H Q => ∃ (a : Addr) (bs : List (V × PyData)), vs = [.ref a] ∧ SqL K H a (bs.map Prod.fst) ∧ (∀ b ∈ bs, Dp K H b.1 b.2 ∧ b.2.depth ≤ 60) ∧ AllAlike (bs.map Prod.snd) ∧ Sortable (bs.map Prod.snd) ∧
  ∀ p, H p = none → Q (.ref p) (upd H p (.lst ((bs.mergeSort (dataLe false Prod.snd)).map Prod.fst)))
theorem each_vals {R : V × PyData → Prop} : ∀ {bs : List (V × PyData)} {us : List Value}, Vals (bs.map Prod.fst) us → (∀ b ∈ bs, R b) → EachIs (fun v b => RelV b.1 v ∧ R b) us bs
  | [], _, r, _ => by cases r; exact .nil
  | b :: bs, _, r, h => by
    cases r with
    | cons r1 r2 => exact .cons ⟨r1, h b (List.mem_cons_self ..)⟩ (each_vals r2 fun c hc => h c (List.mem_cons_of_mem _ hc))
theorem vals_each {R : V × PyData → Prop} : ∀ {bs : List (V × PyData)} {us : List Value}, EachIs (fun v b => RelV b.1 v ∧ R b) us bs → Vals (bs.map Prod.fst) us
  | _, _, .nil => .nil
  | _, _, .cons h t => .cons h.1 (vals_each t)
theorem each_mono {α β : Type} {R S : α → β → Prop} (h : ∀ a b, R a b → S a b) : ∀ {as : List α} {bs : List β}, EachIs R as bs → EachIs S as bs
  | _, _, .nil => .nil
  | _, _, .cons r t => .cons (h _ _ r) (each_mono h t)
theorem cr_sortD (room : X.A.units + 64 < cLine) : CallR X (.builtin "sorted") (rSortD X.K) := by
  rintro pins s σ H vs us Q I r ⟨a, bs, rfl, hs, hd, al, so, q⟩
  obtain ⟨its, rv, hl, hz⟩ := I.list hs
  rw [Vals.ref1 r]
  have ln : its.length = bs.length := by rw [← rv.length, List.length_map]
  rw [List.length_map] at hz
  have E1 := each_vals (R := fun b => b ∈ bs) rv fun b hb => hb
  refine sorted_data (enc := Prod.snd) hl.isList E1 (each_mono (fun v b rb => Dp.reads I b.2 b.1 v (hd b rb.2).1 rb.1) E1) al so hz (fun b hb => ?_) fun out lo eo => ?_
  · have := (hd b hb).2
    omega
  · obtain ⟨n, hn⟩ := sortedAll_at s.heap its out.toArray
    have rv2 := vals_each eo
    have kp : ∀ b o, s.heap.get? b = some o → (sortedAll s.heap its out.toArray).get? b = some o := fun b o e => sortedAll_old e
    have hz2 : ((bs.mergeSort (dataLe false Prod.snd)).map Prod.fst).length ≤ sizeLine := by
      rw [List.length_map, List.length_mergeSort]
      exact hz
    refine ⟨.ref (s.heap.objs.size + 1), upd H (s.heap.objs.size + 1) (.lst ((bs.mergeSort (dataLe false Prod.snd)).map Prod.fst)), I.laid (t' := s.toks) kp (Nat.le_succ _) ⟨hz2, out, n, rv2, hn⟩, rfl, q _ (I.hok.fresh (Nat.le_succ _))⟩
end
section
variable {X : Cx} {CX : CXT} {k : Nat} {f C : Addr} {fd : FuncData} {ps : List Str} {sp : Sp} {E : L2.St → XK} {x : Str} {p pos : Pos} {e : Expr} {es : List Expr} {t : TA}
/-- C(e, ..), its __init__ may raise -/
def tMakeP (C : Addr) (sp : Sp) (E : L2.St → XK) (t : TA) : TE := fun σ H Q => t σ H fun vs G => ∀ c dx, G c = none → G dx = none → dx ≠ c →
  sp (.ref c :: (vs ++ [])) (upd (upd G dx (.own c)) c (.ins C dx [])) (fun v G2 => v = .non ∧ Q (.ref c) G2) (E σ)
theorem pe_makeP (M : Mk X.K C f) (F : FnOk X.prog X.w X.K X.mg X.base CX k f fd ps sp) (room : Room (k + 1) X.A) (g : Gl X x) (m : X.mg x = some (.ref C)) (b : Binds X.K fd ps []) (pass : ∀ σ, PassesAt CX X σ (E σ)) (args : PA X (e :: es) t)
    (nodebug : (x == ("__debug__" : Str)) = false := by decide) (one : starEach (e :: es) X.env = (false, eval e X.env) :: starEach es X.env := by rfl) (more : (backTo pos (starEach es X.env)).any (·.1) = false := by rfl) :
    PE X (.Call (.Name x p) (e :: es) [] pos) (tMakeP C sp E t) := by
  constructor
  intro pins s σ H Q I had
  refine wpAny_Call_Name_kw (ld_glob I g m ?_ nodebug)
  refine PySem.W.callWith_K (h₀ := X.base) I.ok.mod.kin M.kp (thn (args.run pos pins s σ H _ I had) ?_) one more
  rintro us s1 ⟨vs, G, I1, rel, q⟩
  have free : ∀ c, s1.heap.objs.size ≤ c → G c = none := fun c le => I1.hok.fresh le
  have had1 := q (s1.heap.objs.size + 1) s1.heap.objs.size (free _ (Nat.le_succ _)) (free _ (Nat.le_refl _)) (Nat.ne_of_lt (Nat.lt_succ_self _))
  have I2 := Inv.made I1 (C := C)
  have rel2 : Vals (V.ref (s1.heap.objs.size + 1) :: (vs ++ [])) ((Value.ref (s1.heap.objs.size + 1) :: us) ++ []) := by
    rw [List.append_nil, List.append_nil]
    exact .cons rfl rel
  have len : ((Value.ref (s1.heap.objs.size + 1) :: us) ++ []).length = ps.length := by
    rw [← F.len _ _ _ _ had1]
    exact rel2.length.symm
  refine ⟨I1.kIn, wpAny_call (make_map (f := f) I1.kIn M.makes M.init (beq_iff_eq.mp M.fn) (codeAny_mono (F.run _ X.stack _ _ ⟨Value.ref (s1.heap.objs.size + 1) :: us, []⟩ ((Value.ref (s1.heap.objs.size + 1) :: us) ++ []) _ _ (E σ) (room.make C us [])
    (I2.env0.make C us []) (b _ _ I2.kIn len) rel2 had1) fun r s2 told => ?_))⟩
  match r, told with
  | .error er, told => exact pass σ pins _ _ er s2 I2 told
  | .ok (.ret u), told =>
    obtain ⟨v, G2, I3, ru, rfl, q2⟩ := I2.after told
    exact ⟨ru, V.ref (s1.heap.objs.size + 1), G2, I3, rfl, q2⟩
  | .ok .next, told => exact told.elim
  | .ok .brk, told => exact told.elim
  | .ok .cont, told => exact told.elim
end
end DaS
namespace DaS
open PySem PySem.Spec PyProof.Rows PySem.W L2
theorem low_range (n : Nat) : (List.range n).map (fun k => n - k) = ((List.range n).map (1 + ·)).reverse := by
  apply List.ext_getElem
  · simp
  · intro i h1 h2
    rw [List.length_map, List.length_range] at h1
    rw [List.getElem_map, List.getElem_range, List.getElem_reverse, List.getElem_map, List.getElem_range, List.length_map, List.length_range]
    omega
theorem low_bounds (n : Nat) : sliceBounds none (some 0) (some (-1)) n = ((n : Int) - 1, (if n = 0 then -1 else 0), -1) := by
  unfold sliceBounds
  show ((n : Int) - 1, max (-1) (min 0 ((n : Int) - 1)), (-1 : Int)) = _
  by_cases c : n = 0
  · rw [if_pos c, c]
    rfl
  · rw [if_neg c, show min (0 : Int) ((n : Int) - 1) = 0 by omega]
    rfl
theorem low_sliceRange (n : Nat) : sliceRange ((n : Int) - 1) (if n = 0 then -1 else 0) (-1) = (List.range (n - 1)).map fun k => n - 1 - k := by
  unfold sliceRange
  have h1 : ¬ ((-1 : Int) > 0) := by decide
  by_cases c : n = 0
  · subst c
    rfl
  · rw [if_neg c]
    by_cases h : (n : Int) - 1 > 0
    · have e : ((n : Int) - 1 - 0 - -1 - 1) / (- -1) = ((n - 1 : Nat) : Int) := by
        rw [show (- -1 : Int) = 1 by decide, Int.ediv_one]
        omega
      simp only [h1, if_false, h, if_true, e, Int.toNat_natCast]
      apply List.map_congr_left
      intro k hk
      have := List.mem_range.mp hk
      omega
    · have e : n = 1 := by omega
      subst e
      rfl
theorem low_pick (items : Array Value) : slicePick items none (some 0) (some (-1)) = items.toList.tail.reverse.toArray := by
  unfold slicePick
  rw [low_bounds]
  show ((sliceRange ((items.size : Int) - 1) (if items.size = 0 then -1 else 0) (-1)).filterMap (items[·]?)).toArray = _
  rw [low_sliceRange, low_range, List.filterMap_reverse, pick_run]
  congr 2
  rw [List.take_of_length_le (by rw [List.length_drop, Array.length_toList]; omega), List.drop_one]
section
variable {X : Cx} {e up st : Expr} {te tu tk : TE} {pos p2 : Pos}
/-- xs[:0:-1]: all but the first, backwards -/
def tLow (K : PySem.W.Frag) (te tu tk : TE) : TE := fun σ H Q => te σ H fun x H1 => tu σ H1 fun y H2 => y = .int 0 ∧ tk σ H2 fun z H3 => z = .int (-1) ∧ ∃ a xs, x = .ref a ∧ SqL K H3 a xs ∧ ∀ p, H3 p = none → Q (.ref p) (upd H3 p (.lst xs.tail.reverse))
theorem pe_low (he : PE X e te) (hu : PE X up tu) (hk : PE X st tk) : PE X (.Subscript e (.Slice none (some up) (some st) p2) pos) (tLow X.K te tu tk) := by
  refine ⟨fun pins s σ H Q I h => Subscript_ (thn (he.run pins s σ H _ I h) ?_)⟩
  rintro v s1 ⟨x, H1, I1, r1, q1⟩
  refine wpAny_Slice ?_
  rw [evalPart_none]
  refine wpAny_pure ?_
  rw [evalPart_some]
  refine thn (hu.run pins s1 σ H1 _ I1 q1) ?_
  rintro vu s2 ⟨y, H2, I2, ry, rfl, q2⟩
  rw [evalPart_some]
  refine thn (hk.run pins s2 σ H2 _ I2 q2) ?_
  rintro vk s3 ⟨z, H3, I3, rz, rfl, a, xs, rfl, hx, q⟩
  cases r1
  obtain ⟨tu3, rfl⟩ : ∃ t, vu = .int 0 t := by
    obtain ⟨t, e⟩ := ry
    exact ⟨t, e⟩
  obtain ⟨tk3, rfl⟩ : ∃ t, vk = .int (-1) t := by
    obtain ⟨t, e⟩ := rz
    exact ⟨t, e⟩
  have I4 : Inv X pins σ H3 { s3 with heap := s3.heap.push { cls := .type "slice", data := .fields #[.none, .int 0 tu3, .int (-1) tk3] } } := I3.kept (t' := s3.toks) fun b ob g => Heap.get?_push_of_some _ g
  obtain ⟨its, r, ht, hz⟩ := I4.list hx
  have rl := r.length
  have sl : ({ s3 with heap := s3.heap.push { cls := .type "slice", data := .fields #[.none, .int 0 tu3, .int (-1) tk3] } } : Shared).heap.IsSliceOf s3.heap.objs.size .none (.int 0 tu3) (.int (-1) tk3) := Heap.IsSliceOf.new ..
  refine tail_any (T := "list") (ops := [.ref a, .ref s3.heap.objs.size]) ht.isList.typeIs slot_list_getitem.lookup ?_ rfl
  refine wpAny_getItem_list_slice ht.isList sl .none (.int _ _) (.int _ _) (by decide) ?_ (by rw [List.size_toArray]; omega)
  rw [low_pick]
  have r' : Vals xs.tail its.tail := by
    cases r with
    | nil => exact .nil
    | cons _ r2 => exact r2
  refine ⟨.ref _, _, I4.laid (t' := s3.toks) (o := .lst xs.tail.reverse) (fun b ob g => Heap.get?_push_of_some _ g) (Nat.le_refl _) ?_, rfl, q _ (I4.hok.fresh (Nat.le_refl _))⟩
  exact ⟨by rw [List.length_reverse, List.length_tail]; omega, _, 0, r'.reverse, Heap.get?_push_size _ rfl⟩
end
end DaS

/-! sorted of a tuple of data of one shape -/
namespace DaS
open PySem PySem.Spec PyProof.Rows PySem.W PySem.Calls L2
section
variable {X : Cx}
def rSortT (K : PySem.W.Frag) : List V → Hp → VK → Prop := fun vs H Q => ∃ (a : Addr) (bs : List (V × PyData)), vs = [.ref a] ∧ SqT K H a (bs.map Prod.fst) ∧ (∀ b ∈ bs, Dp K H b.1 b.2 ∧ b.2.depth ≤ 60) ∧ AllAlike (bs.map Prod.snd) ∧ Sortable (bs.map Prod.snd) ∧
  ∀ p, H p = none → Q (.ref p) (upd H p (.lst ((bs.mergeSort (dataLe false Prod.snd)).map Prod.fst)))
theorem cr_sortT (room : X.A.units + 64 < cLine) : CallR X (.builtin "sorted") (rSortT X.K) := by
  rintro pins s σ H vs us Q I r ⟨a, bs, rfl, hs, hd, al, so, q⟩
  obtain ⟨its, rv, hl, hz⟩ := I.tuple hs
  rw [Vals.ref1 r]
  have ln : its.length = bs.length := by rw [← rv.length, List.length_map]
  rw [List.length_map] at hz
  have E1 := each_vals (R := fun b => b ∈ bs) rv fun b hb => hb
  obtain ⟨o, ho, hc, n, hdat⟩ := hl
  refine call_function_entry kind_sorted plain_sorted entry_sorted (args_sorted1 _) ?_
  unfold Builtin.«sorted»
  refine wpAny_bind (m := checkCount "sorted" 1 1 _) (wpAny_pure ?_)
  refine wpAny_bind (wpAny_collect_seq a (.inr rfl) ho hc hdat (fun h' kp => ?_) (by rw [List.size_toArray, ln]; exact hz))
  refine wpAny_bind (wpAny_newList ?_ (by show its.length ≤ _; rw [ln]; exact hz))
  have e2 : its.toArray.toList = its := rfl
  show wpAny _ X.A.in1 _ _ _ { s with heap := h'.push (seqObj "list" its.toArray 0) }
  have hD : (h'.push (seqObj "list" its.toArray 0)).get? h'.objs.size = some (seqObj "list" its.toArray 0) := Heap.get?_push_size _ rfl
  have old : ∀ b o, s.heap.get? b = some o → b ≠ h'.objs.size ∧ (h'.push (seqObj "list" its.toArray 0)).get? b = some o := fun b o e =>
    ⟨Nat.ne_of_lt (Heap.lt_size (kp b o e)), Heap.get?_push_of_some _ (kp b o e)⟩
  have er : EachIs (fun v b => ∃ as, Reads (sortingHeap (h'.push (seqObj "list" its.toArray 0)) h'.objs.size its) v b.2 as) its bs := each_mono (fun v b rb => by
    obtain ⟨as, r⟩ := Dp.reads I b.2 b.1 v (hd b rb.2).1 rb.1
    exact ⟨as, PyProof.Rows.Reads.keeps (fun b o e => sortingHeap_old (old b o e).1 (old b o e).2) r⟩) E1
  have run : wpAny (model X.prog X.w) X.A.in1 (call (.builtin "list.sort") [.ref h'.objs.size]) (fun _ s' => s' = { s with heap := sortedHeap (h'.push (seqObj "list" its.toArray 0)) h'.objs.size its (sortVals (dataKind (sortingHeap (h'.push (seqObj "list" its.toArray 0)) h'.objs.size its) (bs.map Prod.snd)) false its its).toArray }) X.xe { s with heap := h'.push (seqObj "list" its.toArray 0) } :=
    wpAny_call_entry slot_list_sort ⟨_, hD, rfl⟩ entry_list_sort (list_sort_vals (κ := dataKind (sortingHeap (h'.push (seqObj "list" its.toArray 0)) h'.objs.size its) (bs.map Prod.snd)) hD
      (SortsAt.data (s := { s with heap := sortingHeap (h'.push (seqObj "list" its.toArray 0)) h'.objs.size its }) (each_map (R := fun v d => ∃ as, Reads (sortingHeap (h'.push (seqObj "list" its.toArray 0)) h'.objs.size its) v d as) Prod.snd er) al so (bound_map fun b hb => by
        have := (hd b hb).2
        show X.A.units + 1 + 1 + b.2.depth < cLine
        omega)) (by rw [ln]; exact hz) ⟨.none, rfl, rfl⟩) (args_list_sort _)
  refine wpAny_bind (wpAny_holding (wpAny_mono run (fun _ s' x => ?_) fun _ _ e => e))
  subst x
  refine wpAny_pure ⟨_, rfl, ?_⟩
  obtain ⟨m, hm⟩ := sortedHeap_at (out := (sortVals (dataKind (sortingHeap (h'.push (seqObj "list" its.toArray 0)) h'.objs.size its) (bs.map Prod.snd)) false its its).toArray) hD
  have rs := vals_each (sortVals_data (enc := Prod.snd) false E1 er al)
  have hz2 : ((bs.mergeSort (dataLe false Prod.snd)).map Prod.fst).length ≤ sizeLine := by
    rw [List.length_map, List.length_mergeSort]
    exact hz
  have I1 : Inv X pins σ H { s with heap := h' } := I.kept (t' := s.toks) kp
  exact ⟨.ref h'.objs.size, upd H h'.objs.size (.lst ((bs.mergeSort (dataLe false Prod.snd)).map Prod.fst)), I1.laid (t' := s.toks) (fun b o e => by rw [sortedHeap_old (Nat.ne_of_lt (Heap.lt_size e)) (Heap.lt_size (Heap.get?_push_of_some _ e))]; exact Heap.get?_push_of_some _ e) (Nat.le_refl _) ⟨hz2, _, m, rs, hm⟩, rfl, q _ (I1.hok.fresh (Nat.le_refl _))⟩
end
end DaS

/-! a walk over zip of four lists of one length: by a loop lemma over the iterators -/
namespace RZ4
open PySem PySem.Spec PyProof.Rows L2
/-- a for loop over a list that never leaves early -/
theorem forIn_all {α β : Type} {M : Model} {A : Around} {E : Value → Shared → Prop} {F : α → β → Sem (ForInStep β)} {b : β} {Q : β → Shared → Prop} (J : List α → Shared → Prop)
    (step : ∀ x xs s, J (x :: xs) s → wpAny M A (F x b) (fun r s' => r = .yield b ∧ J xs s') E s) : ∀ (l : List α) (s : Shared), J l s → (∀ s', J [] s' → Q b s') → wpAny M A (forIn l b F) Q E s
  | [], s, j, q => by
    rw [List.forIn_nil]
    exact wpAny_pure (q s j)
  | x :: xs, s, j, q => by
    rw [List.forIn_cons]
    refine wpAny_bind (thn (step x xs s j) fun r s' ⟨e, j'⟩ => ?_)
    subst e
    exact forIn_all J step xs s' j' q
abbrev Tup4 (h : Heap) (T : Addr) (xs : Array Value) : Prop := h.get? T = some { cls := .type "tuple", data := .seq xs }
/-- the cells of a zip over iterators (js: iterator, list) lie apart -/
structure Sep (zp TI TO : Addr) (js : List (Addr × Addr)) : Prop where
  iz : TI ≠ zp
  oz : TO ≠ zp
  io : TI ≠ TO
  ti : ∀ j ∈ js, TI ≠ j.1
  z1 : ∀ j ∈ js, zp ≠ j.1
  z2 : ∀ j ∈ js, zp ≠ j.2
  o1 : ∀ j ∈ js, TO ≠ j.1
  o2 : ∀ j ∈ js, TO ≠ j.2
  nd : (js.map Prod.fst).Nodup
  ap : ∀ j ∈ js, ∀ k ∈ js, j.2 ≠ k.1
/-- the list j of lists at its i-th item -/
def At (h : Heap) (j : Addr × Addr) (v : Array Value) (i : Nat) : Prop := h.IsListIter j.1 j.2 i ∧ h.IsList j.2 v
theorem At.keep {h h' : Heap} {j : Addr × Addr} {v : Array Value} {i : Nat} (a : At h j v i) (k1 : ∀ o, h.get? j.1 = some o → h'.get? j.1 = some o) (k2 : ∀ o, h.get? j.2 = some o → h'.get? j.2 = some o) : At h' j v i :=
  ⟨a.1.at k1, a.2.at k2⟩
section
variable {prog : Program} {w : World} {A : Around} {E : Value → Shared → Prop} {s : Shared} {zp TI TO : Addr} {js : List (Addr × Addr)} {vs : List (Array Value)} {i n : Nat}
/-- in a turn: q iterators have told their item -/
structure Mid (zp TI TO : Addr) (js : List (Addr × Addr)) (vs : List (Array Value)) (i : Nat) (hp0 h : Heap) (q : Nat) : Prop where
  zz : IsZip h zp TI TO .ellipsis
  sz : h.objs.size = hp0.objs.size
  out : ∃ xs : Array Value, Tup4 h TO xs ∧ xs.size = js.length ∧ ∀ (p : Nat) (v : Array Value), p < q → vs[p]? = some v → v[i]? = xs[p]?
  its : ∀ (p : Nat) (j : Addr × Addr) (v : Array Value), js[p]? = some j → vs[p]? = some v → At h j v (if p < q then i + 1 else i)
  kept : ∀ c o, c ≠ zp → c ≠ TO → c ∉ js.map Prod.fst → hp0.get? c = some o → h.get? c = some o
theorem next_item {Q : Value → Shared → Prop} (calm : A.handled = none) (S : Sep zp TI TO js) (lv : vs.length = js.length) (few : js.length ≤ 4) (hz0 : IsZip s.heap zp TI TO .none) (hI : Tup4 s.heap TI (js.map fun j => Value.ref j.1).toArray) {xs0 : Array Value} (hO : Tup4 s.heap TO xs0) (x0 : xs0.size = js.length) (ne : js ≠ [])
    (at_ : ∀ (p : Nat) (j : Addr × Addr) (v : Array Value), js[p]? = some j → vs[p]? = some v → At s.heap j v i ∧ i < v.size)
    (hQ : ∀ (xs : Array Value) (h' : Heap) (tk : Tok), xs.size = js.length → (∀ (p : Nat) (v : Array Value), vs[p]? = some v → v[i]? = xs[p]?) → IsZip h' zp TI TO (rawInt s.heap.objs.size) → Tup4 h' TO xs → (∀ (p : Nat) (j : Addr × Addr) (v : Array Value), js[p]? = some j → vs[p]? = some v → At h' j v (i + 1)) → Tup4 h' s.heap.objs.size xs → h'.objs.size = s.heap.objs.size + 1 →
      (∀ c o, c ≠ zp → c ≠ TO → c ∉ js.map Prod.fst → s.heap.get? c = some o → h'.get? c = some o) → Q (.ref s.heap.objs.size) { s with heap := h', toks := tk }) :
    wpAny (model prog w) A (Builtin.«zip.__next__» ⟨[.ref zp], []⟩) (fun fin s' => ∃ v, fin = .done (.ret v) ∧ Q v s') E s := by
  obtain ⟨hp0, g, d, tk0, os⟩ := s
  show wpAny _ _ (field (.ref zp) 2 >>= _) _ _ _
  refine wpAny_bind (wpAny_field hz0 rfl (x := .bool false) rfl ?_)
  refine wpAny_bind (wpAny_field hz0 rfl (x := .ref TI) rfl ?_)
  refine wpAny_bind (wpAny_seqItems hI rfl ?_)
  have em : (js.map fun j => Value.ref j.1).toArray.isEmpty = false := by
    cases js with
    | nil => exact absurd rfl ne
    | cons a b => simp
  simp only [em, if_false, Bool.false_eq_true]
  show wpAny _ _ (Builtin.SmallTypes.ownedTupleIsFree (.ref zp) >>= _) _ _ _
  refine wpAny_bind ?_; unfold Builtin.SmallTypes.ownedTupleIsFree
  refine wpAny_bind (wpAny_field hz0 rfl (x := .none) rfl (wpAny_pure ?_))
  simp only [if_true]
  refine wpAny_bind (wpAny_rule ?_)
  refine wpAny_bind (wpAny_field hz0 rfl (x := .ref TO) rfl ?_)
  refine wpAny_bind (wpAny_setField_rec hz0 (by simp) fun g0 hz1 hs0 => ?_)
  replace hz1 : IsZip g0 zp TI TO .ellipsis := hz1
  replace hs0 : Heap.SameBut zp hp0 g0 := hs0
  refine wpAny_bind ?_
  refine forIn_all (fun rest s' => ∃ q h tk, rest = ((js.map fun j => Value.ref j.1).zipIdx).drop q ∧ q ≤ js.length ∧ s' = ⟨h, g, d, tk, os⟩ ∧ Mid zp TI TO js vs i hp0 h q) ?_ _ _ ?_ ?_
  · rintro x rest s' ⟨q, h, tk, er, ql, rfl, M⟩
    have q2 : q < js.length := by
      rcases Nat.lt_or_ge q js.length with c | c
      · exact c
      · rw [List.drop_eq_nil_of_le (by rw [List.length_zipIdx, List.length_map]; exact c)] at er
        cases er
    rw [List.drop_eq_getElem_cons (by rw [List.length_zipIdx, List.length_map]; exact q2), List.getElem_zipIdx, List.getElem_map, Nat.zero_add] at er
    injection er with ex erest
    subst ex
    have jq : js[q]? = some js[q] := List.getElem?_eq_getElem q2
    have vq : vs[q]? = some (vs[q]'(by omega)) := List.getElem?_eq_getElem (by omega)
    generalize hj : js[q] = j at jq ⊢
    generalize vs[q]'(by omega) = v at vq
    have jm : j ∈ js := List.mem_of_getElem? jq
    have aq := M.its q j v jq vq
    rw [if_neg (Nat.lt_irrefl q)] at aq
    have iv := (at_ q j v jq vq).2
    refine wpAny_bind (wpAny_onRaise ?_)
    show wpAny _ _ (Builtin.SmallTypes.nextOf (.ref j.1) >>= _) _ _ ⟨h, g, d, tk, os⟩
    refine wpAny_bind ((Draws.list (prog := prog) (w := w) calm j.1 j.2 (S.ap j jm j jm) v).item i _ _ _ iv aq fun y p1 tk1 hy sn hp1 => wpAny_pure ?_)
    replace hp1 : Heap.SameBut j.1 h p1 := hp1
    obtain ⟨xs, hx, xsz, xv⟩ := M.out
    have hU : Tup4 p1 TO xs := hp1.extBut _ _ (S.o1 j jm) hx
    refine wpAny_bind (wpAny_seqItems (s := ⟨p1, g, d, tk1, os⟩) hU rfl ?_)
    refine wpAny_bind (wpAny_updateSeq (s := ⟨p1, g, d, tk1, os⟩) hU rfl ?_ (by rw [xsz]; exact Nat.le_trans few (by decide)) (by rw [Array.size_setIfInBounds, xsz]; exact Nat.le_trans few (by decide)))
    refine wpAny_bind (wpAny_letGo (wpAny_pure ⟨rfl, q + 1, _, tk1, erest, q2, rfl, ?_⟩))
    have same : Heap.SameBut TO p1 (p1.update TO (Obj.mapSeq fun a => a.setIfInBounds q y)) := Heap.SameBut.update ..
    have hN : Tup4 (p1.update TO (Obj.mapSeq fun a => a.setIfInBounds q y)) TO (xs.setIfInBounds q y) := by
      show Heap.get? _ _ = _
      rw [Heap.get?_update_self _ hU rfl]
      simp [Obj.mapSeq]
    show Mid zp TI TO js vs i hp0 (p1.update TO (Obj.mapSeq fun a => a.setIfInBounds q y)) (q + 1)
    generalize p1.update TO (Obj.mapSeq fun a => a.setIfInBounds q y) = h2 at same hN ⊢
    refine ⟨same.extBut _ _ S.oz.symm (hp1.extBut _ _ (S.z1 j jm) M.zz), by rw [same.1, hp1.1, M.sz], ⟨_, hN, by rw [Array.size_setIfInBounds, xsz], fun p u pl hu => ?_⟩, fun p k u hk hu => ?_, fun c o c1 c2 c3 ho => ?_⟩
    · rw [Array.getElem?_setIfInBounds]
      by_cases e : q = p
      · subst e
        rw [if_pos rfl, if_pos (by rw [xsz]; exact q2)]
        rw [hu] at vq
        cases vq
        exact hy
      · rw [if_neg e]
        exact xv p u (by omega) hu
    · have km : k ∈ js := List.mem_of_getElem? hk
      by_cases e : p = q
      · subst e
        rw [hk] at jq
        cases jq
        rw [hu] at vq
        cases vq
        rw [if_pos (Nat.lt_succ_self _)]
        exact At.keep (h := p1) sn (fun o e => same.extBut _ _ (S.o1 _ jm).symm e) fun o e => same.extBut _ _ (S.o2 _ jm).symm e
      · have a0 := M.its p k u hk hu
        have e3 : (if p < q + 1 then i + 1 else i) = (if p < q then i + 1 else i) := by
          by_cases c : p < q
          · rw [if_pos c, if_pos (by omega)]
          · rw [if_neg c, if_neg (by omega)]
        rw [e3]
        have n1 : k.1 ≠ j.1 := fun zp => e (by
          have lp : p < (js.map Prod.fst).length := by
            rw [List.length_map]
            exact (List.getElem?_eq_some_iff.mp hk).1
          exact (List.getElem?_inj lp S.nd).mp (by rw [List.getElem?_map, List.getElem?_map, hk, jq]; exact congrArg some zp))
        exact At.keep a0 (fun o e => same.extBut _ _ (S.o1 k km).symm (hp1.extBut _ _ n1 e)) fun o e => same.extBut _ _ (S.o2 k km).symm (hp1.extBut _ _ (S.ap k km j jm) e)
    · exact same.extBut _ _ c2 (hp1.extBut _ _ (fun e => c3 (List.mem_map.mpr ⟨j, jm, e.symm⟩)) (M.kept c o c1 c2 c3 ho))
  · refine ⟨0, g0, tk0, by rw [List.drop_zero], Nat.zero_le _, rfl, hz1, hs0.1, ⟨xs0, hs0.extBut _ _ S.oz hO, x0, fun p v l => by omega⟩, fun p j v hj hv => ?_, fun c o c1 _ _ ho => hs0.extBut _ _ c1 ho⟩
    rw [if_neg (Nat.not_lt_zero _)]
    have jm : j ∈ js := List.mem_of_getElem? hj
    exact At.keep (at_ p j v hj hv).1 (fun o e => hs0.extBut _ _ (S.z1 j jm).symm e) fun o e => hs0.extBut _ _ (S.z2 j jm).symm e
  · rintro s' ⟨q, h, tk, er, ql, rfl, M⟩
    have qe : q = js.length := by
      have h1 := congrArg List.length er
      rw [List.length_drop, List.length_zipIdx, List.length_map] at h1
      have h1 : 0 = js.length - q := h1
      omega
    subst qe
    obtain ⟨xs, hx, xsz, xv⟩ := M.out
    refine wpAny_bind (wpAny_seqItems (s := ⟨h, g, d, tk, os⟩) hx rfl ?_)
    refine wpAny_bind (wpAny_newTuple ?_ (by show xs.toList.length ≤ sizeLine; rw [Array.length_toList, xsz]; exact Nat.le_trans few (by decide)))
    have eN : h.objs.size = hp0.objs.size := M.sz
    have zlt : zp < h.objs.size := Heap.lt_size M.zz
    show wpAny _ _ (Builtin.SmallTypes.ownedTupleHandOut (.ref zp) (.ref h.objs.size) >>= _) _ _ ⟨h.push { cls := .type "tuple", data := .seq xs }, g, d, tk, os⟩
    refine wpAny_bind ?_; unfold Builtin.SmallTypes.ownedTupleHandOut
    have w1 : IsZip (h.push { cls := .type "tuple", data := .seq xs }) zp TI TO .ellipsis := Heap.get?_push_of_some _ M.zz
    refine wpAny_bind (wpAny_setField_rec w1 (by simp) fun h1 w2 s1 => ?_)
    replace w2 : IsZip h1 zp TI TO (rawInt h.objs.size) := w2
    refine wpAny_setField_rec w2 (by simp) fun h2 w3 s2 => ?_
    replace w3 : IsZip h2 zp TI TO (rawInt h.objs.size) := w3
    replace s1 : Heap.SameBut zp (h.push { cls := .type "tuple", data := .seq xs }) h1 := s1
    replace s2 : Heap.SameBut zp h1 h2 := s2
    have up : ∀ c o, c ≠ zp → h.get? c = some o → h2.get? c = some o := fun c o cz e => s2.extBut _ _ cz (s1.extBut _ _ cz (Heap.get?_push_of_some _ e))
    have new : Tup4 h2 h.objs.size xs := s2.extBut _ _ (Nat.ne_of_gt zlt) (s1.extBut _ _ (Nat.ne_of_gt zlt) (Heap.get?_push_size _ rfl))
    have len : h2.objs.size = h.objs.size + 1 := by rw [s2.1, s1.1, Heap.size_push]
    rw [eN] at w3 new len
    refine wpAny_pure ⟨_, rfl, ?_⟩
    show Q (.ref h.objs.size) ⟨h2, g, d, tk, os⟩
    rw [eN]
    refine hQ xs h2 tk xsz (fun p v hv => xv p v (by rw [← lv]; exact (List.getElem?_eq_some_iff.mp hv).1) hv) w3 (up _ _ S.oz hx) (fun p j v hj hv => ?_) new len fun c o c1 c2 c3 ho => up c o c1 (M.kept c o c1 c2 c3 ho)
    have jm : j ∈ js := List.mem_of_getElem? hj
    have a0 := M.its p j v hj hv
    rw [if_pos (List.getElem?_eq_some_iff.mp hj).1] at a0
    exact At.keep a0 (fun o e => up _ _ (S.z1 j jm).symm e) fun o e => up _ _ (S.z2 j jm).symm e
theorem next_end {Q : Fin → Shared → Prop} (calm : A.handled = none) (S : Sep zp TI TO js) (few : js.length ≤ 4) (hz0 : IsZip s.heap zp TI TO .none) (hI : Tup4 s.heap TI (js.map fun j => Value.ref j.1).toArray)
    {j0 : Addr × Addr} {v0 : Array Value} (j0q : js[0]? = some j0) (a0 : At s.heap j0 v0 v0.size)
    (hE : ∀ (h' : Heap) (tk : Tok) (e : Addr), (∀ c o, c ≠ zp → c ≠ TO → c ∉ js.map Prod.fst → s.heap.get? c = some o → h'.get? c = some o) → (∃ o, h'.get? e = some o ∧ o.cls = .type "StopIteration") → E (.ref e) { s with heap := h', toks := tk }) :
    wpAny (model prog w) A (Builtin.«zip.__next__» ⟨[.ref zp], []⟩) Q E s := by
  obtain ⟨hp0, g, d, tk0, os⟩ := s
  have jm : j0 ∈ js := List.mem_of_getElem? j0q
  show wpAny _ _ (field (.ref zp) 2 >>= _) _ _ _
  refine wpAny_bind (wpAny_field hz0 rfl (x := .bool false) rfl ?_)
  refine wpAny_bind (wpAny_field hz0 rfl (x := .ref TI) rfl ?_)
  refine wpAny_bind (wpAny_seqItems hI rfl ?_)
  obtain ⟨rest, ejs⟩ : ∃ rest, js = j0 :: rest := by
    cases js with
    | nil => cases j0q
    | cons a b => cases j0q; exact ⟨b, rfl⟩
  have em : (js.map fun j => Value.ref j.1).toArray.isEmpty = false := by
    rw [ejs]
    simp
  simp only [em, if_false, Bool.false_eq_true]
  show wpAny _ _ (Builtin.SmallTypes.ownedTupleIsFree (.ref zp) >>= _) _ _ _
  refine wpAny_bind ?_; unfold Builtin.SmallTypes.ownedTupleIsFree
  refine wpAny_bind (wpAny_field hz0 rfl (x := .none) rfl (wpAny_pure ?_))
  simp only [if_true]
  refine wpAny_bind (wpAny_rule ?_)
  refine wpAny_bind (wpAny_field hz0 rfl (x := .ref TO) rfl ?_)
  refine wpAny_bind (wpAny_setField_rec hz0 (by simp) fun g0 hz1 hs0 => ?_)
  replace hz1 : IsZip g0 zp TI TO .ellipsis := hz1
  replace hs0 : Heap.SameBut zp hp0 g0 := hs0
  have lst : ((js.map fun j => Value.ref j.1).toArray.toList.zipIdx) = (Value.ref j0.1, 0) :: (rest.map fun j => Value.ref j.1).zipIdx 1 := by rw [ejs]; rfl
  rw [lst]
  refine wpAny_bind ?_
  rw [List.forIn_cons]
  refine wpAny_bind (wpAny_bind (wpAny_onRaise ?_))
  show wpAny _ _ (Builtin.SmallTypes.nextOf (.ref j0.1) >>= _) _ _ ⟨g0, g, d, tk0, os⟩
  refine wpAny_bind ((Draws.list (prog := prog) (w := w) calm j0.1 j0.2 (S.ap j0 jm j0 jm) v0).done ⟨g0, g, d, tk0, os⟩ _ _ (At.keep a0 (fun o e => hs0.extBut _ _ (S.z1 j0 jm).symm e) fun o e => hs0.extBut _ _ (S.z2 j0 jm).symm e) fun p e hq he => ?_)
  replace hq : Heap.ExtBut j0.1 g0 p := hq
  obtain ⟨oe, ho, hc⟩ := he
  replace ho : p.get? e = some oe := ho
  have w1 : IsZip p zp TI TO .ellipsis := hq _ _ (S.z1 j0 jm) hz1
  have nz : e ≠ zp := fun x => by
    subst x
    rw [w1] at ho
    cases ho
    simp at hc
  refine wpAny_setField_rec (s := ⟨p, g, d, tk0, os⟩) w1 (by simp) fun p2 _ s2 => ?_
  replace s2 : Heap.SameBut zp p p2 := s2
  exact hE p2 tk0 e (fun c o c1 c2 c3 x => s2.extBut _ _ c1 (hq _ _ (fun y => c3 (List.mem_map.mpr ⟨j0, jm, y.symm⟩)) (hs0.extBut _ _ c1 x))) ⟨oe, s2.extBut _ _ nz ho, hc⟩
end
section
variable {prog : Program} {w : World} {A : Around} {E : Value → Shared → Prop} {s : Shared} {zp TI TO : Addr} {js : List (Addr × Addr)} {vs : List (Array Value)} {i n : Nat}
theorem py_item {Q : Option Value → Shared → Prop} (calm : A.in1.handled = none) (S : Sep zp TI TO js) (lv : vs.length = js.length) (few : js.length ≤ 4) (hz0 : IsZip s.heap zp TI TO .none) (hI : Tup4 s.heap TI (js.map fun j => Value.ref j.1).toArray) {xs0 : Array Value} (hO : Tup4 s.heap TO xs0) (x0 : xs0.size = js.length) (ne : js ≠ [])
    (at_ : ∀ (p : Nat) (j : Addr × Addr) (v : Array Value), js[p]? = some j → vs[p]? = some v → At s.heap j v i ∧ i < v.size)
    (hQ : ∀ (xs : Array Value) (h' : Heap) (tk : Tok), xs.size = js.length → (∀ (p : Nat) (v : Array Value), vs[p]? = some v → v[i]? = xs[p]?) → IsZip h' zp TI TO (rawInt s.heap.objs.size) → Tup4 h' TO xs → (∀ (p : Nat) (j : Addr × Addr) (v : Array Value), js[p]? = some j → vs[p]? = some v → At h' j v (i + 1)) → Tup4 h' s.heap.objs.size xs → h'.objs.size = s.heap.objs.size + 1 →
      (∀ c o, c ≠ zp → c ≠ TO → c ∉ js.map Prod.fst → s.heap.get? c = some o → h'.get? c = some o) → Q (some (.ref s.heap.objs.size)) { s with heap := h', toks := tk }) :
    wpAny (model prog w) A (pyNext (.ref zp)) Q E s := by
  have ty : s.TypeIs (.ref zp) "zip" := ⟨_, hz0, rfl⟩
  unfold pyNext
  exact wpAny_bind (wpAny_attempt (wpAny_callSpecial?_slot (name := Str.ofString "__next__") ty F.slot_zip_next (wpAny_call_entry F.slot_zip_next ty F.entry_zip_next
      (next_item calm S lv few hz0 hI hO x0 ne at_ fun xs h' tk b1 b2 b3 b4 b5 b6 b7 b8 => wpAny_pure (hQ xs h' tk b1 b2 b3 b4 b5 b6 b7 b8)) (F.args_zip_next_1 _))))
theorem py_end {Q : Option Value → Shared → Prop} (calm : A.in1.handled = none) (S : Sep zp TI TO js) (few : js.length ≤ 4) (hz0 : IsZip s.heap zp TI TO .none) (hI : Tup4 s.heap TI (js.map fun j => Value.ref j.1).toArray)
    {j0 : Addr × Addr} {v0 : Array Value} (j0q : js[0]? = some j0) (a0 : At s.heap j0 v0 v0.size)
    (hQ : ∀ (h' : Heap) (tk : Tok), (∀ c o, c ≠ zp → c ≠ TO → c ∉ js.map Prod.fst → s.heap.get? c = some o → h'.get? c = some o) → Q none { s with heap := h', toks := tk }) : wpAny (model prog w) A (pyNext (.ref zp)) Q E s := by
  have ty : s.TypeIs (.ref zp) "zip" := ⟨_, hz0, rfl⟩
  unfold pyNext
  refine wpAny_bind (wpAny_attempt (wpAny_callSpecial?_slot (name := Str.ofString "__next__") ty F.slot_zip_next (wpAny_call_entry F.slot_zip_next ty F.entry_zip_next
    (next_end calm S few hz0 hI j0q a0 fun h' tk e kp ⟨o, ho, hc⟩ => ?_) (F.args_zip_next_1 _))))
  exact wpAny_bind (wpAny_isInstance (T := "StopIteration") (b := true) ⟨o, ho, hc⟩ isSubtype_stop (wpAny_pure (hQ _ _ kp)))
end
/-- four lists of one length as they stand, the items in new tuples -/
def It4 (K : PySem.W.Frag) (a b c d : Addr) : It where
  go i H := ∃ (xs ys zs ws : List V), SqL K H a xs ∧ SqL K H b ys ∧ SqL K H c zs ∧ SqL K H d ws ∧ ys.length = xs.length ∧ zs.length = xs.length ∧ ws.length = xs.length ∧ i < xs.length
  yld i H v H' := ∃ T x y z u, v = .ref T ∧ H T = none ∧ H' = upd H T (.tup [x, y, z, u]) ∧ (∀ xs, SqL K H a xs → xs[i]? = some x) ∧ (∀ ys, SqL K H b ys → ys[i]? = some y) ∧ (∀ zs, SqL K H c zs → zs[i]? = some z) ∧ ∀ ws, SqL K H d ws → ws[i]? = some u
  stop i H := ∃ (xs ys zs ws : List V), SqL K H a xs ∧ SqL K H b ys ∧ SqL K H c zs ∧ SqL K H d ws ∧ ys.length = i ∧ zs.length = i ∧ ws.length = i ∧ xs.length = i
abbrev cells4 (zp TI TO i1 i2 i3 i4 : Addr) : List Addr := [zp, TI, TO, i1, i2, i3, i4]
def Tn4 (a b c d zp TI TO i1 i2 i3 i4 : Addr) (i : Nat) (h : Heap) : Prop :=
  IsZip h zp TI TO .none ∧ Tup4 h TI #[.ref i1, .ref i2, .ref i3, .ref i4] ∧ (∃ xs : Array Value, Tup4 h TO xs ∧ xs.size = 4) ∧ h.IsListIter i1 a i ∧ h.IsListIter i2 b i ∧ h.IsListIter i3 c i ∧ h.IsListIter i4 d i
theorem turn4 {P : Program} {w : World} {K : PySem.W.Frag} {elts : List Expr} {kk : Nat} {tpos : Pos} {a b c d zp TI TO i1 i2 i3 i4 : Addr} (S : Sep zp TI TO [(i1, a), (i2, b), (i3, c), (i4, d)]) :
    Turn P w K (.Tuple elts kk tpos) (It4 K a b c d) (cells4 zp TI TO i1 i2 i3 i4) zp (Tn4 a b c d zp TI TO i1 i2 i3 i4) where
  mem := List.mem_cons_self
  obj i h st q hq := by
    obtain ⟨hz, hTI, ⟨xs, hTO, _⟩, ⟨o1, e1, _, d1⟩, ⟨o2, e2, _, d2⟩, ⟨o3, e3, _, d3⟩, ⟨o4, e4, _, d4⟩⟩ := st
    simp only [cells4, List.mem_cons, List.not_mem_nil, or_false] at hq
    rcases hq with rfl | rfl | rfl | rfl | rfl | rfl | rfl
    · exact ⟨_, hz, fun v e => nomatch e⟩
    · exact ⟨_, hTI, fun v e => nomatch e⟩
    · exact ⟨_, hTO, fun v e => nomatch e⟩
    · exact ⟨o1, e1, fun v e => by rw [d1] at e; cases e⟩
    · exact ⟨o2, e2, fun v e => by rw [d2] at e; cases e⟩
    · exact ⟨o3, e3, fun v e => by rw [d3] at e; cases e⟩
    · exact ⟨o4, e4, fun v e => by rw [d4] at e; cases e⟩
  keep i h h' st k := by
    obtain ⟨hz, hTI, ⟨xs, hTO, x4⟩, h1, h2, h3, h4⟩ := st
    exact ⟨k zp (by simp) _ hz, k TI (by simp) _ hTI, ⟨xs, k TO (by simp) _ hTO, x4⟩, h1.at fun o q => k i1 (by simp) o q, h2.at fun o q => k i2 (by simp) o q, h3.at fun o q => k i3 (by simp) o q, h4.at fun o q => k i4 (by simp) o q⟩
  item := by
    rintro X rfl rfl rfl calm i pins s σ H E I free st ⟨xs, ys, zs, ws, q1, q2, q3, q4, l2, l3, l4, lt⟩
    obtain ⟨hz, hTI, ⟨xs0, hTO, x4⟩, h1, h2, h3, h4⟩ := st
    obtain ⟨v1, r1, p1, _⟩ := I.list q1
    obtain ⟨v2, r2, p2, _⟩ := I.list q2
    obtain ⟨v3, r3, p3, _⟩ := I.list q3
    obtain ⟨v4, r4, p4, _⟩ := I.list q4
    have s1 : v1.toArray.size = xs.length := by rw [List.size_toArray, ← r1.length]
    have s2 : v2.toArray.size = ys.length := by rw [List.size_toArray, ← r2.length]
    have s3 : v3.toArray.size = zs.length := by rw [List.size_toArray, ← r3.length]
    have s4 : v4.toArray.size = ws.length := by rw [List.size_toArray, ← r4.length]
    have hh : X.A.in1.handled = none := I.ok.hd calm
    have zl : zp < s.heap.objs.size := Heap.lt_size hz
    refine py_item (vs := [v1.toArray, v2.toArray, v3.toArray, v4.toArray]) (i := i) hh S rfl (Nat.le_refl 4) hz hTI hTO x4 (by simp) (fun p j v hj hv => ?_) fun rs h' tk rsz rv zz o2 its tup sz kp => ?_
    · match p, hj, hv with
      | 0, hj, hv => cases hj; cases hv; exact ⟨⟨h1, p1.isList⟩, by omega⟩
      | 1, hj, hv => cases hj; cases hv; exact ⟨⟨h2, p2.isList⟩, by omega⟩
      | 2, hj, hv => cases hj; cases hv; exact ⟨⟨h3, p3.isList⟩, by omega⟩
      | 3, hj, hv => cases hj; cases hv; exact ⟨⟨h4, p4.isList⟩, by omega⟩
      | p + 4, hj, hv => cases hj
    obtain ⟨x1, x2, x3, x4, rfl⟩ : ∃ x1 x2 x3 x4 : Value, rs = #[x1, x2, x3, x4] := by
      obtain ⟨l⟩ := rs
      match l, rsz with
      | [x1, x2, x3, x4], _ => exact ⟨x1, x2, x3, x4, rfl⟩
    have g1 : v1.toArray[i]? = some x1 := rv 0 _ rfl
    have g2 : v2.toArray[i]? = some x2 := rv 1 _ rfl
    have g3 : v3.toArray[i]? = some x3 := rv 2 _ rfl
    have g4 : v4.toArray[i]? = some x4 := rv 3 _ rfl
    refine ⟨_, rfl, wpAny_letOwnedTupleGo_zip (s := { s with heap := h', toks := tk }) zz fun h'' z'' sb => ?_⟩
    have tup2 : h''.get? s.heap.objs.size = some { cls := .type "tuple", data := .seq #[x1, x2, x3, x4] } := (sb.2 _ (Nat.ne_of_gt zl)).trans tup
    obtain ⟨u1, e1, w1⟩ : ∃ u, xs[i]? = some u ∧ RelV u x1 := by
      have hx : xs[i]? = some xs[i] := List.getElem?_eq_getElem (by omega)
      obtain ⟨u, hu, ru⟩ := r1.get hx
      rw [← Array.getElem?_toList] at g1
      rw [show v1.toArray.toList = v1 from rfl, hu] at g1
      exact ⟨_, hx, Option.some.inj g1 ▸ ru⟩
    obtain ⟨u2, e2, w2⟩ : ∃ u, ys[i]? = some u ∧ RelV u x2 := by
      have hx : ys[i]? = some ys[i] := List.getElem?_eq_getElem (by omega)
      obtain ⟨u, hu, ru⟩ := r2.get hx
      rw [← Array.getElem?_toList] at g2
      rw [show v2.toArray.toList = v2 from rfl, hu] at g2
      exact ⟨_, hx, Option.some.inj g2 ▸ ru⟩
    obtain ⟨u3, e3, w3⟩ : ∃ u, zs[i]? = some u ∧ RelV u x3 := by
      have hx : zs[i]? = some zs[i] := List.getElem?_eq_getElem (by omega)
      obtain ⟨u, hu, ru⟩ := r3.get hx
      rw [← Array.getElem?_toList] at g3
      rw [show v3.toArray.toList = v3 from rfl, hu] at g3
      exact ⟨_, hx, Option.some.inj g3 ▸ ru⟩
    obtain ⟨u4, e4, w4⟩ : ∃ u, ws[i]? = some u ∧ RelV u x4 := by
      have hx : ws[i]? = some ws[i] := List.getElem?_eq_getElem (by omega)
      obtain ⟨u, hu, ru⟩ := r4.get hx
      rw [← Array.getElem?_toList] at g4
      rw [show v4.toArray.toList = v4 from rfl, hu] at g4
      exact ⟨_, hx, Option.some.inj g4 ▸ ru⟩
    have new : ObjOk X.prog X.w (upd H s.heap.objs.size (.tup [u1, u2, u3, u4])) h'' s.heap.objs.size (.tup [u1, u2, u3, u4]) :=
      ⟨by show 4 ≤ sizeLine; decide, [x1, x2, x3, x4], .cons w1 (.cons w2 (.cons w3 (.cons w4 .nil))), _, tup2, rfl, _, rfl⟩
    have kp2 : ∀ q o, q ∉ cells4 zp TI TO i1 i2 i3 i4 → s.heap.get? q = some o → h''.get? q = some o := fun q o nq e => by
      simp only [cells4, List.mem_cons, List.not_mem_nil, or_false, not_or] at nq
      exact (sb.2 q nq.1).trans (kp q o nq.1 nq.2.2.1 (by simp only [List.map_cons, List.map_nil, List.mem_cons, List.not_mem_nil, or_false, not_or]; exact nq.2.2.2) e)
    have I1 : Inv X pins σ (upd H s.heap.objs.size (.tup [u1, u2, u3, u4])) { s with heap := h'', toks := tk } := I.turnedNew (t' := tk) (ch := cells4 zp TI TO i1 i2 i3 i4) kp2 free (Nat.le_refl _) new
    refine ⟨.ref s.heap.objs.size, _, I1, rfl, ⟨_, u1, u2, u3, u4, rfl, I.hok.fresh (Nat.le_refl _), rfl, fun l hl => by rw [I.list_inj hl q1]; exact e1, fun l hl => by rw [I.list_inj hl q2]; exact e2, fun l hl => by rw [I.list_inj hl q3]; exact e3, fun l hl => by rw [I.list_inj hl q4]; exact e4⟩, ⟨z'', ?_, ⟨_, ?_, rsz⟩, ?_, ?_, ?_, ?_⟩, fun q hq => ?_⟩
    · refine (sb.2 _ S.iz).trans (kp _ _ S.iz S.io (fun m => ?_) hTI)
      obtain ⟨j, hj, e⟩ := List.mem_map.mp m
      exact S.ti j hj e.symm
    · exact (sb.2 _ S.oz).trans o2
    · exact (its 0 _ _ rfl rfl).1.at fun o e => (sb.2 _ (S.z1 (i1, a) (by simp)).symm).trans e
    · exact (its 1 _ _ rfl rfl).1.at fun o e => (sb.2 _ (S.z1 (i2, b) (by simp)).symm).trans e
    · exact (its 2 _ _ rfl rfl).1.at fun o e => (sb.2 _ (S.z1 (i3, c) (by simp)).symm).trans e
    · exact (its 3 _ _ rfl rfl).1.at fun o e => (sb.2 _ (S.z1 (i4, d) (by simp)).symm).trans e
    · have below : q < s.heap.objs.size := by
        simp only [cells4, List.mem_cons, List.not_mem_nil, or_false] at hq
        rcases hq with rfl | rfl | rfl | rfl | rfl | rfl | rfl
        · exact zl
        · exact Heap.lt_size hTI
        · exact Heap.lt_size hTO
        · obtain ⟨_, e, _⟩ := h1; exact Heap.lt_size e
        · obtain ⟨_, e, _⟩ := h2; exact Heap.lt_size e
        · obtain ⟨_, e, _⟩ := h3; exact Heap.lt_size e
        · obtain ⟨_, e, _⟩ := h4; exact Heap.lt_size e
      rw [upd_ne (Nat.ne_of_lt below)]
      exact (free q hq).1
  done := by
    rintro X rfl rfl rfl calm i pins s σ H E I free st ⟨xs, ys, zs, ws, q1, q2, q3, q4, l2, l3, l4, l1⟩
    obtain ⟨hz, hTI, ⟨xs0, hTO, x4⟩, h1, h2, h3, h4⟩ := st
    obtain ⟨v1, r1, p1, _⟩ := I.list q1
    have s1 : v1.toArray.size = i := by rw [List.size_toArray, ← r1.length, l1]
    have hh : X.A.in1.handled = none := I.ok.hd calm
    refine py_end (v0 := v1.toArray) hh S (Nat.le_refl 4) hz hTI rfl (by rw [s1]; exact ⟨h1, p1.isList⟩) fun h' tk kp => ⟨rfl, I.turnedL (t' := tk) (ch := cells4 zp TI TO i1 i2 i3 i4) (fun q o nq e => ?_) free⟩
    simp only [cells4, List.mem_cons, List.not_mem_nil, or_false, not_or] at nq
    exact kp q o nq.1 nq.2.2.1 (by simp only [List.map_cons, List.map_nil, List.mem_cons, List.not_mem_nil, or_false, not_or]; exact nq.2.2.2) e
  self A i s Q E st h := wpAny_pyIter_zip st.1 h
abbrev hT4 (h : Heap) (o1 o2 o3 o4 : Obj) : Heap := ((((h.push o1).push o2).push o3).push o4).push { cls := .type "tuple", data := .seq #[.ref h.objs.size, .ref (h.push o1).objs.size, .ref ((h.push o1).push o2).objs.size, .ref (((h.push o1).push o2).push o3).objs.size] }
abbrev hO4 (h : Heap) (o1 o2 o3 o4 : Obj) : Heap := (hT4 h o1 o2 o3 o4).push { cls := .type "tuple", data := .seq #[.none, .none, .none, .none] }
abbrev hZ4 (h : Heap) (o1 o2 o3 o4 : Obj) : Heap := (hO4 h o1 o2 o3 o4).push { cls := .type "zip", data := .fields #[.none, .bool false, .bool false, .ref ((((h.push o1).push o2).push o3).push o4).objs.size, .ref (hT4 h o1 o2 o3 o4).objs.size] }
theorem typeCall4 (a b c d : Value) : checkTypeCall "zip" ⟨[a, b, c, d], []⟩ = pure () := by kernel_rfl
theorem newCall4 (a b c d : Value) : checkBuiltinCall "zip.__new__" ⟨[.type "zip", a, b, c, d], []⟩ = pure () := by kernel_rfl
theorem initArgs5 (obj a b c d : Value) : argsOk "object.__init__" ⟨[obj, a, b, c, d], []⟩ := by unfold argsOk; kernel_rfl
theorem meets4 {v1 v2 v3 v4 : Value} {o1 o2 o3 o4 : Obj} {J1 J2 J3 J4 : Heap → Prop} (B1 : Begins v1 o1 J1) (B2 : Begins v2 o2 J2) (B3 : Begins v3 o3 J3) (B4 : Begins v4 o4 J4) :
    Meets (Builtin.«zip.__new__» ⟨[.type "zip", v1, v2, v3, v4], []⟩) (fun _ R s => (J1 s.heap ∧ J2 s.heap ∧ J3 s.heap ∧ J4 s.heap) ∧
      R (.ok (.ret (.ref (hO4 s.heap o1 o2 o3 o4).objs.size))) { s with heap := hZ4 s.heap o1 o2 o3 o4 }) :=
  .of_wp fun prog w A R s hh => by
    obtain ⟨h0, g, d, tk, os⟩ := s
    obtain ⟨⟨j1, j2, j3, j4⟩, hh⟩ := hh
    have hsub := sub_zip
    have q1 : ∀ {A' : Around} {E : Value → Shared → Prop} {Q : Value → Shared → Prop}, Q (.ref h0.objs.size) ⟨(h0.push o1), g, d, tk, os⟩ → wpAny (model prog w) A' (pyIter v1) Q E ⟨h0, g, d, tk, os⟩ :=
      fun q => B1.iter prog w _ _ ⟨h0, g, d, tk, os⟩ _ (B1.keeps _ _ j1 fun b o' e => e) q
    have q2 : ∀ {A' : Around} {E : Value → Shared → Prop} {Q : Value → Shared → Prop}, Q (.ref (h0.push o1).objs.size) ⟨((h0.push o1).push o2), g, d, tk, os⟩ → wpAny (model prog w) A' (pyIter v2) Q E ⟨(h0.push o1), g, d, tk, os⟩ :=
      fun q => B2.iter prog w _ _ ⟨(h0.push o1), g, d, tk, os⟩ _ (B2.keeps _ _ j2 fun b o' e => (Heap.get?_push_of_some _ e)) q
    have q3 : ∀ {A' : Around} {E : Value → Shared → Prop} {Q : Value → Shared → Prop}, Q (.ref ((h0.push o1).push o2).objs.size) ⟨(((h0.push o1).push o2).push o3), g, d, tk, os⟩ → wpAny (model prog w) A' (pyIter v3) Q E ⟨((h0.push o1).push o2), g, d, tk, os⟩ :=
      fun q => B3.iter prog w _ _ ⟨((h0.push o1).push o2), g, d, tk, os⟩ _ (B3.keeps _ _ j3 fun b o' e => (Heap.get?_push_of_some _ (Heap.get?_push_of_some _ e))) q
    have q4 : ∀ {A' : Around} {E : Value → Shared → Prop} {Q : Value → Shared → Prop}, Q (.ref (((h0.push o1).push o2).push o3).objs.size) ⟨((((h0.push o1).push o2).push o3).push o4), g, d, tk, os⟩ → wpAny (model prog w) A' (pyIter v4) Q E ⟨(((h0.push o1).push o2).push o3), g, d, tk, os⟩ :=
      fun q => B4.iter prog w _ _ ⟨(((h0.push o1).push o2).push o3), g, d, tk, os⟩ _ (B4.keeps _ _ j4 fun b o' e => (Heap.get?_push_of_some _ (Heap.get?_push_of_some _ (Heap.get?_push_of_some _ e)))) q
    wp_walk using q1, q2, q3, q4
    exact ⟨_, rfl, hh⟩
theorem begins4 {prog : Program} {w : World} {A : Around} {E : Value → Shared → Prop} {s : Shared} {v1 v2 v3 v4 : Value} {o1 o2 o3 o4 : Obj} {J1 J2 J3 J4 : Heap → Prop} {Q : Value → Shared → Prop} (B1 : Begins v1 o1 J1) (B2 : Begins v2 o2 J2) (B3 : Begins v3 o3 J3) (B4 : Begins v4 o4 J4) (j1 : J1 s.heap) (j2 : J2 s.heap) (j3 : J3 s.heap) (j4 : J4 s.heap)
    (h : ∀ h', IsZip h' (s.heap.objs.size + 6) (s.heap.objs.size + 4) (s.heap.objs.size + 5) .none → Tup4 h' (s.heap.objs.size + 4) #[.ref s.heap.objs.size, .ref (s.heap.objs.size + 1), .ref (s.heap.objs.size + 2), .ref (s.heap.objs.size + 3)] →
      Tup4 h' (s.heap.objs.size + 5) #[.none, .none, .none, .none] → h'.get? s.heap.objs.size = some o1 → h'.get? (s.heap.objs.size + 1) = some o2 → h'.get? (s.heap.objs.size + 2) = some o3 → h'.get? (s.heap.objs.size + 3) = some o4 →
      (∀ c o, s.heap.get? c = some o → h'.get? c = some o) → Q (.ref (s.heap.objs.size + 6)) { s with heap := h' }) :
    wpAny (model prog w) A (call (.type "zip") [v1, v2, v3, v4]) Q E s := by
  refine callType_new F.called_zip (by decide) (typeCall4 _ _ _ _) (newCall4 _ _ _ _) (fun obj => initArgs5 obj _ _ _ _) F.entry_zip_new (meets4 B1 B2 B3 B4) ⟨⟨j1, j2, j3, j4⟩, ?_⟩
  have k1 : (s.heap.push o1).objs.size = s.heap.objs.size + 1 := by rw [Heap.size_push]
  have k2 : ((s.heap.push o1).push o2).objs.size = s.heap.objs.size + 2 := by rw [Heap.size_push, k1]
  have k3 : (((s.heap.push o1).push o2).push o3).objs.size = s.heap.objs.size + 3 := by rw [Heap.size_push, k2]
  have k4 : ((((s.heap.push o1).push o2).push o3).push o4).objs.size = s.heap.objs.size + 4 := by rw [Heap.size_push, k3]
  have kT : (hT4 s.heap o1 o2 o3 o4).objs.size = s.heap.objs.size + 5 := by rw [Heap.size_push, k4]
  have kO : (hO4 s.heap o1 o2 o3 o4).objs.size = s.heap.objs.size + 6 := by rw [Heap.size_push, kT]
  have up : ∀ {h : Heap} {o o' : Obj} {c : Addr}, h.get? c = some o → (h.push o').get? c = some o := fun e => Heap.get?_push_of_some _ e
  have tZ : (hZ4 s.heap o1 o2 o3 o4).get? (hO4 s.heap o1 o2 o3 o4).objs.size = some { cls := .type "zip", data := .fields #[.none, .bool false, .bool false, .ref ((((s.heap.push o1).push o2).push o3).push o4).objs.size, .ref (hT4 s.heap o1 o2 o3 o4).objs.size] } := Heap.get?_push_size _ rfl
  have tO : (hZ4 s.heap o1 o2 o3 o4).get? (hT4 s.heap o1 o2 o3 o4).objs.size = some { cls := .type "tuple", data := .seq #[.none, .none, .none, .none] } := up (Heap.get?_push_size _ rfl)
  have tT : (hZ4 s.heap o1 o2 o3 o4).get? ((((s.heap.push o1).push o2).push o3).push o4).objs.size = some { cls := .type "tuple", data := .seq #[.ref s.heap.objs.size, .ref (s.heap.push o1).objs.size, .ref ((s.heap.push o1).push o2).objs.size, .ref (((s.heap.push o1).push o2).push o3).objs.size] } := up (up (Heap.get?_push_size _ rfl))
  have t1 : (hZ4 s.heap o1 o2 o3 o4).get? s.heap.objs.size = some o1 := up (up (up (up (up (up (Heap.get?_push_size _ B1.free))))))
  have t2 : (hZ4 s.heap o1 o2 o3 o4).get? (s.heap.push o1).objs.size = some o2 := up (up (up (up (up (Heap.get?_push_size _ B2.free)))))
  have t3 : (hZ4 s.heap o1 o2 o3 o4).get? ((s.heap.push o1).push o2).objs.size = some o3 := up (up (up (up (Heap.get?_push_size _ B3.free))))
  have t4 : (hZ4 s.heap o1 o2 o3 o4).get? (((s.heap.push o1).push o2).push o3).objs.size = some o4 := up (up (up (Heap.get?_push_size _ B4.free)))
  rw [kO, kT, k4] at tZ
  rw [kT] at tO
  rw [k4, k3, k2, k1] at tT
  rw [k1] at t2
  rw [k2] at t3
  rw [k3] at t4
  show _ ∧ _
  rw [kO]
  exact ⟨⟨_, tZ, rfl⟩, h _ tZ tT tO t1 t2 t3 t4 fun c o e => up (up (up (up (up (up (up e))))))⟩
def iZip4 (K : PySem.W.Frag) (ta : TA) : TI := fun σ H R => ta σ H fun vs H1 => ∃ a b c d xs ys zs ws, vs = [.ref a, .ref b, .ref c, .ref d] ∧ SqL K H1 a xs ∧ SqL K H1 b ys ∧ SqL K H1 c zs ∧ SqL K H1 d ws ∧ R (It4 K a b c d) H1
theorem pi_zip4 {X : Cx} {e e2 e3 e4 : Expr} {ta : TA} {p pos tpos : Pos} {elts : List Expr} {kk : Nat} (gl : Gl X "zip") (nm : X.mg "zip" = none) (args : PA X [e, e2, e3, e4] ta)
    (one : starEach [e, e2, e3, e4] X.env = (false, eval e X.env) :: starEach [e2, e3, e4] X.env := by rfl) (more : (backTo pos (starEach [e2, e3, e4] X.env)).any (·.1) = false := by rfl) :
    PI X (.Tuple elts kk tpos) (.Call (.Name "zip" p) [e, e2, e3, e4] [] pos) (iZip4 X.K ta) := by
  constructor
  intro pins s σ H R I had
  refine Call_ (ld_blt I gl nm PyProof.Rows.boot_zip (PyProof.Rows.callWith_type1 (thn (args.run pos pins s σ H _ I had) fun us s1 got => ?_) one more))
  obtain ⟨vs, H1, I1, rel, a, b, c, d, xs, ys, zs, ws, rfl, q1, q2, q3, q4, goal⟩ := got
  obtain ⟨u1, us, rfl, ra, rel⟩ : ∃ u us', us = u :: us' ∧ RelV (.ref a) u ∧ Vals [V.ref b, V.ref c, V.ref d] us' := by
    cases rel with
    | cons r rr => exact ⟨_, _, rfl, r, rr⟩
  obtain ⟨u2, us, rfl, rb, rel⟩ : ∃ u us', us = u :: us' ∧ RelV (.ref b) u ∧ Vals [V.ref c, V.ref d] us' := by
    cases rel with
    | cons r rr => exact ⟨_, _, rfl, r, rr⟩
  obtain ⟨u3, u4, rfl, rc, rd⟩ := vals2 rel
  cases (show u1 = Value.ref a from ra)
  cases (show u2 = Value.ref b from rb)
  cases (show u3 = Value.ref c from rc)
  cases (show u4 = Value.ref d from rd)
  obtain ⟨v1, r1, p1, _⟩ := I1.list q1
  obtain ⟨v2, r2, p2, _⟩ := I1.list q2
  obtain ⟨v3, r3, p3, _⟩ := I1.list q3
  obtain ⟨v4, r4, p4, _⟩ := I1.list q4
  have la := Nat.lt_of_lt_of_le p1.lt (Nat.le_refl _)
  have lb := Nat.lt_of_lt_of_le p2.lt (Nat.le_refl _)
  have lc := Nat.lt_of_lt_of_le p3.lt (Nat.le_refl _)
  have ld := Nat.lt_of_lt_of_le p4.lt (Nat.le_refl _)
  refine begins4 (begins_list a v1.toArray) (begins_list b v2.toArray) (begins_list c v3.toArray) (begins_list d v4.toArray) p1.isList p2.isList p3.isList p4.isList fun h' hz hTI hTO g1 g2 g3 g4 kp => wpAny_pyIter_zip hz ?_
  have I2 : Inv X pins σ H1 { s1 with heap := h' } := I1.kept (t' := s1.toks) kp
  have S : Sep (s1.heap.objs.size + 6) (s1.heap.objs.size + 4) (s1.heap.objs.size + 5) [(s1.heap.objs.size, a), (s1.heap.objs.size + 1, b), (s1.heap.objs.size + 2, c), (s1.heap.objs.size + 3, d)] := by
    have e4 : ∀ {p : Addr × Addr → Prop}, p (s1.heap.objs.size, a) → p (s1.heap.objs.size + 1, b) → p (s1.heap.objs.size + 2, c) → p (s1.heap.objs.size + 3, d) → ∀ j ∈ [(s1.heap.objs.size, a), (s1.heap.objs.size + 1, b), (s1.heap.objs.size + 2, c), (s1.heap.objs.size + 3, d)], p j := fun {p} y1 y2 y3 y4 j hj => by
      simp only [List.mem_cons, List.not_mem_nil, or_false] at hj
      rcases hj with rfl | rfl | rfl | rfl
      · exact y1
      · exact y2
      · exact y3
      · exact y4
    refine ⟨Nat.ne_of_lt (by omega), Nat.ne_of_lt (by omega), Nat.ne_of_lt (by omega), e4 (Nat.ne_of_gt (by omega)) (Nat.ne_of_gt (by omega)) (Nat.ne_of_gt (by omega)) (Nat.ne_of_gt (by omega)), e4 (Nat.ne_of_gt (by omega)) (Nat.ne_of_gt (by omega)) (Nat.ne_of_gt (by omega)) (Nat.ne_of_gt (by omega)), e4 (Nat.ne_of_gt (by omega)) (Nat.ne_of_gt (by omega)) (Nat.ne_of_gt (by omega)) (Nat.ne_of_gt (by omega)), e4 (Nat.ne_of_gt (by omega)) (Nat.ne_of_gt (by omega)) (Nat.ne_of_gt (by omega)) (Nat.ne_of_gt (by omega)), e4 (Nat.ne_of_gt (by omega)) (Nat.ne_of_gt (by omega)) (Nat.ne_of_gt (by omega)) (Nat.ne_of_gt (by omega)), ?_, ?_⟩
    · simp only [List.map_cons, List.map_nil, List.nodup_cons, List.mem_cons, List.not_mem_nil, or_false, not_or, List.nodup_nil]
      exact ⟨⟨Nat.ne_of_lt (by omega), Nat.ne_of_lt (by omega), Nat.ne_of_lt (by omega)⟩, ⟨Nat.ne_of_lt (by omega), Nat.ne_of_lt (by omega)⟩, Nat.ne_of_lt (by omega), not_false, trivial⟩
    · exact e4 (e4 (Nat.ne_of_lt (by omega)) (Nat.ne_of_lt (by omega)) (Nat.ne_of_lt (by omega)) (Nat.ne_of_lt (by omega))) (e4 (Nat.ne_of_lt (by omega)) (Nat.ne_of_lt (by omega)) (Nat.ne_of_lt (by omega)) (Nat.ne_of_lt (by omega))) (e4 (Nat.ne_of_lt (by omega)) (Nat.ne_of_lt (by omega)) (Nat.ne_of_lt (by omega)) (Nat.ne_of_lt (by omega))) (e4 (Nat.ne_of_lt (by omega)) (Nat.ne_of_lt (by omega)) (Nat.ne_of_lt (by omega)) (Nat.ne_of_lt (by omega)))
  refine ⟨s1.heap.objs.size + 6, cells4 (s1.heap.objs.size + 6) (s1.heap.objs.size + 4) (s1.heap.objs.size + 5) s1.heap.objs.size (s1.heap.objs.size + 1) (s1.heap.objs.size + 2) (s1.heap.objs.size + 3), _, _, H1, rfl, I2, turn4 S, ⟨hz, hTI, ⟨_, hTO, rfl⟩, ⟨_, g1, rfl, rfl⟩, ⟨_, g2, rfl, rfl⟩, ⟨_, g3, rfl, rfl⟩, ⟨_, g4, rfl, rfl⟩⟩, fun q hq => ?_, goal⟩
  have le : s1.heap.objs.size ≤ q := by
    simp only [cells4, List.mem_cons, List.not_mem_nil, or_false] at hq
    rcases hq with rfl | rfl | rfl | rfl | rfl | rfl | rfl
    all_goals first | exact Nat.le_refl _ | exact Nat.le_add_right _ _
  exact I1.fpOk le (I1.hok.fresh le)
/-- a new tuple of the four i-th ones -/
def YQua (xs ys zs ws : List V) : Nat → Hp → V → Hp → Prop := fun i H v H' => ∃ T x y z u, v = .ref T ∧ H T = none ∧ H' = upd H T (.tup [x, y, z, u]) ∧ xs[i]? = some x ∧ ys[i]? = some y ∧ zs[i]? = some z ∧ ws[i]? = some u
theorem walk_zip4 {K : PySem.W.Frag} {a b c d : Addr} {xs ys zs ws : List V} (l2 : ys.length = xs.length) (l3 : zs.length = xs.length) (l4 : ws.length = xs.length) : Walk (It4 K a b c d) xs.length (fun H => SqL K H a xs ∧ SqL K H b ys ∧ SqL K H c zs ∧ SqL K H d ws) (YQua xs ys zs ws) where
  goes _ _ lt q := ⟨xs, ys, zs, ws, q.1, q.2.1, q.2.2.1, q.2.2.2, l2, l3, l4, lt⟩
  stops _ q := ⟨xs, ys, zs, ws, q.1, q.2.1, q.2.2.1, q.2.2.2, l2, l3, l4, rfl⟩
  yields _ _ _ _ _ q := fun ⟨T, x, y, z, u, e1, e2, e3, e4, e5, e6, e7⟩ => ⟨T, x, y, z, u, e1, e2, e3, e4 xs q.1, e5 ys q.2.1, e6 zs q.2.2.1, e7 ws q.2.2.2⟩
end RZ4

/-! list.reverse() -/
namespace RvL
open PySem PySem.Spec PyProof.Rows L2
theorem mt_reverse {X : Cx} : MtR X "list.reverse" (fun x vs H Q => ∃ (l : Addr) (xs : List V), x = .ref l ∧ vs = [] ∧ H l = some (.lst xs) ∧ Q .non (upd H l (.lst xs.reverse))) := by
  intro pins s σ H x vs v us Q I rx rv h
  obtain ⟨l, xs, rfl, rfl, was, goal⟩ := h
  cases rx
  have none : us = [] := by
    cases rv
    rfl
  subst none
  obtain ⟨z, its, n, r, len, e⟩ := I.lstM was
  refine call_meets PySem.F.slot_list_reverse ⟨_, e, rfl⟩ PySem.F.entry_list_reverse (PySem.F.args_list_reverse_1 _) (PySem.AutoSeq1.list_reverse_list_0 l its.toArray n (by rw [List.size_toArray]; omega)) ⟨e, ?_⟩
  have back : ∀ {xs : List V} {its : List Value}, Vals xs its → Vals xs.reverse its.reverse := fun {xs its} r => by
    induction r with
    | nil => exact .nil
    | cons a _ ih => rw [List.reverse_cons, List.reverse_cons]; exact ih.append (.cons a .nil)
  refine ⟨.non, _, I.lset (its' := its.reverse) was e (by simp) (back r) ?_, rfl, goal⟩
  rw [List.length_reverse]
  exact z
/-- t.index(y), flat items, the first place -/
theorem mt_tupIndex {X : Cx} : MtR X "tuple.index" (fun x xs H Q => ∃ (p : Addr) (ys : List V) (y : V) (j : Nat) (z : V), x = .ref p ∧ xs = [y] ∧ SqT X.K H p ys ∧ flatV y = true ∧ ys.all flatV = true ∧ ys[j]? = some z ∧ eqV z y = true ∧
    (∀ (m : Nat) (z' : V), m < j → ys[m]? = some z' → eqV z' y = false) ∧ Q (.int (j : Nat)) H) := by
  intro pins s σ H x xs v us Q I rx rs h
  obtain ⟨p, ys, y, j, z, rfl, rfl, seq, fy, fall, zat, same, before, goal⟩ := h
  cases rx
  obtain ⟨u, rfl, ru⟩ := vals1 rs
  obtain ⟨its, r, pl, _⟩ := I.tuple seq
  obtain ⟨⟨cls, dd, dt, sl⟩, there, c1, n, d1⟩ := pl
  simp only at c1 d1
  subst c1
  subst d1
  have size : its.toArray.size = ys.length := by rw [List.size_toArray, ← r.length]
  have jl : j < its.toArray.size := by rw [size]; exact (List.getElem?_eq_some_iff.mp zat).1
  have item : ∀ (m : Nat) (lt : m < its.toArray.size) (z' : V), ys[m]? = some z' → eqU y (its.toArray[m]) = eqV z' y := fun m lt z' e => by
    obtain ⟨w, hw, rw'⟩ := r.get e
    have e1 : its.toArray[m] = w := by
      have := (List.getElem?_eq_some_iff.mp hw).2
      rw [← this]
      simp
    rw [e1]
    exact eqU_of rw' (flat_at fall e)
  refine call_meets PySem.F.slot_tuple_index ⟨_, there, rfl⟩ PySem.F.entry_tuple_index (PySem.F.args_tuple_index_2 _ _) (TI.tuple_indexAt p its.toArray n dd sl u (eqU y) j jl ?_ ?_)
    ⟨there, fun w hw => mem_eqAt ru fy r fall w (by simpa using hw), ⟨.int (j : Nat), H, I.tok _, ⟨_, rfl⟩, goal⟩⟩
  · rw [item j jl z zat]
    exact same
  · intro m lt mj
    have e : ys[m]? = some (ys[m]'(by omega)) := List.getElem?_eq_getElem _
    rw [item m lt _ e]
    exact before m _ mj e
end RvL

/-! tuples whose object is known (no dict): a method of such a tuple may be called -/
namespace FrT
open PySem PySem.Spec PyProof.Rows L2
/-- a tuple whose object is known -/
def Fz (H : Hp) (a : Addr) (xs : List V) : Prop := ∃ o : Obj, H a = some (.frz o (.tup xs)) ∧ o.cls = .type "tuple" ∧ o.dict = none
theorem Fz.sq {K : PySem.W.Frag} {H : Hp} {a : Addr} {xs : List V} (f : Fz H a xs) : SqT K H a xs := by
  obtain ⟨o, e, _⟩ := f
  exact .inl (.inr ⟨o, e⟩)
section
variable {X : Cx} {e : Expr} {es : List Expr} {pos : Pos}
def tTupF (t : TA) : TE := fun σ H Q => t σ H fun xs H1 => xs.length ≤ sizeLine ∧ ∀ (p : Addr) (o : Obj), H1 p = none → o.cls = .type "tuple" → o.dict = none → Q (.ref p) (upd H1 p (.frz o (.tup xs)))
theorem pe_tupF {t : TA} {kk : Nat} (items : PA X es t) : PE X (.Tuple es kk pos) (tTupF t) := by
  constructor
  intro pins s σ H Q I want
  refine wpAny_Tuple_spliced (thn (items.run pos pins s σ H _ I want) fun us s1 got => ?_)
  obtain ⟨xs, H1, I1, rel, few, goal⟩ := got
  refine ⟨by rw [← rel.length]; exact few, .ref s1.heap.objs.size, _, I1.laid (o := .frz { cls := .type "tuple", data := .seq us.toArray } (.tup xs)) (t' := s1.toks) (fun b u q => Heap.get?_push_of_some _ q) (Nat.le_refl _) (by show _ ∧ _ ∧ _; exact ⟨Heap.get?_push_size _ rfl, few, us, rel, ⟨_, Heap.get?_push_size _ rfl, rfl, _, rfl⟩⟩), rfl, goal _ { cls := .type "tuple", data := .seq us.toArray } (I1.hok.fresh (Nat.le_refl _)) rfl rfl⟩
theorem call_tupleF : CallR X (.type "tuple") (fun xs H Q => ∃ (p : Addr) (ys : List V), xs = [.ref p] ∧ SqL X.K H p ys ∧ ∀ (l : Addr) (o : Obj), H l = none → o.cls = .type "tuple" → o.dict = none → Q (.ref l) (upd H l (.frz o (.tup ys)))) := by
  intro pins s σ H xs us Q I rel want
  obtain ⟨p, ys, rfl, seq, goal⟩ := want
  obtain ⟨u, rfl, ru⟩ := vals1 rel
  cases ru
  obtain ⟨its, r, pl, few⟩ := I.list seq
  have len := r.length
  refine call_tuple_list pl.isList (fun h' kp => ?_) (by simp only [List.size_toArray]; omega)
  have I1 : Inv X pins σ H { s with heap := h' } := I.kept (t' := s.toks) kp
  exact ⟨.ref h'.objs.size, _, I1.laid (o := .frz { cls := .type "tuple", data := .seq its.toArray } (.tup ys)) (t' := s.toks) (fun b u q => Heap.get?_push_of_some _ q) (Nat.le_refl _) (by show _ ∧ _ ∧ _; exact ⟨Heap.get?_push_size _ rfl, few, its, r, IsTup.new _ _⟩), rfl, goal _ { cls := .type "tuple", data := .seq its.toArray } (I1.hok.fresh (Nat.le_refl _)) rfl rfl⟩
/-- a method of such a tuple -/
def tBMF (r : V → List V → Hp → VK → Prop) (to : TE) (t : TA) : TE := fun σ H Q => to σ H fun x H1 => (∃ p xs, x = .ref p ∧ Fz H1 p xs) ∧ t σ H1 fun ys H2 => r x ys H2 Q
theorem pe_bmF {a : Expr} {name : Str} {apos cpos : Pos} {id : String} {r : V → List V → Hp → VK → Prop} {to : TE} {t : TA} (pa : PlainAttrs "tuple") (slot : Slot "tuple" name id) (md : typeOf (.builtin id) = pure (.type "method_descriptor")) (mt : MtR X id r) (obj : PE X a to) (args : PA X (e :: es) t)
    (b1 : attributeBase a name X.env (eval a X.env) = eval a X.env := by rfl)
    (b2 : ((backTo cpos (starEach (e :: es) X.env)).all (fun x => !x.1) && (backToKw cpos (keywordEach [] X.env)).all (fun x => x.1.isSome) && decide ((e :: es).length + ([] : List Keyword).length + (if ([] : List Keyword).isEmpty then 0 else 1) < 30)) = true := by rfl)
    (b3 : (apos.endLine == cpos.line) = true := by rfl) (b4 : starEach (e :: es) X.env = (false, eval e X.env) :: starEach es X.env := by rfl) (b5 : (backTo cpos (starEach es X.env)).any (·.1) = false := by rfl) :
    PE X (.Call (.Attribute a name apos) (e :: es) [] cpos) (tBMF r to t) := by
  constructor
  intro pins s σ H Q I want
  refine wpAny_Call_method_late b1 b2 b3 rfl (thn (obj.run pins s σ H _ I want) fun v s1 got => ?_)
  obtain ⟨x, H1, I1, r1, ⟨p, xs, rfl, o, there, cls, dict⟩, goal⟩ := got
  have was : s1.heap.get? p = some o := (I1.hok p _ there).1
  cases r1
  refine ⟨"tuple", id, pa, slot, md, ⟨o, was, cls⟩, fun q eq => ?_, ?_⟩
  · cases eq
    exact ⟨o, was, dict⟩
  have go := args.run cpos pins s1 σ H1 _ I1 goal
  rw [b4] at go ⊢
  refine Calls.callWith_builtin (by show (false || (backTo cpos (starEach es X.env)).any (·.1)) = false; rw [b5]; rfl) (Calls.evalArgs_plain ?_)
  exact thn go fun us s2 ⟨vs, H2, I2, r2, q2⟩ => mt pins s2 σ H2 (.ref p) vs _ us Q I2 rfl r2 q2
end
end FrT

/-! a def of a class that says super().__init__(..) in its first row -/
namespace SupK
open PySem PySem.Spec PyProof.Rows L2
/-- such a def's context -/
def cxS (CX : CXT) (P : Program) (w : World) (K : PySem.W.Frag) (mg : Str → Option Value) (base : Heap) (N : List Str) (qual : Str) (scope : Scope) (f : Addr) (cd : Value) (cc : Addr) (A : Around) (outer : List Env) (s : Shared) (H : Hp) (E : XK) : Cx where
  prog := P
  w := w
  K := K
  mg := mg
  base := base
  A := A.deeper (PySem.W.ksEnv qual scope s.heap.objs.size f cd cc)
  N := N
  s_0 := s
  H_0 := H
  env := PySem.W.ksEnv qual scope s.heap.objs.size f cd cc
  outer := outer
  stack := PySem.W.ksEnv qual scope s.heap.objs.size f cd cc :: outer
  ex := []
  fn := fun _ => false
  calm := true
  pn := []
  xe := fun e s' => wpAny (model P w) (A.deeper (PySem.W.ksEnv qual scope s.heap.objs.size f cd cc)) (leaving (PySem.W.ksEnv qual scope s.heap.objs.size f cd cc) e) (fun _ s'' => CX outer H s E e s'') (fun e' s'' => CX outer H s E e' s'') s'
/-- the scope of such a def -/
structure SScope (N ps : List Str) (sc : Scope) : Prop where
  kind : sc.kind = .function
  co : sc.isCoroutine = false
  gen : sc.isGenerator = false
  nd : N.Nodup
  pre : N = ps
  loc : ∀ x, x ∈ ps → List.lookup x sc.names = some .local
  nocell : ∀ x : Str × NameKind, x ∈ sc.names → x.2 ≠ .cell
  free : ∀ x : Str, List.lookup x sc.names = some .cell ∨ List.lookup x sc.names = some .free → x = "__class__"
  cls : List.lookup ("__class__" : Str) sc.names = some .free
  sup : List.lookup ("super" : Str) sc.names = some .globalImplicit
/-- what is known of the written text: the cell holds the class, the code knows its file -/
structure SFact (P : Program) (K : PySem.W.Frag) (cda cc D : Addr) : Prop where
  file : ∃ ccl cdd vs ccs file tf, K.lookup cda = some ⟨ccl, cdd, .fields vs, ccs⟩ ∧ vs[2]? = some (.str file tf) ∧ (P.main.file == file) = true
  cell : ∃ cl cld csl, K.lookup cc = some ⟨cl, cld, .cell (some (.ref D)), csl⟩
  cls : ∃ cd, PySem.W.clsIn K D = some cd
  nosup : (List.lookup ("super" : Str) P.main.scope.names).isSome = false
section
variable {CX : CXT} {P : Program} {w : World} {K : PySem.W.Frag} {mg : Str → Option Value} {base : Heap} {N ps : List Str} {qual : Str} {scope : Scope} {f cc cda D : Addr} {A : Around} {outer : List Env} {s : Shared} {H : Hp} {E : XK} {us : List Value} {vs : List V}
theorem lookup_rev {ps : List Str} {us : List Value} {i : Nat} {x : Str} {u : Value} (nd : ps.Nodup) (hp : ps[i]? = some x) (hu : us[i]? = some u) : List.lookup x (ps.zip us).reverse = some u := by
  have hm : (x, u) ∈ (ps.zip us).reverse := by
    rw [List.mem_reverse]
    refine List.mem_of_getElem? (i := i) ?_
    rw [List.getElem?_zip_eq_some]
    exact ⟨hp, hu⟩
  have key : ∀ l : List (Str × Value), (∀ q ∈ l, q.1 = x → q.2 = u) → (x, u) ∈ l → List.lookup x l = some u := by
    intro l
    induction l with
    | nil => intro _ h; cases h
    | cons q l ih =>
      intro h1 h2
      rw [List.lookup_cons]
      by_cases e : x = q.1
      · rw [show (x == q.1) = true from by rw [beq_iff_eq]; exact e]
        exact congrArg some (h1 q (List.mem_cons_self ..) e.symm)
      · rw [show (x == q.1) = false from by rw [beq_eq_false_iff_ne]; exact e]
        refine ih (fun r hr => h1 r (List.mem_cons_of_mem _ hr)) ?_
        rcases List.mem_cons.1 h2 with z | z
        · rw [← z] at e
          exact absurd rfl e
        · exact z
  refine key _ (fun q hq e => ?_) hm
  rw [List.mem_reverse] at hq
  obtain ⟨j, hj⟩ := List.getElem?_of_mem hq
  obtain ⟨q1, q2⟩ := List.getElem?_zip_eq_some.1 hj
  rw [e] at q1
  have ij : j = i := (List.getElem?_inj (List.getElem?_eq_some_iff.1 q1).1 nd).1 (q1.trans hp.symm)
  rw [ij, hu] at q2
  exact (Option.some.inj q2).symm
theorem inv_startS (S : SScope N ps scope) (hd : A.handled = none) (env0 : Env0 P w K mg base A outer s H) (ln : vs.length = ps.length) (rel : Vals vs us) (F : SFact P K cda cc D) {h0 : Heap} {t : Nat}
    (ns : h0.Ns s.heap.objs.size fun x => List.lookup x (ps.zip us).reverse) (keep : ∀ b o, s.heap.get? b = some o → h0.get? b = some o) :
    Inv (cxS CX P w K mg base N qual scope f (.ref cda) cc A outer s H E) [] (L2.start N vs) H { heap := h0, gens := s.gens, drawn := s.drawn, toks := t, os := s.os } := by
  obtain ⟨cl, cld, csl, hc⟩ := F.cell
  have hcb : base.get? cc = some ⟨cl, cld, .cell (some (.ref D)), csl⟩ := env0.mod.kin _ _ hc
  have hcs := env0.bs _ _ hcb
  have look : ∀ (x : Str) (c : Addr), List.lookup x [(("__class__" : Str), cc)] = some c → x = "__class__" ∧ c = cc := fun x c h => by
    rw [List.lookup_cons] at h
    by_cases e : x = ("__class__" : Str)
    · rw [show (x == ("__class__" : Str)) = true from by rw [beq_iff_eq]; exact e] at h
      exact ⟨e, (Option.some.inj h).symm⟩
    · rw [show (x == ("__class__" : Str)) = false from by rw [beq_eq_false_iff_ne]; exact e] at h
      cases h
  refine ⟨⟨env0.mod, S.kind, rfl, rfl, Nat.le_refl _, fun x y c h1 h2 => (look x c h1).1.trans (look y c h2).1.symm, fun x h => ?_, fun x c h => (by cases h), fun _ => hd, Around.frames_deeper env0.frames, .inr ⟨rfl, rfl⟩, (fun b h => by cases h), env0.bs, env0.bsz, (fun b o _ h => by cases h), (fun b h => by cases h), env0.funs, env0.frf⟩, rfl, env0.bare, Un.kept keep, ⟨_, ns, fun i x v hx hv _ => ?_⟩, fun x c h => ?_, env0.hok.fresh (Nat.le_refl _), fun x c h => ?_, (fun p h => by cases h), env0.hok.kept keep, ?_⟩
  · refine ⟨cc, ?_⟩
    rw [S.free x h]
    rfl
  · have hx : ps[i]? = some x := by rw [← S.pre]; exact hx
    have hv : (L2.start N vs)[i]? = some (some v) := hv
    unfold L2.start at hv
    rw [S.pre, ln, Nat.sub_self, List.replicate_zero, List.append_nil, List.getElem?_map] at hv
    cases hw : vs[i]? with
    | none => rw [hw] at hv; cases hv
    | some v2 =>
      rw [hw] at hv
      cases hv
      obtain ⟨u, hu, ru⟩ := Vals.get rel hw
      exact ⟨u, ru, .inl ⟨S.loc x (List.mem_of_getElem? hx), lookup_rev (by rw [← S.pre]; exact S.nd) hx hu⟩⟩
  · obtain ⟨_, rfl⟩ := look x c h
    exact ⟨_, _, keep _ _ hcs.1, rfl⟩
  · obtain ⟨_, rfl⟩ := look x c h
    exact hcs.2
  · show (L2.start N vs).length = N.length
    unfold L2.start
    rw [List.length_append, List.length_map, List.length_replicate, S.pre, ln]
    omega
theorem cls_get {D : Addr} {cd : ClassData} (h : PySem.W.clsIn K D = some cd) : ∃ o, K.lookup D = some o ∧ o.data = .cls cd := by
  unfold PySem.W.clsIn at h
  split at h
  · rename_i o cd2 heq
    cases h
    exact ⟨_, heq, rfl⟩
  · cases h
theorem super_node {CX : CXT} {name : Str} {params : Arguments} {body : List Stmt} {dV kV doc pm ct oc : Value} {an od : Option Addr} {osl : Array (Option Value)} {ar : Arg} {a C dx : Addr} {fs : List (Str × V)} {σ : L2.St} {H' : Hp} {s1 : Shared} {p0 p1 : Pos} {whole : Sem Value} {Q : Value → Shared → Prop} {EX : Value → Shared → Prop} {body2 : List Stmt}
    (S : SScope N ps scope) (F : SFact P K cda cc D) (nm : mg "super" = none) (I : Inv (cxS CX P w K mg base N qual scope f (.ref cda) cc A outer s H E) [] σ H' s1)
    (there : K.lookup f = some ⟨oc, od, .func (PySem.W.ksFn name qual params body scope dV kV doc pm an (.ref cda) ct cc), osl⟩) (hh : (params.posonlyargs ++ params.args).head? = some ar) (h0 : ps[0]? = some ar.arg) (hσ : σ[0]? = some (some (.ref a)))
    (hi : H' a = some (.ins C dx fs)) (mro : PySem.W.mroIn K C (.ref D) = some true)
    (goal : ∀ h' : Heap, (∀ b o, s1.heap.get? b = some o → h'.get? b = some o) → h'.get? s1.heap.objs.size = some (PySem.W.ks_superObj D a C) → Q (.ref s1.heap.objs.size) { s1 with heap := h' }) :
    PySem.wpAt (model P w) (cxS CX P w K mg base N qual scope f (.ref cda) cc A outer s H E).A (.func body2 (PySem.W.ksEnv qual scope s.heap.objs.size f (.ref cda) cc)) (attributeBase (.Call (.Name "super" p0) [] [] p1) "__init__" (PySem.W.ksEnv qual scope s.heap.objs.size f (.ref cda) cc) whole) Q EX s1 := by
  obtain ⟨ccl, cdd, vs, ccs, file, tf, k1, k2, k3⟩ := F.file
  obtain ⟨cl, cld, csl, k4⟩ := F.cell
  obtain ⟨cd, k5⟩ := F.cls
  obtain ⟨oD, k6, k7⟩ := cls_get k5
  have kin : K.In s1.heap := I.kIn
  have bkeep : ∀ b o, base.get? b = some o → s1.heap.get? b = some o := fun b o h => (I.bs b o h).1
  obtain ⟨mb, b1, b2⟩ := I.ok.mod.blt
  obtain ⟨m, ns, look⟩ := I.loc
  have hx : (cxS CX P w K mg base N qual scope f (.ref cda) cc A outer s H E).N[0]? = some ar.arg := by show N[0]? = _; rw [S.pre]; exact h0
  obtain ⟨u, ru, lk⟩ := look 0 ar.arg _ hx hσ (.inl (S.loc _ (List.mem_of_getElem? h0)))
  cases (show u = Value.ref a from ru)
  have lm : m ar.arg = some (.ref a) := by
    rcases lk with ⟨_, h⟩ | ⟨h, _⟩
    · exact h
    · have l1 := S.loc _ (List.mem_of_getElem? h0)
      rcases h with h | h <;> cases (l1.symm.trans h)
  have ho : ObjOk P w H' s1.heap a (.ins C dx fs) := I.hok a _ hi
  obtain ⟨_, _, _, hga, _⟩ := ho
  have kD : s1.heap.get? D = some oD := kin _ _ k6
  have kf := kin _ _ there
  have kc := kin _ _ k1
  have kcc : s1.heap.IsCell cc (some (.ref D)) := ⟨_, kin _ _ k4, rfl⟩
  have nsG : s1.heap.Ns mainGlobals mg := I.ok.mod.glob.keeps bkeep
  have nsB : s1.heap.Ns builtinsNs mb := b1.keeps bkeep
  have isS : PySem.W.Looks (model P w) s1.heap (isSubtype (.ref C) (.ref D)) true := PySem.W.looks_mroIn kin mro
  have bsup : mb "super" = some (.type "super") := (b2 _ (by decide)).trans (by rfl)
  obtain ⟨hp, gg, dr, tk, os⟩ := s1
  refine ks_wpAt_super_base S.sup S.cls (by decide) rfl kf rfl hh rfl kc rfl k2 k3 F.nosup ?_
  refine PySem.W.ks_loadName_global S.kind S.sup (PySem.Calls.loadGlobal_builtin nsG nm nsB bsup ⟨rfl, ?_⟩)
  refine wpAny_loadName_free S.kind S.cls rfl kcc ?_
  refine wpAny_loadName_local S.kind (S.loc _ (List.mem_of_getElem? h0)) ns lm ?_
  refine ks_wpAny_isType_cls kD k7 ⟨rfl, ?_⟩
  refine ks_wpAny_call_super kD k7 hga rfl (fun c z => ?_) isS fun h' h1 h2 => goal h' h2 h1
  cases z
/-- the bound method that super().__init__ is -/
theorem super_meth {A : Around} {s1 : Shared} {a C f2 : Addr} {of2 : Obj} {so : Addr} {pl : Sem Bool} {name : Str} {Q : Value × List Value → Shared → Prop} {EX : Value → Shared → Prop} {prog : Program} {w : World} (kin : K.In s1.heap)
    (hso : s1.heap.get? so = some (PySem.W.ks_superObj D a C)) (tp : PySem.W.nsIn K cStatics "thirdparty.any" = some none) (si : PySem.W.ks_superIn K C D name = some (some (.ref f2))) (k2 : K.lookup f2 = some of2) (fn : of2.cls = .type "function") (ne : a ≠ C) (nm : (name == ("__class__" : Str)) = false)
    (goal : ∀ h' : Heap, (∀ b o, s1.heap.get? b = some o → h'.get? b = some o) → h'.get? s1.heap.objs.size = some (PySem.W.methodObj (.ref f2) (.ref a)) → Q (.ref s1.heap.objs.size, []) { s1 with heap := h', toks := s1.toks + 1 }) :
    wpAny (model prog w) A (getMethod (.ref so) name pl) Q EX s1 := by
  unfold PySem.W.ks_superIn at si
  cases hc : PySem.W.clsIn K C with
  | none => rw [hc] at si; cases si
  | some cd =>
  rw [hc] at si
  have lk := PySem.W.looks_clsIn (M := model prog w) kin hc
  have lo : PySem.W.Looks (model prog w) s1.heap (opaqueClassAbove (.ref C)) none := PySem.W.looks_opaque kin tp
  have lm : PySem.W.Looks (model prog w) s1.heap (mroOf (.ref C)) cd.mro := fun A Q E s keep q => by
    unfold mroOf
    exact wpAny_bind (lk A _ E s keep (wpAny_pure q))
  obtain ⟨h, g, d, t, os⟩ := s1
  exact ks_wpAny_getMethod_super hso lo lm rfl kin si (kin _ _ k2) fn ne nm (goal _ (fun b o z => Heap.get?_push_of_some _ z) (Heap.get?_push_size _ rfl))
theorem super_stmt {name : Str} {params : Arguments} {body : List Stmt} {dV kV doc pm ct oc : Value} {an od : Option Addr} {osl : Array (Option Value)} {ar : Arg} {a C dx f2 : Addr} {of2 : Obj} {fs : List (Str × V)} {σ : L2.St} {H' : Hp} {s1 : Shared} {p0 p1 p2 pos pos2 : Pos} {pl : Sem Bool} {Q : Flow → Shared → Prop} {body2 : List Stmt} {es : List Expr} {kws : List Keyword} {EX : Value → Shared → Prop}
    (S : SScope N ps scope) (F : SFact P K cda cc D) (nm : mg "super" = none) (I : Inv (cxS CX P w K mg base N qual scope f (.ref cda) cc A outer s H E) [] σ H' s1)
    (there : K.lookup f = some ⟨oc, od, .func (PySem.W.ksFn name qual params body scope dV kV doc pm an (.ref cda) ct cc), osl⟩) (hh : (params.posonlyargs ++ params.args).head? = some ar) (h0 : ps[0]? = some ar.arg) (hσ : σ[0]? = some (some (.ref a)))
    (hi : H' a = some (.ins C dx fs)) (mro : PySem.W.mroIn K C (.ref D) = some true)
    (tp : PySem.W.nsIn K cStatics "thirdparty.any" = some none) (si : PySem.W.ks_superIn K C D "__init__" = some (some (.ref f2))) (k2 : K.lookup f2 = some of2) (fn : of2.cls = .type "function")
    (road : eval (.Call (.Attribute (.Call (.Name "super" p0) [] [] p1) "__init__" p2) es kws pos) (PySem.W.ksEnv qual scope s.heap.objs.size f (.ref cda) cc) = (do
      let it ← attributeBase (.Call (.Name "super" p0) [] [] p1) "__init__" (PySem.W.ksEnv qual scope s.heap.objs.size f (.ref cda) cc) (eval (.Call (.Name "super" p0) [] [] p1) (PySem.W.ksEnv qual scope s.heap.objs.size f (.ref cda) cc))
      standAt p2.atName
      let (fn, self) ← holding [it] (getMethod it "__init__" pl)
      callWith pos fn self (backTo pos (starEach es (PySem.W.ksEnv qual scope s.heap.objs.size f (.ref cda) cc))) (backToKw pos (keywordEach kws (PySem.W.ksEnv qual scope s.heap.objs.size f (.ref cda) cc)))))
    (row : exec (.Expr (.Call (.Attribute (.Call (.Name "super" p0) [] [] p1) "__init__" p2) es kws pos) pos2) (PySem.W.ksEnv qual scope s.heap.objs.size f (.ref cda) cc) = (do
      standAt pos2
      let v ← eval (.Call (.Attribute (.Call (.Name "super" p0) [] [] p1) "__init__" p2) es kws pos) (PySem.W.ksEnv qual scope s.heap.objs.size f (.ref cda) cc)
      dropValue (.Call (.Attribute (.Call (.Name "super" p0) [] [] p1) "__init__" p2) es kws pos) pos2 v))
    (goal : ∀ (q : Addr) (s2 : Shared), Inv (cxS CX P w K mg base N qual scope f (.ref cda) cc A outer s H E) [] σ H' s2 → s2.heap.get? q = some (PySem.W.methodObj (.ref f2) (.ref a)) → H' q = none → s.heap.objs.size < q → s1.heap.objs.size ≤ q →
      wpAny (model P w) (cxS CX P w K mg base N qual scope f (.ref cda) cc A outer s H E).A (callWith pos (.ref q) [] (backTo pos (starEach es (PySem.W.ksEnv qual scope s.heap.objs.size f (.ref cda) cc))) (backToKw pos (keywordEach kws (PySem.W.ksEnv qual scope s.heap.objs.size f (.ref cda) cc)))) (fun _ s3 => Q .next s3) EX s2) :
    PySem.wpAt (model P w) (cxS CX P w K mg base N qual scope f (.ref cda) cc A outer s H E).A (.func body2 (PySem.W.ksEnv qual scope s.heap.objs.size f (.ref cda) cc)) (exec (.Expr (.Call (.Attribute (.Call (.Name "super" p0) [] [] p1) "__init__" p2) es kws pos) pos2) (PySem.W.ksEnv qual scope s.heap.objs.size f (.ref cda) cc)) Q EX s1 := by
  have ho : ObjOk P w H' s1.heap a (.ins C dx fs) := I.hok a _ hi
  obtain ⟨_, _, _, hga, _⟩ := ho
  have ne : a ≠ C := fun z => by
    unfold PySem.W.ks_superIn at si
    cases hc : PySem.W.clsIn K C with
    | none => rw [hc] at si; cases si
    | some cd =>
      obtain ⟨o, q1, q2⟩ := cls_get hc
      have := I.kIn _ _ q1
      rw [z] at hga
      have e := this.symm.trans hga
      cases e
      cases q2
  rw [row]
  refine PySem.wpAt_bind (wpAt_of_wpAny (wpAny_standAt ?_))
  refine PySem.wpAt_bind ?_
  rw [road]
  refine PySem.wpAt_bind (super_node S F nm I there hh h0 hσ hi mro fun h' k1 k3 => ?_)
  have I2 := I.kept (t' := s1.toks) (h' := h') k1
  refine wpAt_of_wpAny (wpAny_bind (wpAny_standAt (wpAny_bind (wpAny_holding (super_meth (a := a) (D := D) (C := C) I2.kIn k3 tp si k2 fn ne (by decide) fun h2 k4 k5 => ?_)))))
  have I3 := I2.kept (t' := s1.toks + 1) (h' := h2) k4
  have lt0 : s.heap.objs.size < s1.heap.objs.size := by
    obtain ⟨m, ns, _⟩ := I.loc
    exact ns.lt
  have le1 : s1.heap.objs.size < h'.objs.size := Heap.lt_size k3
  have hq : H' h'.objs.size = none := I2.hok.fresh (Nat.le_refl _)
  exact wpAny_mono (goal h'.objs.size _ I3 k5 hq (Nat.lt_trans lt0 le1) (Nat.le_of_lt le1)) (fun v s3 q => wpAt_of_wpAny (wpAny_dropValue q)) fun _ _ z => z
end
end SupK

/-! the def with super().__init__(..) in its first row, as a promise -/
namespace SupK
open PySem PySem.Spec PyProof.Rows L2 StK
theorem met_call {X : Cx} {CX2 : CXT} {k : Nat} {f2 a qa : Addr} {ks : List Str} {q : List V → List V → Hp → VK → XK → Prop} {E : XK} {e : Expr} {es : List Expr} {kws : List Keyword} {t tk : TA} {pos : Pos} {σ : L2.St} {H : Hp} {s2 : Shared} {R : Hp → Prop}
    (F : FnK X.prog X.w X.K X.mg X.base CX2 k f2 ks q) (room : Room k X.A) (pass : PassesAt CX2 X σ E) (ha : PA X (e :: es) t) (hk : PK X kws tk) (fi : PySem.W.fnIn X.K f2 = true)
    (I : Inv X [] σ H s2) (hq : s2.heap.get? qa = some (PySem.W.methodObj (.ref f2) (.ref a))) (hn : H qa = none) (ql : qa ≠ X.env.locals) (qf : ¬ qa ∈ X.fs)
    (had : t σ H fun vs H1 => tk σ H1 fun zs H2 => zs.length = ks.length ∧ q (.ref a :: vs) zs H2 (fun _ H3 => R H3) E)
    (each : (backToKw pos (keywordEach kws X.env)).all (·.1.isSome) = true := by rfl) (names : (backToKw pos (keywordEach kws X.env)).filterMap (·.1) = ks := by rfl)
    (st : starEach (e :: es) X.env = (false, eval e X.env) :: starEach es X.env := by rfl)
    (pl : ((backTo pos (starEach (e :: es) X.env)).any (·.1) || (backToKw pos (keywordEach kws X.env)).any (·.1.isNone)) = false := by rfl) :
    wpAny (model X.prog X.w) X.A (callWith pos (.ref qa) [] (backTo pos (starEach (e :: es) X.env)) (backToKw pos (keywordEach kws X.env))) (fun _ s3 => ∃ H3, Inv X [] σ H3 s3 ∧ R H3) X.xe s2 := by
  have I2 : Inv X ([] ++ [(qa, PySem.W.methodObj (.ref f2) (.ref a))]) σ H s2 := ⟨I.ok, I.os, I.bare, I.base, I.loc, I.cell, I.free, I.freeC, fun p hp => by
    rcases List.mem_append.1 hp with h | h
    · exact I.pin p (List.mem_append_left _ h)
    · rw [List.nil_append] at h
      rw [List.mem_singleton.1 h]
      exact ⟨hq, hn, ql, qf, fun v z => by cases z⟩, I.hok, I.len⟩
  refine PySem.W.callWith_of (P := PySem.W.MethP X.K qa f2 (.ref a)) pl (PySem.W.keeps_M fi) (evalArgs_kw2 each (thn (ha.run pos _ s2 σ H _ I2 had) ?_) st)
  rintro us s3 ⟨vs, H3, I3, r, g1⟩
  refine thn (hk.run pos _ s3 σ H3 _ I3 g1) ?_
  rintro ws s4 ⟨zs, H4, I4, rz, lz, g2⟩
  have pin := (I4.pin (qa, PySem.W.methodObj (.ref f2) (.ref a)) (List.mem_append_right _ (List.mem_append_right _ (List.mem_singleton.2 rfl)))).1
  refine ⟨⟨pin, I4.kIn⟩, ?_⟩
  rw [names]
  refine wpAny_call (PySem.W.method_call pin (codeAny_mono (F X.A X.stack s4 H4 (.ref a :: us) ws (.ref a :: vs) zs _ E room I4.env0 (.cons rfl r) rz lz g2) fun out s' h' => ?_))
  match out, h' with
  | .error e, h' => exact pass _ H4 s4 e s' I4 h'
  | .ok (.ret u), h' =>
    obtain ⟨v, H5, I5, _, q5⟩ := I4.after h'
    exact ⟨H5, I5.unpinned, q5⟩
  | .ok .next, h' => exact h'.elim
  | .ok .brk, h' => exact h'.elim
  | .ok .cont, h' => exact h'.elim
section
variable {CX CX2 : CXT} {P : Program} {w : World} {K : PySem.W.Frag} {mg : Str → Option Value} {base : Heap} {k : Nat} {N ps : List Str} {sp : Sp} {name qual : Str} {params : Arguments} {rest : List Stmt} {scope : Scope} {f cc cda D : Addr} {dV kV doc pm ct oc : Value} {an od : Option Addr} {osl : Array (Option Value)} {ar : Arg} {e : Expr} {es : List Expr} {kws : List Keyword} {p0 p1 p2 pos pos2 : Pos}
/-- what the first row wants of the written text and of the call: the class of self, the def that super finds -/
structure SupAt (P : Program) (w : World) (K : PySem.W.Frag) (mg : Str → Option Value) (base : Heap) (D C : Addr) (k : Nat) (f2 : Addr) (ks : List Str) (q : List V → List V → Hp → VK → XK → Prop) : Prop where
  mro : PySem.W.mroIn K C (.ref D) = some true
  si : PySem.W.ks_superIn K C D "__init__" = some (some (.ref f2))
  fi : PySem.W.fnIn K f2 = true
  ty : PySem.W.typeIn K (.ref f2) = some (.type "function")
  F : FnK P w K mg base CX0 k f2 ks q
theorem fn_ofS (there : K.lookup f = some ⟨oc, od, .func (PySem.W.ksFn name qual params (.Expr (.Call (.Attribute (.Call (.Name "super" p0) [] [] p1) "__init__" p2) (e :: es) kws pos) pos2 :: rest) scope dV kV doc pm an (.ref cda) ct cc), osl⟩) (code : PySem.W.codeIn K (.ref cda) qual = true)
    (S : SScope N ps scope) (F : SFact P K cda cc D) (nm : mg "super" = none) (hh : (params.posonlyargs ++ params.args).head? = some ar) (h0 : ps[0]? = some ar.arg) (tp : PySem.W.nsIn K cStatics "thirdparty.any" = some none)
    (len : ∀ vs H Q E, sp vs H Q E → vs.length = ps.length)
    (does : ∀ (A : Around) (outer : List Env) (s : Shared) (H : Hp) (vs : List V) (Q : VK) (E : XK), Room k (A.deeper (PySem.W.ksEnv qual scope s.heap.objs.size f (.ref cda) cc)) → sp vs H Q E →
      ∃ (a C dx f2 : Addr) (fs : List (Str × V)) (ks : List Str) (q : List V → List V → Hp → VK → XK → Prop) (t tk : TA) (u : TS) (pl : Sem Bool), vs[0]? = some (.ref a) ∧ H a = some (.ins C dx fs) ∧ SupAt P w K mg base D C k f2 ks q ∧
        PA (cxS CX0 P w K mg base N qual scope f (.ref cda) cc A outer s H E) (e :: es) t ∧ PK (cxS CX0 P w K mg base N qual scope f (.ref cda) cc A outer s H E) kws tk ∧ PSs (cxS CX0 P w K mg base N qual scope f (.ref cda) cc A outer s H E) rest u ∧
        (eval (.Call (.Attribute (.Call (.Name "super" p0) [] [] p1) "__init__" p2) (e :: es) kws pos) (PySem.W.ksEnv qual scope s.heap.objs.size f (.ref cda) cc) = (do
          let it ← attributeBase (.Call (.Name "super" p0) [] [] p1) "__init__" (PySem.W.ksEnv qual scope s.heap.objs.size f (.ref cda) cc) (eval (.Call (.Name "super" p0) [] [] p1) (PySem.W.ksEnv qual scope s.heap.objs.size f (.ref cda) cc))
          standAt p2.atName
          let (fn, self) ← holding [it] (getMethod it "__init__" pl)
          callWith pos fn self (backTo pos (starEach (e :: es) (PySem.W.ksEnv qual scope s.heap.objs.size f (.ref cda) cc))) (backToKw pos (keywordEach kws (PySem.W.ksEnv qual scope s.heap.objs.size f (.ref cda) cc))))) ∧
        (exec (.Expr (.Call (.Attribute (.Call (.Name "super" p0) [] [] p1) "__init__" p2) (e :: es) kws pos) pos2) (PySem.W.ksEnv qual scope s.heap.objs.size f (.ref cda) cc) = (do
          standAt pos2
          let v ← eval (.Call (.Attribute (.Call (.Name "super" p0) [] [] p1) "__init__" p2) (e :: es) kws pos) (PySem.W.ksEnv qual scope s.heap.objs.size f (.ref cda) cc)
          dropValue (.Call (.Attribute (.Call (.Name "super" p0) [] [] p1) "__init__" p2) (e :: es) kws pos) pos2 v)) ∧
        (∀ (env : Env) , (backToKw pos (keywordEach kws env)).all (·.1.isSome) = true ∧ (backToKw pos (keywordEach kws env)).filterMap (·.1) = ks ∧ starEach (e :: es) env = (false, eval e env) :: starEach es env ∧ ((backTo pos (starEach (e :: es) env)).any (·.1) || (backToKw pos (keywordEach kws env)).any (·.1.isNone)) = false) ∧
        t (L2.start N vs) H (fun ys H1 => tk (L2.start N vs) H1 fun zs H2 => zs.length = ks.length ∧ q (.ref a :: ys) zs H2 (fun _ H3 => u { nx := fun _ H' => Q .non H', rt := Q } (L2.start N vs) H3) E0)) :
    FnOk P w K mg base CX0 (k + 1) f (PySem.W.ksFn name qual params (.Expr (.Call (.Attribute (.Call (.Name "super" p0) [] [] p1) "__init__" p2) (e :: es) kws pos) pos2 :: rest) scope dV kV doc pm an (.ref cda) ct cc) ps sp where
  len := len
  run A outer s H args us vs Q E room env bound rel told := by
    have ln := len _ _ _ _ told
    have KX : K.In s.heap := env.mod.kin.keeps fun b o h => And.left (env.bs b o h)
    have free := env.mod.nolimit.keeps fun b o h => And.left (env.bs b o h)
    refine ks_codeAny_call_defAt room.depth (KX _ _ there) rfl free (PySem.W.codeRec_of KX code) rfl bound S.nocell (fun x hx => S.loc _ (List.of_mem_zip hx).1) (fun h0' ns keep => ?_) S.co S.gen S.kind
    obtain ⟨a, C, dx, f2, fs, ks, q, t, tk, u, pl, g0, gi, G, hA, hK, hR, road, row, sh, had⟩ := does A outer s H vs Q E (room.deeper _) told
    have I := inv_startS (CX := CX0) (N := N) (E := E) (f := f) (qual := qual) (cc := cc) (cda := cda) (t := s.toks + (ps.zip us).length) S room.hd env ln rel F ns keep
    have hσ : (L2.start N vs)[0]? = some (some (.ref a)) := by
      unfold L2.start
      rw [List.getElem?_append_left (by rw [List.length_map]; exact (List.getElem?_eq_some_iff.1 g0).1), List.getElem?_map, g0]
      rfl
    obtain ⟨of2, k2⟩ : ∃ o, K.lookup f2 = some o := by
      have := G.fi
      unfold PySem.W.fnIn at this
      split at this
      · exact ⟨_, by assumption⟩
      · cases this
    have fn : of2.cls = .type "function" := by
      have := G.ty
      unfold PySem.W.typeIn at this
      dsimp only at this
      rw [k2] at this
      exact Option.some.inj this
    show PySem.wpAt (model P w) (cxS CX0 P w K mg base N qual scope f (.ref cda) cc A outer s H E).A (.func _ (PySem.W.ksEnv qual scope s.heap.objs.size f (.ref cda) cc)) (execs _ (PySem.W.ksEnv qual scope s.heap.objs.size f (.ref cda) cc)) _ (cxS CX0 P w K mg base N qual scope f (.ref cda) cc A outer s H E).xe _
    rw [execs_cons]
    have shE := sh (PySem.W.ksEnv qual scope s.heap.objs.size f (.ref cda) cc)
    refine PySem.wpAt_bind (super_stmt S F nm I there hh h0 hσ gi G.mro tp G.si k2 fn road row fun qa s2 I2 hq hn lt ge => ?_)
    have nf : ¬ qa ∈ (cxS CX0 P w K mg base N qual scope f (.ref cda) cc A outer s H E).fs := I.nofs ge
    refine wpAny_mono (met_call (X := cxS CX0 P w K mg base N qual scope f (.ref cda) cc A outer s H E) G.F (room.deeper _) (passH0 (fun _ => E0) _) hA hK G.fi I2 hq hn (Nat.ne_of_gt lt) nf had shE.1 shE.2.1 shE.2.2.1 shE.2.2.2) (fun _ s3 h3 => ?_) fun _ _ z => z
    obtain ⟨H3, I3, r3⟩ := h3
    refine wpAt_of_wpAny (wpAny_mono (hR.run [] s3 _ H3 _ I3 r3) (fun fl s4 out => ?_) fun _ _ z => z)
    match fl, out with
    | .ret v, ⟨v2, σ', H4, I4, rv, q4⟩ => exact ⟨v2, H4, I4.os, I4.bare, I4.base, I4.hok, rv, q4⟩
    | .next, ⟨σ', H4, I4, q4⟩ => exact ⟨V.non, H4, I4.os, I4.bare, I4.base, I4.hok, rfl, q4⟩
    | .brk, ⟨_, _, _, q4⟩ => exact q4.elim
    | .cont, ⟨_, _, _, q4⟩ => exact q4.elim
end
end SupK

/-! a method of an object of one of several classes; a new object by places and keywords -/
namespace BkR
open PySem PySem.Spec PyProof.Rows L2 StK
section
variable {X : Cx} {CX : CXT} {k : Nat} {ι : Type} {C f : ι → Addr} {fd : ι → FuncData} {ps : ι → List Str} {sp : ι → Sp} {E : L2.St → XK} {m : Str} {pos apos : Pos} {o : Expr} {ta : TE} {pl : Sem Bool}
/-- o.m(), o of one of these classes -/
def tMethV (C : ι → Addr) (m : Str) (sp : ι → Sp) (E : L2.St → XK) (ta : TE) : TE := fun σ H Q => ta σ H fun x H1 => ∃ i a dx fs, x = .ref a ∧ H1 a = some (.ins (C i) dx fs) ∧ fs.lookup m = none ∧ sp i [.ref a] H1 Q (E σ)
theorem pe_methV (he : PE X o ta) (c : ∀ i, Cls X.K (C i)) (hm : ∀ i, Meth X.K (C i) m (f i)) (F : ∀ i, FnOk X.prog X.w X.K X.mg X.base CX k (f i) (fd i) (ps i) (sp i)) (room : Room k X.A) (b : ∀ i, Binds X.K (fd i) (ps i) []) (pass : ∀ σ, PassesAt CX X σ (E σ))
    (road : eval (.Call (.Attribute o m apos) [] [] pos) X.env = (do
      let it ← eval o X.env
      standAt apos.atName
      let (fn, self) ← holding [it] (getMethod it m pl)
      callWith pos fn self (backTo pos (starEach [] X.env)) (backToKw pos (keywordEach [] X.env))) := by rfl) :
    PE X (.Call (.Attribute o m apos) [] [] pos) (tMethV C m sp E ta) := by
  constructor
  intro pins s σ H Q I had
  refine PySem.W.methodCall_KW (pl := pl) (thn (he.run pins s σ H _ I had) ?_) road
  rintro u s1 ⟨x, H1, I1, ru, i, a, dx, fs, rfl, at_, no, q⟩
  cases (show u = Value.ref a from ru); skip
  refine getmeth_ok I1 at_ (c i) (hm i) no (PySem.W.callWith_K0 (first := [.ref a]) I1.kIn (hm i).kp ?_)
  exact run_fnS (us := [.ref a]) (vs := [.ref a]) (F i) room (b i) (pass σ) I1 (.cons rfl .nil) q
end
section
variable {X : Cx} {CX : CXT} {k : Nat} {f C : Addr} {ks : List Str} {q : List V → List V → Hp → VK → XK → Prop} {E : L2.St → XK} {x : Str} {p pos : Pos} {e : Expr} {es : List Expr} {kws : List Keyword} {t tk : TA}
theorem run_makeFK {pins : List (Addr × Obj)} {σ : L2.St} {H : Hp} {s : Shared} {Q : VK} {us ws : List Value} {vs zs : List V} (M : Mk X.K C f) (F : FnK X.prog X.w X.K X.mg X.base CX k f ks q) (room : Room (k + 1) X.A) (pass : PassesAt CX X σ (E σ))
    (I : Inv X pins σ H s) (r : Vals vs us) (rz : Vals zs ws) (lz : zs.length = ks.length)
    (had : ∀ c dx, H c = none → H dx = none → dx ≠ c → q (.ref c :: vs) zs (upd (upd H dx (.own c)) c (.ins C dx [])) (fun v G => v = .non ∧ Q (.ref c) G) (E σ)) :
    wpAny (model X.prog X.w) X.A (call (.ref C) us (ks.zip ws)) (EP X pins σ Q) X.xe s := by
  have free : ∀ c, s.heap.objs.size ≤ c → H c = none := fun c le => I.hok.fresh le
  have had1 := had (s.heap.objs.size + 1) s.heap.objs.size (free _ (Nat.le_succ _)) (free _ (Nat.le_refl _)) (Nat.ne_of_lt (Nat.lt_succ_self _))
  have I2 := Inv.made I (C := C)
  refine wpAny_call (make_map (f := f) I.kIn M.makes M.init (beq_iff_eq.mp M.fn) (codeAny_mono (F _ X.stack _ _ (Value.ref (s.heap.objs.size + 1) :: us) ws (V.ref (s.heap.objs.size + 1) :: vs) zs _ (E σ) (room.make C us (ks.zip ws))
    (I2.env0.make C us (ks.zip ws)) (.cons rfl r) rz lz had1) fun r s2 told => ?_))
  match r, told with
  | .error e, told => exact pass pins _ _ e s2 I2 told
  | .ok (.ret u), told =>
    obtain ⟨v, G, I3, ru, rfl, q⟩ := I2.after told
    exact ⟨ru, V.ref (s.heap.objs.size + 1), G, I3, rfl, q⟩
  | .ok .next, told => exact told.elim
  | .ok .brk, told => exact told.elim
  | .ok .cont, told => exact told.elim
/-- C(e, .., k = v, ..) -/
def tMakeFK (C : Addr) (m : Nat) (q : List V → List V → Hp → VK → XK → Prop) (E : L2.St → XK) (t tk : TA) : TE := fun σ H Q => t σ H fun vs H1 => tk σ H1 fun zs G => zs.length = m ∧ ∀ c dx, G c = none → G dx = none → dx ≠ c →
  q (.ref c :: vs) zs (upd (upd G dx (.own c)) c (.ins C dx [])) (fun v G2 => v = .non ∧ Q (.ref c) G2) (E σ)
theorem pe_makeFK (M : Mk X.K C f) (F : FnK X.prog X.w X.K X.mg X.base CX k f ks q) (room : Room (k + 1) X.A) (g : Gl X x) (m : X.mg x = some (.ref C)) (pass : ∀ σ, PassesAt CX X σ (E σ)) (ha : PA X (e :: es) t) (kw : PK X kws tk)
    (hall : (backToKw pos (keywordEach kws X.env)).all (·.1.isSome) = true := by rfl) (hks : (backToKw pos (keywordEach kws X.env)).filterMap (·.1) = ks := by rfl) (nodebug : (x == ("__debug__" : Str)) = false := by decide)
    (st : starEach (e :: es) X.env = (false, eval e X.env) :: starEach es X.env := by rfl)
    (pl : ((backTo pos (starEach (e :: es) X.env)).any (·.1) || (backToKw pos (keywordEach kws X.env)).any (·.1.isNone)) = false := by rfl) :
    PE X (.Call (.Name x p) (e :: es) kws pos) (tMakeFK C ks.length q E t tk) := by
  constructor
  intro pins s σ H Q I had
  refine wpAny_Call_Name_kw (ld_glob I g m ?_ nodebug)
  refine PySem.W.callWith_KW (h₀ := X.base) I.ok.mod.kin M.kp hall (thn (ha.run pos pins s σ H _ I had) ?_) pl st
  rintro us s1 ⟨vs, H1, I1, r, g1⟩
  refine thn (kw.run pos pins s1 σ H1 _ I1 g1) ?_
  rintro ws s2 ⟨zs, G2, I2, rz, lz, q⟩
  rw [hks]
  exact ⟨I2.kIn, run_makeFK M F room (pass σ) I2 r rz lz q⟩
end
section
variable {P : Program} {w : World} {K : PySem.W.Frag} {mg : Str → Option Value} {base : Heap} {CX : CXT} {k : Nat} {f : Addr} {fd : FuncData} {ps : List Str} {sp : Sp}
/-- a def called by places alone, as one that is called by places and keywords -/
theorem fnk_of (F : FnOk P w K mg base CX k f fd ps sp) (ds : List Value) (dvs : List V) (rd : Vals dvs ds) (b : Binds K fd ps ds) : FnK P w K mg base CX k f [] (fun vs zs H Q E => sp (vs ++ dvs) H Q E) := by
  intro A outer s H us ws vs zs Q E room env r rz lz told
  have lw : ws = [] := List.eq_nil_of_length_eq_zero (by rw [← rz.length, lz]; rfl)
  rw [lw]
  have kin : K.In s.heap := env.mod.kin.keeps fun b o h => And.left (env.bs b o h)
  have ln := F.len _ _ _ _ told
  refine F.run A outer s H ⟨us, []⟩ (us ++ ds) (vs ++ dvs) Q E room env (b s us kin ?_) (r.append rd) told
  rw [List.length_append, ← r.length, ← rd.length, ← List.length_append, ln]
theorem fnk_kw {n : Nat} {ks : List Str} (F : FnOk P w K mg base CX k f fd ps sp) (hn : ∀ vs zs : List V, zs.length = ks.length → (vs ++ zs).length = ps.length → vs.length = n) (b : KBn K fd ps n ks (fun us ws => us ++ ws) (fun vs zs => vs ++ zs)) : FnK P w K mg base CX k f ks (fun vs zs H Q E => sp (vs ++ zs) H Q E) := by
  intro A outer s H us ws vs zs Q E room env r rz lz told
  have kin : K.In s.heap := env.mod.kin.keeps fun b o h => And.left (env.bs b o h)
  have ln := F.len _ _ _ _ told
  exact F.run A outer s H ⟨us, ks.zip ws⟩ (us ++ ws) (vs ++ zs) Q E room env (b.to s us ws kin (by rw [← r.length]; exact hn vs zs lz ln) (by rw [← rz.length, lz])) (r.append rz) told
end
end BkR

/-! two writers whose pictures are the same: the rows, by size -/
namespace Pm
def rng (a b : Nat) : List Nat := (List.range (b - a)).map (· + a)
def slotI : List Nat := [0, 0, 2, 2]
def slotA : List (List Nat) := [[0, 1, 2, 3], [1, 0, 2, 3], [0, 1, 3, 2], [1, 0, 3, 2]]
def slotB : List (List Nat) := [[0, 3, 2, 1], [3, 0, 2, 1], [0, 3, 1, 2], [3, 0, 1, 2]]
def ringI : List Nat := [1, 0, 0, 2, 3, 3]
def ringA : List (List Nat) := [[1, 4, 0, 5, 3, 2], [4, 0, 1, 5, 3, 2], [1, 4, 0, 2, 5, 3], [4, 0, 1, 2, 5, 3]]
def ringB : List (List Nat) := [[1, 5, 0, 4, 2, 3], [5, 0, 1, 4, 2, 3], [1, 5, 0, 2, 3, 4], [5, 0, 1, 2, 3, 4]]
abbrev Crd := List Nat × List (List Nat) × List (List Nat)
def slotC (n : Nat) : Crd := (slotI ++ rng 4 n, slotA.map (· ++ rng 4 n), slotB.map (· ++ rng 4 n))
def lenG (row : List Nat) (n : Nat) : List Nat := if row.length = n then row else (row.map fun b => if b = 0 then n - 1 else b) ++ (0 :: rng row.length (n - 1))
def ringC (n : Nat) : Crd := (lenG ringI n, ringA.map fun r => lenG r n, ringB.map fun r => lenG r n)
def exch (row : List Nat) : List Nat := row.map fun b => if b = 0 then 1 else if b = 1 then 0 else b
/-- marks along a circle -/
def walk (row : List Nat) : Nat → List Bool → Nat → List Bool
  | 0, seen, _ => seen
  | k + 1, seen, at_ => if seen.getD at_ true = true then seen else walk row k (seen.set at_ true) (row.getD at_ 0)
def cycS (row : List Nat) : Nat → List Bool × Nat
  | 0 => (List.replicate row.length false, 0)
  | i + 1 => (walk row row.length (cycS row i).1 i, if (cycS row i).1.getD i true = true then (cycS row i).2 else (cycS row i).2 + 1)
def cyc (row : List Nat) : Nat := (cycS row row.length).2
def oddR (row : List Nat) : Bool := decide ((row.length - cyc row) % 2 = 1)
def parC (n : Nat) (o : Bool) : Crd := if oddR ((ringC n).2.1.getD 0 []) = o then ringC n else (exch (ringC n).1, (ringC n).2.1.map exch, (ringC n).2.2.map exch)
def crdW (w n : Nat) : Crd := if w = 1 then slotC n else if w = 2 then parC n false else if w = 3 then parC n true else ringC n
/-! ### what the law asks of them -/
def rowOk (n : Nat) (row : List Nat) : Bool := decide (row.length = n) && row.all fun x => decide (x < n)
def stOk (w : Nat) (row : List Nat) : Bool := row.isPerm (List.range row.length) && (if w = 4 then decide (cyc row = 1) else decide (w = 1) || decide ((row.length - cyc row) % 2 = if w = 3 then 1 else 0))
def slotsF (a b : List Nat) : List Nat := (List.range a.length).filter fun x => decide (b.getD x 0 ≠ a.getD x 0)
def safeN (w : Nat) : Nat := if 1 < w then 3 else 2
def dueF (a b c : List Nat) : List Nat := (List.range a.length).map fun x => if c.getD x 0 ≠ a.getD x 0 then c.getD x 0 else b.getD x 0
def jointOk (w : Nat) : List (List Nat) → Bool
  | [a, b, c, d] => decide ((slotsF a b).length = safeN w) && decide ((slotsF a c).length = safeN w) && ((slotsF a b).all fun x => !(slotsF a c).contains x) && decide (d = dueF a b c) && decide (b.length = a.length) && decide (c.length = a.length)
  | _ => false
def comesOk (img : List Nat) (rows : List (List Nat)) : Bool := (List.range img.length).all fun x => decide (img.getD x 0 = (rows.getD 0 []).getD x 0) || decide (img.getD x 0 = (rows.getD 3 []).getD x 0)
def fourOk (w n : Nat) (rows : List (List Nat)) : Bool := decide (rows.length = 4) && rows.all fun r => rowOk n r && stOk w r
def okC (w n : Nat) (c : Crd) : Bool := rowOk n c.1 && fourOk w n c.2.1 && jointOk w c.2.1 && comesOk c.1 c.2.1 && fourOk w n c.2.2 && jointOk w c.2.2 && comesOk c.1 c.2.2 && (c.2.1.all fun r => !c.2.2.contains r)
def leastC (w : Nat) : Nat := if 1 < w then 6 else 4
theorem crd_ok1 : ∀ n : Fin 41, leastC 1 ≤ n.val → okC 1 n.val (crdW 1 n.val) = true := by decide +kernel
theorem crd_ok2 : ∀ n : Fin 41, leastC 2 ≤ n.val → okC 2 n.val (crdW 2 n.val) = true := by decide +kernel
theorem crd_ok3 : ∀ n : Fin 41, leastC 3 ≤ n.val → okC 3 n.val (crdW 3 n.val) = true := by decide +kernel
theorem crd_ok4 : ∀ n : Fin 41, leastC 4 ≤ n.val → okC 4 n.val (crdW 4 n.val) = true := by decide +kernel
theorem crd_ok {w n : Nat} (h1 : 1 ≤ w) (h4 : w ≤ 4) (hn : n < 41) (hl : leastC w ≤ n) : okC w n (crdW w n) = true := by
  have : w = 1 ∨ w = 2 ∨ w = 3 ∨ w = 4 := by omega
  rcases this with rfl | rfl | rfl | rfl
  · exact crd_ok1 ⟨n, hn⟩ hl
  · exact crd_ok2 ⟨n, hn⟩ hl
  · exact crd_ok3 ⟨n, hn⟩ hl
  · exact crd_ok4 ⟨n, hn⟩ hl
/-! ### a walk and its end -/
def open_ (seen : List Bool) : Nat := (seen.filter fun b => !b).length
theorem open_set : ∀ {seen : List Bool} {x : Nat}, x < seen.length → seen.getD x true = false → open_ (seen.set x true) + 1 = open_ seen
  | [], _, h, _ => by cases h
  | b :: l, 0, _, h => by
    have h : b = false := h
    subst h
    rfl
  | b :: l, x + 1, hx, h => by
    have ih := open_set (seen := l) (x := x) (by simpa using hx) h
    unfold open_ at ih ⊢
    rw [List.set_cons_succ, List.filter_cons, List.filter_cons]
    cases b
    · simp only [Bool.not_false, if_true, List.length_cons]
      omega
    · simp only [Bool.not_true]
      exact ih
theorem walk_len (row : List Nat) : ∀ (k : Nat) (seen : List Bool) (x : Nat), (walk row k seen x).length = seen.length
  | 0, _, _ => rfl
  | k + 1, seen, x => by
    unfold walk
    split
    · rfl
    · rw [walk_len row k, List.length_set]
theorem cycS_len (row : List Nat) : ∀ i, (cycS row i).1.length = row.length
  | 0 => List.length_replicate ..
  | i + 1 => by
    show (walk row row.length (cycS row i).1 i).length = _
    rw [walk_len, cycS_len row i]
theorem cycS_le (row : List Nat) : ∀ i, (cycS row i).2 ≤ i
  | 0 => Nat.le_refl _
  | i + 1 => by
    have ih := cycS_le row i
    show (if (cycS row i).1.getD i true = true then (cycS row i).2 else (cycS row i).2 + 1) ≤ i + 1
    split <;> omega
theorem cyc_le (row : List Nat) : cyc row ≤ row.length := cycS_le row _
theorem open_le (seen : List Bool) : open_ seen ≤ seen.length := List.length_filter_le _ _
end Pm

namespace Pv
open PySem L2
/-! ### error classes -/
def veM (M : Addr) : List Value := [.ref M, .type "ValueError", .type "Exception", .type "BaseException", .type "object"]
structure ErrK (K : PySem.W.Frag) (mg : Str → Option Value) (M C : Addr) (x : Str) : Prop where
  g : mg x = some (.ref C)
  k : PySem.W.keepIn K (.ref C) = true
  l : ∃ nm q N bs sn sub ab col dd k0 k1 k2 k3 k5, K.lookup C = some (excClassObj nm q C N bs (veM M) true sn sub ab col dd k0 k1 k2 k3 k5 "ValueError.__new__")
  sa : PySem.W.findIn K (.ref C) "__setattr__" = some (some (.builtin "object.__setattr__"))
  ga : PySem.W.findIn K (.ref C) "__getattribute__" = some (some (.builtin "BaseException.__getattribute__"))
  gg : PySem.W.findIn K (.ref C) "__getattr__" = some none
  ca : PySem.W.findIn K (.ref C) "__class__" = some (some (.builtin "object.__class__"))
structure ErrM (K : PySem.W.Frag) (mg : Str → Option Value) (M : Addr) : Prop where
  g : mg "MendError" = some (.ref M)
  l : ∃ nm q N bs bm sn sub ab col dd k0 k1 k2 k3 k5, K.lookup M = some (excClassObj nm q M N bs bm true sn sub ab col dd k0 k1 k2 k3 k5 "ValueError.__new__")
structure ErrF (K : PySem.W.Frag) (C I : Addr) (qual f : Str) (st : Stmt) : Prop where
  i : PySem.W.findIn K (.ref C) "__init__" = some (some (.ref I))
  t : PySem.W.typeIn K (.ref I) = some (.type "function")
  nf : PySem.W.findIn K (.ref C) f = some none
  fn : ∃ fd, Fun K "__init__" qual st I fd
section
variable {K : PySem.W.Frag} {mg : Str → Option Value} {M C D : Addr} {x : Str}
theorem ErrK.ty (E : ErrK K mg M C x) : PySem.W.typeIn K (.ref C) = some (.type "type") := by
  obtain ⟨nm, q, N, bs, sn, sub, ab, col, dd, k0, k1, k2, k3, k5, h⟩ := E.l
  show (K.lookup C).map (·.cls) = _
  rw [h]
  rfl
theorem ErrM.ty (E : ErrM K mg M) : PySem.W.typeIn K (.ref M) = some (.type "type") := by
  obtain ⟨nm, q, N, bs, bm, sn, sub, ab, col, dd, k0, k1, k2, k3, k5, h⟩ := E.l
  show (K.lookup M).map (·.cls) = _
  rw [h]
  rfl
theorem ErrM.cls (E : ErrM K mg M) : (PySem.W.clsIn K M).isSome = true := by
  obtain ⟨nm, q, N, bs, bm, sn, sub, ab, col, dd, k0, k1, k2, k3, k5, h⟩ := E.l
  unfold PySem.W.clsIn
  rw [h]
  rfl
theorem ErrK.mro (E : ErrK K mg M C x) (v : Value) : PySem.W.mroIn K C v = some ((Value.ref C :: veM M).contains v) := by
  obtain ⟨nm, q, N, bs, sn, sub, ab, col, dd, k0, k1, k2, k3, k5, h⟩ := E.l
  unfold PySem.W.mroIn PySem.W.clsIn
  rw [h]
  rfl
theorem ErrK.cls (E : ErrK K mg M C x) : (PySem.W.clsIn K C).isSome = true := by
  obtain ⟨nm, q, N, bs, sn, sub, ab, col, dd, k0, k1, k2, k3, k5, h⟩ := E.l
  unfold PySem.W.clsIn
  rw [h]
  rfl
theorem ErrK.hd (E : ErrK K mg M C x) : PySem.W.hasDictIn K C = true := by
  obtain ⟨nm, q, N, bs, sn, sub, ab, col, dd, k0, k1, k2, k3, k5, h⟩ := E.l
  unfold PySem.W.hasDictIn PySem.W.clsIn
  rw [h]
  rfl
theorem ErrK.sub (E : ErrK K mg M C x) : PySem.W.subIn K (.ref C) (.type "BaseException") = some true := by
  show PySem.W.mroIn K C _ = _
  rw [E.mro]
  simp [veM]
theorem ErrK.xfc (E : ErrK K mg M C x) : XfC K C := ⟨E.ga, E.gg, E.sub, E.hd⟩
theorem ErrK.oex (E : ErrK K mg M C x) : OexC K C := by
  obtain ⟨nm, q, N, bs, sn, sub, ab, col, dd, k0, k1, k2, k3, k5, h⟩ := E.l
  exact ⟨⟨nm, q, N, bs, veM M, sn, sub, ab, col, dd, k0, k1, k2, k3, k5, h, rfl⟩, E.sa, E.sub, E.ty, E.k⟩
theorem ErrK.exc (E : ErrK K mg M C x) (cn : PySem.W.specialIn K (.builtin "object.__class__") "__get__" = some (some (.builtin "getset_descriptor.__get__"))) (ct : PySem.W.takesIn K (.builtin "object.__class__") = some true) : ExcC K C :=
  ⟨E.ga, E.gg, E.sub, E.hd, E.ca, cn, ct, by rw [E.mro]; simp [veM]⟩
theorem kitCls_ref {t : Value} (h1 : (PySem.W.clsIn K D).isSome = true) (h2 : PySem.W.typeIn K (.ref D) = some (.type "type")) : PySem.W.kitCls K t (.ref D) = PySem.W.subIn K t (.ref D) := by
  show (if ((PySem.W.clsIn K D).isSome && PySem.W.typeIn K (.ref D) == some (.type "type")) = true then PySem.W.subIn K t (.ref D) else none) = _
  rw [h1, h2, if_pos (by simp)]
/-- isinstance against the class itself, its base, ValueError, another class -/
theorem kit_self : PySem.W.kitOne K (.ref C) (.ref C) = some true := by
  unfold PySem.W.kitOne
  rw [if_pos (by simp)]
theorem ErrK.kit_ne {y : Str} (E : ErrK K mg M C x) (F : ErrK K mg M D y) (h : C ≠ D) (hM : M ≠ D) : PySem.W.kitOne K (.ref C) (.ref D) = some false := by
  unfold PySem.W.kitOne
  rw [if_neg (by simp [h])]
  rw [kitCls_ref F.cls F.ty]
  show PySem.W.mroIn K C _ = _
  rw [E.mro]
  have h1 : D ≠ C := fun z => h z.symm
  have h2 : D ≠ M := fun z => hM z.symm
  simp [veM, h1, h2]
theorem ErrK.kit_base (E : ErrK K mg M C x) (F : ErrM K mg M) (h : C ≠ M) : PySem.W.kitOne K (.ref C) (.ref M) = some true := by
  unfold PySem.W.kitOne
  rw [if_neg (by simp [h])]
  rw [kitCls_ref F.cls F.ty]
  show PySem.W.mroIn K C _ = _
  rw [E.mro]
  simp [veM]
theorem ErrK.kit_ve (E : ErrK K mg M C x) : PySem.W.kitOne K (.ref C) (.type "ValueError") = some true := by
  unfold PySem.W.kitOne
  rw [if_neg (by simp)]
  unfold PySem.W.kitCls
  show (if PySem.W.kitMeta "ValueError" = true then PySem.W.mroIn K C (.type "ValueError") else none) = _
  rw [if_pos (by decide +kernel), E.mro]
  simp [veM]
theorem ErrK.exm (E : ErrK K mg M C x) : PySem.W.exmOne K (.ref C) (.ref C) = some true := by
  unfold PySem.W.exmOne
  rw [E.sub, if_pos (by simp)]
  rw [kitCls_ref E.cls E.ty]
  show PySem.W.mroIn K C _ = _
  rw [E.mro]
  simp
theorem ErrK.exm_ne {y : Str} (E : ErrK K mg M C x) (F : ErrK K mg M D y) (h : C ≠ D) (hM : M ≠ D) : PySem.W.exmOne K (.ref C) (.ref D) = some false := by
  unfold PySem.W.exmOne
  rw [F.sub, if_pos (by simp)]
  rw [kitCls_ref F.cls F.ty]
  show PySem.W.mroIn K C _ = _
  rw [E.mro]
  have h1 : D ≠ C := fun z => h z.symm
  have h2 : D ≠ M := fun z => hM z.symm
  simp [veM, h1, h2]
end
def word : Nat → Str
  | 0 => "free" | 1 => "pair" | 2 => "claim" | 3 => "hook" | 4 => "relay" | 5 => "clamp" | 6 => "trail" | _ => "wheel"
def wordsV : List V := [.str "free", .str "pair", .str "claim", .str "hook", .str "relay", .str "clamp", .str "trail", .str "wheel"]
def formsT : List (List Nat × Str) := [([0], "free"), ([1, 0], "pair"), ([1, 1], "claim"), ([1, 2, 1], "hook"), ([1, 2, 2], "relay"), ([1, 2, 1, 2], "clamp"), ([1, 2, 3, 2], "trail"), ([1, 2, 3, 0], "wheel")]
/-- a def with its promise: how it binds, too -/
def Okd (P : Program) (w : World) (K : PySem.W.Frag) (mg : Str → Option Value) (base : Heap) (CX : CXT) (k : Nat) (f : Addr) (ps : List Str) (sp : Sp) : Prop := ∃ fd, FnOk P w K mg base CX k f fd ps sp ∧ Binds K fd ps []
/-- a def called where an exception is handled, with its promise -/
def Okh (P : Program) (w : World) (K : PySem.W.Frag) (mg : Str → Option Value) (base : Heap) (CX : CXT) (k : Nat) (f : Addr) (ps : List Str) (sp : Sp) : Prop := ∃ fd, L2H.FnH P w K mg base CX k f fd ps sp ∧ Binds K fd ps []
/-! ### the text -/
/-- a written crowd: a tuple of a row and two rows of rows -/
def RowK (K : PySem.W.Frag) (p : Addr) (r : List Nat) : Prop := ∀ H, SqT K H p (r.map fun x : Nat => V.int (x : Int))
def RowsK (K : PySem.W.Frag) (p : Addr) (rs : List (List Nat)) : Prop := ∃ qs : List Addr, (∀ H, SqT K H p (qs.map V.ref)) ∧ qs.length = rs.length ∧ ∀ (j : Nat) (q : Addr) (r : List Nat), qs[j]? = some q → rs[j]? = some r → RowK K q r
def CrdK (K : PySem.W.Frag) (t : Addr) (c : Pm.Crd) : Prop := ∃ i a b : Addr, (∀ H, SqT K H t [V.ref i, V.ref a, V.ref b]) ∧ RowK K i c.1 ∧ RowsK K a c.2.1 ∧ RowsK K b c.2.2
def top (i : Nat) : Stmt := PySem.Challenge.pw_peermend_k47_two_writers_are_too_many.main.body.getD i (.Pass ⟨0, 0, 0, 0⟩)
abbrev s_circles_of : Stmt := top 7
abbrev s_is_odd : Stmt := top 8
abbrev s_with_names_exchanged : Stmt := top 9
abbrev s_slot_crowd : Stmt := top 10
abbrev s_ring_crowd : Stmt := top 11
abbrev s_exchanged : Stmt := top 12
abbrev s_lengthened : Stmt := top 13
abbrev s_m_book_init : Stmt := inClass (top 15) 1
abbrev s_m_pair_crowd : Stmt := inClass (top 16) 7
abbrev s_m_slot_crowd : Stmt := inClass (top 17) 7
abbrev s_m_parity_init : Stmt := inClass (top 18) 1
abbrev s_m_parity_crowd : Stmt := inClass (top 18) 8
abbrev s_m_ring_init : Stmt := inClass (top 19) 1
abbrev s_m_ring_crowd : Stmt := inClass (top 19) 8
abbrev s_law_box : Stmt := top 21
abbrev s_law_draw : Stmt := top 22
abbrev s_law_book : Stmt := top 24
abbrev s_law_circles : Stmt := top 25
abbrev s_law_is_state : Stmt := top 26
abbrev s_law_size : Stmt := top 27
abbrev s_law_row : Stmt := top 28
abbrev s_law_four : Stmt := top 29
abbrev s_law_joint : Stmt := top 30
abbrev s_law_comes_up : Stmt := top 31
abbrev s_law_crowds : Stmt := top 32
abbrev s_law_asked : Stmt := top 33
abbrev s_law : Stmt := top 34
abbrev s_InvalidSize : Stmt := inClass (top 3) 0
structure Ad where
  circles_of : Addr
  is_odd : Addr
  with_names_exchanged : Addr
  slot_crowd : Addr
  ring_crowd : Addr
  exchanged : Addr
  lengthened : Addr
  m_book_init : Addr
  m_pair_crowd : Addr
  m_slot_crowd : Addr
  m_parity_init : Addr
  m_parity_crowd : Addr
  m_ring_init : Addr
  m_ring_crowd : Addr
  law_box : Addr
  law_draw : Addr
  law_book : Addr
  law_circles : Addr
  law_is_state : Addr
  law_size : Addr
  law_row : Addr
  law_four : Addr
  law_joint : Addr
  law_comes_up : Addr
  law_crowds : Addr
  law_asked : Addr
  law : Addr
  SLOT_CROWD : Addr
  RING_CROWD : Addr
  MendError : Addr
  InvalidSize : Addr
  i_InvalidSize : Addr
  Book : Addr
  PairBook : Addr
  SlotBook : Addr
  ParityBook : Addr
  RingBook : Addr
  cc_m_parity_init : Addr
  cd_m_parity_init : Addr
  cc_m_ring_init : Addr
  cd_m_ring_init : Addr
abbrev N_circles_of : List Str := ["row", "found", "seen", "slot", "circle", "here"]
abbrev P_circles_of : List Str := ["row"]
theorem sc_circles_of : FnScope N_circles_of P_circles_of (defScope s_circles_of) := ⟨rfl, rfl, rfl, by decide +kernel, rfl, by decide +kernel, by decide +kernel⟩
abbrev N_is_odd : List Str := ["row"]
abbrev P_is_odd : List Str := ["row"]
theorem sc_is_odd : FnScope N_is_odd P_is_odd (defScope s_is_odd) := ⟨rfl, rfl, rfl, by decide +kernel, rfl, by decide +kernel, by decide +kernel⟩
abbrev N_with_names_exchanged : List Str := ["row"]
abbrev P_with_names_exchanged : List Str := ["row"]
theorem sc_with_names_exchanged : FnScope N_with_names_exchanged P_with_names_exchanged (defScope s_with_names_exchanged) := ⟨rfl, rfl, rfl, by decide +kernel, rfl, by decide +kernel, by decide +kernel⟩
abbrev N_slot_crowd : List Str := ["size", "image", "first", "second", "rest", "row"]
abbrev P_slot_crowd : List Str := ["size"]
theorem sc_slot_crowd : FnScope N_slot_crowd P_slot_crowd (defScope s_slot_crowd) := ⟨rfl, rfl, rfl, by decide +kernel, rfl, by decide +kernel, by decide +kernel⟩
abbrev N_ring_crowd : List Str := ["size", "image", "first", "second", "row"]
abbrev P_ring_crowd : List Str := ["size"]
theorem sc_ring_crowd : FnScope N_ring_crowd P_ring_crowd (defScope s_ring_crowd) := ⟨rfl, rfl, rfl, by decide +kernel, rfl, by decide +kernel, by decide +kernel⟩
abbrev N_exchanged : List Str := ["row", "first", "second", "names", "block"]
abbrev P_exchanged : List Str := ["row", "first", "second"]
theorem sc_exchanged : FnScope N_exchanged P_exchanged (defScope s_exchanged) := ⟨rfl, rfl, rfl, by decide +kernel, rfl, by decide +kernel, by decide +kernel⟩
abbrev N_lengthened : List Str := ["row", "size", "length", "ways", "block"]
abbrev P_lengthened : List Str := ["row", "size"]
theorem sc_lengthened : FnScope N_lengthened P_lengthened (defScope s_lengthened) := ⟨rfl, rfl, rfl, by decide +kernel, rfl, by decide +kernel, by decide +kernel⟩
abbrev N_m_book_init : List Str := ["self", "size"]
abbrev P_m_book_init : List Str := ["self", "size"]
theorem sc_m_book_init : FnScope N_m_book_init P_m_book_init (defScope s_m_book_init) := ⟨rfl, rfl, rfl, by decide +kernel, rfl, by decide +kernel, by decide +kernel⟩
abbrev N_m_pair_crowd : List Str := ["self"]
abbrev P_m_pair_crowd : List Str := ["self"]
theorem sc_m_pair_crowd : FnScope N_m_pair_crowd P_m_pair_crowd (defScope s_m_pair_crowd) := ⟨rfl, rfl, rfl, by decide +kernel, rfl, by decide +kernel, by decide +kernel⟩
abbrev N_m_slot_crowd : List Str := ["self"]
abbrev P_m_slot_crowd : List Str := ["self"]
theorem sc_m_slot_crowd : FnScope N_m_slot_crowd P_m_slot_crowd (defScope s_m_slot_crowd) := ⟨rfl, rfl, rfl, by decide +kernel, rfl, by decide +kernel, by decide +kernel⟩
abbrev N_m_parity_init : List Str := ["self", "size", "odd"]
abbrev N_m_parity_crowd : List Str := ["self", "image", "first", "second", "row"]
abbrev P_m_parity_crowd : List Str := ["self"]
theorem sc_m_parity_crowd : FnScope N_m_parity_crowd P_m_parity_crowd (defScope s_m_parity_crowd) := ⟨rfl, rfl, rfl, by decide +kernel, rfl, by decide +kernel, by decide +kernel⟩
abbrev N_m_ring_init : List Str := ["self", "size"]
abbrev N_m_ring_crowd : List Str := ["self"]
abbrev P_m_ring_crowd : List Str := ["self"]
theorem sc_m_ring_crowd : FnScope N_m_ring_crowd P_m_ring_crowd (defScope s_m_ring_crowd) := ⟨rfl, rfl, rfl, by decide +kernel, rfl, by decide +kernel, by decide +kernel⟩
abbrev N_law_box : List Str := ["script", "cell"]
abbrev P_law_box : List Str := ["script"]
theorem sc_law_box : FnScope N_law_box P_law_box (defScope s_law_box) := ⟨rfl, rfl, rfl, by decide +kernel, rfl, by decide +kernel, by decide +kernel⟩
abbrev N_law_draw : List Str := ["box", "many", "cell", "worth"]
abbrev P_law_draw : List Str := ["box", "many"]
theorem sc_law_draw : FnScope N_law_draw P_law_draw (defScope s_law_draw) := ⟨rfl, rfl, rfl, by decide +kernel, rfl, by decide +kernel, by decide +kernel⟩
abbrev N_law_book : List Str := ["which", "many"]
abbrev P_law_book : List Str := ["which", "many"]
theorem sc_law_book : FnScope N_law_book P_law_book (defScope s_law_book) := ⟨rfl, rfl, rfl, by decide +kernel, rfl, by decide +kernel, by decide +kernel⟩
abbrev N_law_circles : List Str := ["row", "seen", "many", "start", "at", "turn"]
abbrev P_law_circles : List Str := ["row"]
theorem sc_law_circles : FnScope N_law_circles P_law_circles (defScope s_law_circles) := ⟨rfl, rfl, rfl, by decide +kernel, rfl, by decide +kernel, by decide +kernel⟩
abbrev N_law_is_state : List Str := ["which", "row", "rounds", "at"]
abbrev P_law_is_state : List Str := ["which", "row"]
theorem sc_law_is_state : FnScope N_law_is_state P_law_is_state (defScope s_law_is_state) := ⟨rfl, rfl, rfl, by decide +kernel, rfl, by decide +kernel, by decide +kernel⟩
abbrev N_law_size : List Str := ["box", "which", "least"]
abbrev P_law_size : List Str := ["box", "which"]
theorem sc_law_size : FnScope N_law_size P_law_size (defScope s_law_size) := ⟨rfl, rfl, rfl, by decide +kernel, rfl, by decide +kernel, by decide +kernel⟩
abbrev N_law_row : List Str := ["told", "many", "worth"]
abbrev P_law_row : List Str := ["told", "many"]
theorem sc_law_row : FnScope N_law_row P_law_row (defScope s_law_row) := ⟨rfl, rfl, rfl, by decide +kernel, rfl, by decide +kernel, by decide +kernel⟩
abbrev N_law_four : List Str := ["which", "many", "told", "row"]
abbrev P_law_four : List Str := ["which", "many", "told"]
theorem sc_law_four : FnScope N_law_four P_law_four (defScope s_law_four) := ⟨rfl, rfl, rfl, by decide +kernel, rfl, by decide +kernel, by decide +kernel⟩
abbrev N_law_joint : List Str := ["which", "told", "start", "one", "two", "both", "slots", "others", "safe", "due", "at"]
abbrev P_law_joint : List Str := ["which", "told"]
theorem sc_law_joint : FnScope N_law_joint P_law_joint (defScope s_law_joint) := ⟨rfl, rfl, rfl, by decide +kernel, rfl, by decide +kernel, by decide +kernel⟩
abbrev N_law_comes_up : List Str := ["image", "told", "at"]
abbrev P_law_comes_up : List Str := ["image", "told"]
theorem sc_law_comes_up : FnScope N_law_comes_up P_law_comes_up (defScope s_law_comes_up) := ⟨rfl, rfl, rfl, by decide +kernel, rfl, by decide +kernel, by decide +kernel⟩
abbrev N_law_crowds : List Str := ["which", "many", "told", "rows", "row"]
abbrev P_law_crowds : List Str := ["which", "many", "told"]
theorem sc_law_crowds : FnScope N_law_crowds P_law_crowds (defScope s_law_crowds) := ⟨rfl, rfl, rfl, by decide +kernel, rfl, by decide +kernel, by decide +kernel⟩
abbrev N_law_asked : List Str := ["book", "which", "many", "told", "image", "rows", "others", "row"]
abbrev P_law_asked : List Str := ["book", "which", "many"]
theorem sc_law_asked : FnScope N_law_asked P_law_asked (defScope s_law_asked) := ⟨rfl, rfl, rfl, by decide +kernel, rfl, by decide +kernel, by decide +kernel⟩
abbrev N_law : List Str := ["script", "box", "books", "notes", "turn", "which", "many", "again"]
abbrev P_law : List Str := ["script"]
theorem sc_law : FnScope N_law P_law (defScope s_law) := ⟨rfl, rfl, rfl, by decide +kernel, rfl, by decide +kernel, by decide +kernel⟩
abbrev N_InvalidSize : List Str := ["self", "size"]
abbrev P_InvalidSize : List Str := ["self", "size"]
theorem sc_InvalidSize : FnScope N_InvalidSize P_InvalidSize (defScope s_InvalidSize) := ⟨rfl, rfl, rfl, by decide +kernel, rfl, by decide +kernel, by decide +kernel⟩
structure Txt (K : PySem.W.Frag) (mg : Str → Option Value) (A : Ad) : Prop where
  g_circles_of : mg "circles_of" = some (.ref A.circles_of)
  k_circles_of : PySem.W.keepIn K (.ref A.circles_of) = true
  d_circles_of : ∃ fd, Fun K "circles_of" "circles_of" s_circles_of A.circles_of fd
  g_is_odd : mg "is_odd" = some (.ref A.is_odd)
  k_is_odd : PySem.W.keepIn K (.ref A.is_odd) = true
  d_is_odd : ∃ fd, Fun K "is_odd" "is_odd" s_is_odd A.is_odd fd
  g_with_names_exchanged : mg "with_names_exchanged" = some (.ref A.with_names_exchanged)
  k_with_names_exchanged : PySem.W.keepIn K (.ref A.with_names_exchanged) = true
  d_with_names_exchanged : ∃ fd, Fun K "with_names_exchanged" "with_names_exchanged" s_with_names_exchanged A.with_names_exchanged fd
  g_slot_crowd : mg "slot_crowd" = some (.ref A.slot_crowd)
  k_slot_crowd : PySem.W.keepIn K (.ref A.slot_crowd) = true
  d_slot_crowd : ∃ fd, Fun K "slot_crowd" "slot_crowd" s_slot_crowd A.slot_crowd fd
  g_ring_crowd : mg "ring_crowd" = some (.ref A.ring_crowd)
  k_ring_crowd : PySem.W.keepIn K (.ref A.ring_crowd) = true
  d_ring_crowd : ∃ fd, Fun K "ring_crowd" "ring_crowd" s_ring_crowd A.ring_crowd fd
  g_exchanged : mg "_exchanged" = some (.ref A.exchanged)
  k_exchanged : PySem.W.keepIn K (.ref A.exchanged) = true
  d_exchanged : ∃ fd, Fun K "_exchanged" "_exchanged" s_exchanged A.exchanged fd
  g_lengthened : mg "_lengthened" = some (.ref A.lengthened)
  k_lengthened : PySem.W.keepIn K (.ref A.lengthened) = true
  d_lengthened : ∃ fd, Fun K "_lengthened" "_lengthened" s_lengthened A.lengthened fd
  d_m_book_init : ∃ fd, Fun K "__init__" "Book.__init__" s_m_book_init A.m_book_init fd
  d_m_pair_crowd : ∃ fd, Fun K "crowd" "PairBook.crowd" s_m_pair_crowd A.m_pair_crowd fd
  d_m_slot_crowd : ∃ fd, Fun K "crowd" "SlotBook.crowd" s_m_slot_crowd A.m_slot_crowd fd
  d_m_parity_crowd : ∃ fd, Fun K "crowd" "ParityBook.crowd" s_m_parity_crowd A.m_parity_crowd fd
  d_m_ring_crowd : ∃ fd, Fun K "crowd" "RingBook.crowd" s_m_ring_crowd A.m_ring_crowd fd
  g_law_box : mg "_law_box" = some (.ref A.law_box)
  k_law_box : PySem.W.keepIn K (.ref A.law_box) = true
  d_law_box : ∃ fd, Fun K "_law_box" "_law_box" s_law_box A.law_box fd
  g_law_draw : mg "_law_draw" = some (.ref A.law_draw)
  k_law_draw : PySem.W.keepIn K (.ref A.law_draw) = true
  d_law_draw : ∃ fd, Fun K "_law_draw" "_law_draw" s_law_draw A.law_draw fd
  g_law_book : mg "_law_book" = some (.ref A.law_book)
  k_law_book : PySem.W.keepIn K (.ref A.law_book) = true
  d_law_book : ∃ fd, Fun K "_law_book" "_law_book" s_law_book A.law_book fd
  g_law_circles : mg "_law_circles" = some (.ref A.law_circles)
  k_law_circles : PySem.W.keepIn K (.ref A.law_circles) = true
  d_law_circles : ∃ fd, Fun K "_law_circles" "_law_circles" s_law_circles A.law_circles fd
  g_law_is_state : mg "_law_is_state" = some (.ref A.law_is_state)
  k_law_is_state : PySem.W.keepIn K (.ref A.law_is_state) = true
  d_law_is_state : ∃ fd, Fun K "_law_is_state" "_law_is_state" s_law_is_state A.law_is_state fd
  g_law_size : mg "_law_size" = some (.ref A.law_size)
  k_law_size : PySem.W.keepIn K (.ref A.law_size) = true
  d_law_size : ∃ fd, Fun K "_law_size" "_law_size" s_law_size A.law_size fd
  g_law_row : mg "_law_row" = some (.ref A.law_row)
  k_law_row : PySem.W.keepIn K (.ref A.law_row) = true
  d_law_row : ∃ fd, Fun K "_law_row" "_law_row" s_law_row A.law_row fd
  g_law_four : mg "_law_four" = some (.ref A.law_four)
  k_law_four : PySem.W.keepIn K (.ref A.law_four) = true
  d_law_four : ∃ fd, Fun K "_law_four" "_law_four" s_law_four A.law_four fd
  g_law_joint : mg "_law_joint" = some (.ref A.law_joint)
  k_law_joint : PySem.W.keepIn K (.ref A.law_joint) = true
  d_law_joint : ∃ fd, Fun K "_law_joint" "_law_joint" s_law_joint A.law_joint fd
  g_law_comes_up : mg "_law_comes_up" = some (.ref A.law_comes_up)
  k_law_comes_up : PySem.W.keepIn K (.ref A.law_comes_up) = true
  d_law_comes_up : ∃ fd, Fun K "_law_comes_up" "_law_comes_up" s_law_comes_up A.law_comes_up fd
  g_law_crowds : mg "_law_crowds" = some (.ref A.law_crowds)
  k_law_crowds : PySem.W.keepIn K (.ref A.law_crowds) = true
  d_law_crowds : ∃ fd, Fun K "_law_crowds" "_law_crowds" s_law_crowds A.law_crowds fd
  g_law_asked : mg "_law_asked" = some (.ref A.law_asked)
  k_law_asked : PySem.W.keepIn K (.ref A.law_asked) = true
  d_law_asked : ∃ fd, Fun K "_law_asked" "_law_asked" s_law_asked A.law_asked fd
  g_law : mg "law" = some (.ref A.law)
  k_law : PySem.W.keepIn K (.ref A.law) = true
  d_law : ∃ fd, Fun K "law" "law" s_law A.law fd
  e_MendError : ErrM K mg A.MendError
  e_InvalidSize : ErrK K mg A.MendError A.InvalidSize "InvalidSize"
  f_InvalidSize : ErrF K A.InvalidSize A.i_InvalidSize "InvalidSize.__init__" "size" s_InvalidSize
  g_SLOT_CROWD : mg "_SLOT_CROWD" = some (.ref A.SLOT_CROWD)
  g_RING_CROWD : mg "_RING_CROWD" = some (.ref A.RING_CROWD)
  g_PairBook : mg "PairBook" = some (.ref A.PairBook)
  c_PairBook : Cls K A.PairBook
  mk_PairBook : Mk K A.PairBook A.m_book_init
  mt_PairBook : Meth K A.PairBook "crowd" A.m_pair_crowd
  co_PairBook : ∃ u, Con K A.PairBook "LEAST" (.int 1) u
  nsize_PairBook : NoAttr K A.PairBook "size"
  nodd_PairBook : NoAttr K A.PairBook "odd"
  g_SlotBook : mg "SlotBook" = some (.ref A.SlotBook)
  c_SlotBook : Cls K A.SlotBook
  mk_SlotBook : Mk K A.SlotBook A.m_book_init
  mt_SlotBook : Meth K A.SlotBook "crowd" A.m_slot_crowd
  co_SlotBook : ∃ u, Con K A.SlotBook "LEAST" (.int 1) u
  nsize_SlotBook : NoAttr K A.SlotBook "size"
  nodd_SlotBook : NoAttr K A.SlotBook "odd"
  g_ParityBook : mg "ParityBook" = some (.ref A.ParityBook)
  c_ParityBook : Cls K A.ParityBook
  mk_ParityBook : Mk K A.ParityBook A.m_parity_init
  mt_ParityBook : Meth K A.ParityBook "crowd" A.m_parity_crowd
  co_ParityBook : ∃ u, Con K A.ParityBook "LEAST" (.int 3) u
  nsize_ParityBook : NoAttr K A.ParityBook "size"
  nodd_ParityBook : NoAttr K A.ParityBook "odd"
  g_RingBook : mg "RingBook" = some (.ref A.RingBook)
  c_RingBook : Cls K A.RingBook
  mk_RingBook : Mk K A.RingBook A.m_ring_init
  mt_RingBook : Meth K A.RingBook "crowd" A.m_ring_crowd
  co_RingBook : ∃ u, Con K A.RingBook "LEAST" (.int 3) u
  nsize_RingBook : NoAttr K A.RingBook "size"
  nodd_RingBook : NoAttr K A.RingBook "odd"
  w_SLOT_CROWD : CrdK K A.SLOT_CROWD (Pm.slotI, Pm.slotA, Pm.slotB)
  w_RING_CROWD : CrdK K A.RING_CROWD (Pm.ringI, Pm.ringA, Pm.ringB)
  n_ValueError : mg "ValueError" = none
  n_int : mg "int" = none
  n_bool : mg "bool" = none
  n_str : mg "str" = none
  n_list : mg "list" = none
  n_tuple : mg "tuple" = none
  n_len : mg "len" = none
  n_range : mg "range" = none
  n_enumerate : mg "enumerate" = none
  n_isinstance : mg "isinstance" = none
  n_min : mg "min" = none
  n_abs : mg "abs" = none
  n_sorted : mg "sorted" = none
  n_all : mg "all" = none
  n_any : mg "any" = none
  n_sum : mg "sum" = none
  n_zip : mg "zip" = none
  n_reversed : mg "reversed" = none
  n_max : mg "max" = none
  n_set : mg "set" = none
  n_super : mg "super" = none
  cn : PySem.W.specialIn K (.builtin "object.__class__") "__get__" = some (some (.builtin "getset_descriptor.__get__"))
  ct : PySem.W.takesIn K (.builtin "object.__class__") = some true
  nd : [A.MendError, A.InvalidSize].Nodup
end Pv

namespace Pv
open PySem L2
/-- all but what stands at b is as it was -/
def Mut (b : Addr) (H H' : Hp) : Prop := ∀ a o, a ≠ b → H a = some o → H' a = some o
theorem Mut.refl (b : Addr) (H : Hp) : Mut b H H := fun _ _ _ e => e
theorem Mut.trans {b : Addr} {H H1 H2 : Hp} (x : Mut b H H1) (y : Mut b H1 H2) : Mut b H H2 := fun a o n e => y a o n (x a o n e)
theorem Mut.upd {b : Addr} {H H1 : Hp} {o : HO} (x : Mut b H H1) : Mut b H (L2.upd H1 b o) := fun a u n e => by
  rw [upd_ne n]
  exact x a u n e
theorem Mut.new {b p : Addr} {H H1 : Hp} {o : HO} (x : Mut b H H1) (hp : H1 p = none) : Mut b H (L2.upd H1 p o) := fun a u n e => by
  have e1 := x a u n e
  rw [upd_ne (ne_of_none e1 hp)]
  exact e1
theorem Mut.free {b p : Addr} {H H1 : Hp} (x : Mut b H H1) (h : p ≠ b) (hp : H1 p = none) : H p = none := by
  cases e : H p with
  | none => rfl
  | some o =>
    rw [x p o h e] at hp
    cases hp
/-- the bag of the draws -/
def bagL (g f s : Int) : List V := [.int g, .int f, .int s]
structure BagOk (g f s : Int) : Prop where
  g0 : 0 ≤ g
  f0 : 0 ≤ f
  f1 : f < 2147483647
  s0 : 0 ≤ s
  s1 : s < 2147483647
def Bag (H : Hp) (b : Addr) : Prop := ∃ g f s : Int, H b = some (.lst (bagL g f s)) ∧ BagOk g f s
def spBag (K : PySem.W.Frag) : Sp := fun vs H Q _ => ∃ (a : Addr) (ns : List Int), vs = [.ref a] ∧ SqL K H a (ns.map V.int) ∧ ∀ b g f s, H b = none → BagOk g f s → Q (.ref b) (upd H b (.lst (bagL g f s)))
def spTake : Sp := fun vs H Q _ => ∃ (b : Addr) (n : Int), vs = [.ref b, .int n] ∧ 0 < n ∧ n < 1152921504606846976 ∧ Bag H b ∧ ∀ d H', 0 ≤ d → d < n → Bag H' b → Mut b H H' → Q (.int d) H'
/-- ints from 0 to below n -/
def Below (n : Int) (xs : List Int) : Prop := ∀ x ∈ xs, 0 ≤ x ∧ x < n
def ListI (H : Hp) (p : Addr) (xs : List Int) : Prop := H p = some (.lst (xs.map V.int))
def spOrder : Sp := fun vs H Q _ => ∃ (b : Addr) (n : Nat), vs = [.ref b, .int (n : Int)] ∧ n ≤ 64 ∧ Bag H b ∧ ∀ p xs H', H p = none → p ≠ b → xs.length = n → Below n xs → ListI H' p xs → Bag H' b → Mut b H H' → Q (.ref p) H'
def spSize : Sp := fun vs H Q _ => ∃ b : Addr, vs = [.ref b] ∧ Bag H b ∧ ∀ (d : Int) H', 0 ≤ d → d ≤ 64 → Bag H' b → Mut b H H' → Q (.int d) H'
def spEntry : Sp := fun vs H Q _ => ∃ (b : Addr) (n : Nat), vs = [.ref b, .int (n : Int)] ∧ 0 < n ∧ n ≤ 64 ∧ Bag H b ∧ ∀ (d : Int) H', Bag H' b → Mut b H H' → Q (.int d) H'
def spDrawn : Sp := fun vs H Q _ => ∃ (b : Addr) (n : Nat), vs = [.ref b, .int (n : Int)] ∧ n ≤ 64 ∧ Bag H b ∧ ∀ p xs H', H p = none → p ≠ b → xs.length = n → ListI H' p xs → Bag H' b → Mut b H H' → Q (.ref p) H'
theorem Bag.ne {H : Hp} {b p : Addr} (B : Bag H b) (h : H p = none) : p ≠ b := fun e => by
  obtain ⟨g, f, s, hb, _⟩ := B
  rw [e, hb] at h
  cases h
theorem Bag.keep {H H' : Hp} {b : Addr} (B : Bag H b) (h : ∀ o, H b = some o → H' b = some o) : Bag H' b := by
  obtain ⟨g, f, s, hb, ok⟩ := B
  exact ⟨g, f, s, h _ hb, ok⟩
theorem map_erase {α β : Type} (f : α → β) : ∀ (l : List α) (i : Nat), (l.map f).eraseIdx i = (l.eraseIdx i).map f
  | [], _ => rfl
  | _ :: _, 0 => rfl
  | a :: l, i + 1 => by
    show f a :: (l.map f).eraseIdx i = f a :: (l.eraseIdx i).map f
    rw [map_erase f l i]
theorem rgV_map (n : Nat) : rgV 0 (n : Int) = ((List.range n).map fun i : Nat => (i : Int)).map V.int := by
  unfold rgV
  have e : ((n : Int) - 0).toNat = n := by omega
  rw [e, List.map_map]
  refine List.map_congr_left fun i _ => ?_
  show V.int (0 + (i : Int)) = V.int (i : Int)
  rw [Int.zero_add]
theorem below_rg (n : Nat) : Below (n : Int) ((List.range n).map fun i : Nat => (i : Int)) := fun x hx => by
  obtain ⟨i, hi, rfl⟩ := List.mem_map.mp hx
  have := List.mem_range.mp hi
  omega
theorem ListI.sz {K : PySem.W.Frag} {H : Hp} {p : Addr} {xs : List Int} (h : ListI H p xs) : SqL K H p (xs.map V.int) := SqL.of h
theorem ix_map {xs : List Int} {j : Nat} (h : j < xs.length) : (xs.map V.int)[j]? = some (V.int xs[j]) := by
  rw [List.getElem?_map, List.getElem?_eq_getElem h]
  rfl
theorem at_map {xs : List Int} {j : Nat} (h : j < xs.length) : atI (xs.map V.int) (j : Int) = some (V.int xs[j]) := atI_nat (ix_map h)
theorem set_map {xs : List Int} {j : Nat} {v : Int} : (xs.map V.int).set j (V.int v) = (xs.set j v).map V.int := List.map_set.symm
theorem ite_b {b : Bool} {X Y : Prop} (h1 : b = true → X) (h2 : b = false → Y) : if b = true then X else Y := by
  cases b with
  | true => exact h1 rfl
  | false => exact h2 rfl
theorem int_at {ns : List Int} {i : Nat} {y : V} (h : (ns.map V.int)[i]? = some y) : ∃ z, ns[i]? = some z ∧ y = V.int z := by
  rw [List.getElem?_map] at h
  cases e : ns[i]? with
  | none =>
    rw [e] at h
    cases h
  | some z =>
    rw [e] at h
    exact ⟨z, rfl, (Option.some.inj h).symm⟩
end Pv

namespace StK
open PySem L2
/-- == of two shaped things, told of K -/
theorem op_eqDK {X : Cx} {K : PySem.W.Frag} (h : X.K = K) (hu : X.A.units + 64 < cLine) : OpR X (compareOp .Eq) (rEqD K) := h ▸ op_eqD hu
end StK
namespace StK
open PySem L2
/-- list.count within a comprehension -/
theorem pe_countK {X : Cx} {K : PySem.W.Frag} (h : X.K = K) {o e : Expr} {to te : TE} {apos cpos : Pos} (p : PE X (.Call (.Attribute o "count" apos) [e] [] cpos) (tBM X.K "list" (rCntI X.K) to (tCons te tNil))) : PE X (.Call (.Attribute o "count" apos) [e] [] cpos) (tBM K "list" (rCntI K) to (tCons te tNil)) := by
  subst h
  exact p
end StK

namespace Pv
open PySem L2 Evl Pm
def nI (xs : List Nat) : List V := xs.map fun x : Nat => V.int (x : Int)
def ListN (H : Hp) (p : Addr) (xs : List Nat) : Prop := H p = some (.lst (nI xs))
theorem nI_len (xs : List Nat) : (nI xs).length = xs.length := List.length_map ..
theorem ListN.sz {K : PySem.W.Frag} {H : Hp} {p : Addr} {xs : List Nat} (h : ListN H p xs) : SqL K H p (nI xs) := SqL.of h
theorem ListN.ex {H H1 : Hp} {a : Addr} {xs : List Nat} (e : Ex H H1) (h : ListN H a xs) : ListN H1 a xs := e a _ h
theorem nat_at {ns : List Nat} {i : Nat} {y : V} (h : (nI ns)[i]? = some y) : i < ns.length ∧ y = V.int ((ns.getD i 0 : Nat) : Int) := by
  unfold nI at h
  rw [List.getElem?_map] at h
  cases e : ns[i]? with
  | none =>
    rw [e] at h
    cases h
  | some z =>
    rw [e] at h
    refine ⟨(List.getElem?_eq_some_iff.mp e).1, ?_⟩
    rw [List.getD_eq_getElem?_getD, e]
    exact (Option.some.inj h).symm
theorem ixN_ {xs : List Nat} {j : Nat} (h : j < xs.length) : (nI xs)[j]? = some (V.int ((xs.getD j 0 : Nat) : Int)) := by
  unfold nI
  rw [List.getElem?_map, List.getD_eq_getElem?_getD, List.getElem?_eq_getElem h]
  rfl
theorem atN {xs : List Nat} {j : Nat} (h : j < xs.length) : atI (nI xs) (j : Int) = some (V.int ((xs.getD j 0 : Nat) : Int)) := atI_nat (ixN_ h)
theorem ex_new {H H1 : Hp} {p : Addr} {o : HO} (e : Ex H H1) (h : H1 p = none) : Ex H (upd H1 p o) := e.trans (Ex.new h)
theorem nI_app {xs : List Nat} {v : Nat} : nI (xs ++ [v]) = nI xs ++ [V.int (v : Int)] := by
  unfold nI
  rw [List.map_append]
  rfl
theorem acc_step {G H' : Hp} {D : Addr} {ls : List Nat} {v : Nat} (hD : G D = none) (e : Ex G H') : Ex G (upd H' D (.lst (nI ls ++ [V.int (v : Int)]))) ∧ ListN (upd H' D (.lst (nI ls ++ [V.int (v : Int)]))) D (ls ++ [v]) := by
  refine ⟨fun b o hb => ?_, ?_⟩
  · rw [upd_ne (ne_of_none hb hD)]
    exact e b o hb
  · show upd H' D _ D = _
    rw [upd_same, nI_app]
theorem take_map_succ {xs : List Nat} {j : Nat} (h : j < xs.length) (f : Nat → Nat) : (xs.take (j + 1)).map f = (xs.take j).map f ++ [f (xs.getD j 0)] := by
  rw [List.take_add_one, List.getElem?_eq_getElem h, List.map_append, List.getD_eq_getElem?_getD, List.getElem?_eq_getElem h]
  rfl
theorem take_succ {xs : List Nat} {j : Nat} (h : j < xs.length) : xs.take (j + 1) = xs.take j ++ [xs.getD j 0] := by
  rw [List.take_add_one, List.getElem?_eq_getElem h, List.getD_eq_getElem?_getD, List.getElem?_eq_getElem h]
  rfl
theorem take_filter_pos {xs : List Nat} {j : Nat} (h : j < xs.length) {q : Nat → Bool} (c : q (xs.getD j 0) = true) : (xs.take (j + 1)).filter q = (xs.take j).filter q ++ [xs.getD j 0] := by
  rw [take_succ h, List.filter_append, List.filter_cons, if_pos c]
  rfl
theorem take_filter_neg {xs : List Nat} {j : Nat} (h : j < xs.length) {q : Nat → Bool} (c : q (xs.getD j 0) = false) : (xs.take (j + 1)).filter q = (xs.take j).filter q := by
  rw [take_succ h, List.filter_append, List.filter_cons, if_neg (by rw [c]; decide)]
  exact List.append_nil _
theorem flat_nI : ∀ xs : List Nat, (nI xs).all flatV = true
  | [] => rfl
  | _ :: xs => flat_nI xs
theorem inV_nI {x : Nat} : ∀ xs : List Nat, inV (V.int (x : Int)) (nI xs) = xs.contains x
  | [] => rfl
  | y :: xs => by
    show (eqV (V.int (y : Int)) (V.int (x : Int)) || inV (V.int (x : Int)) (nI xs)) = _
    rw [inV_nI xs, List.contains_cons]
    congr 1
    show ((y : Int) == (x : Int)) = (x == y)
    rw [Bool.eq_iff_iff, beq_iff_eq, beq_iff_eq]
    omega
theorem eqV_nat {x y : Nat} : eqV (V.int (x : Int)) (V.int (y : Int)) = true ↔ x = y := by
  show ((x : Int) == (y : Int)) = true ↔ _
  rw [beq_iff_eq]
  omega
/-! ### images of any integers -/
def spInit (C : Addr) (f : Str) : Sp := fun vs H Q _ => ∃ (a : Addr) (v : V), vs = [.ref a, v] ∧ H a = some (exo a C none) ∧ ∀ dx, H dx = none → dx ≠ a → Q .non (upd (upd H dx (exd dx [(f, v)])) a (exo a C (some dx)))
theorem ifF {b : Bool} {p q : Prop} (h : b = false) (k : q) : if b = true then p else q := by
  rw [h, if_neg Bool.false_ne_true]; exact k
theorem ifT {b : Bool} {p q : Prop} (h : b = true) (k : p) : if b = true then p else q := by
  rw [h, if_pos rfl]; exact k
theorem atR {ts : List Addr} {i : Nat} {t : Addr} (h : ts[i]? = some t) : atI (ts.map V.ref) (i : Int) = some (V.ref t) := atI_nat (by rw [List.getElem?_map, h]; rfl)
theorem back_none {H H1 : Hp} {p : Addr} (e : Ex H H1) (h : H1 p = none) : H p = none := by
  cases q : H p with
  | none => rfl
  | some o =>
    rw [e p o q] at h
    cases h
theorem cut_tk {xs : List V} {k : Nat} : cutV xs none (some (k : Int)) = xs.take k := by
  unfold cutV
  rw [HT.sIx_none, HT.sIx_nat, List.drop_zero, Nat.sub_zero, List.take_eq_take_iff]
  omega
theorem cut_dp {xs : List V} {k : Nat} (h : k ≤ xs.length) : cutV xs (some (k : Int)) none = xs.drop k := by
  unfold cutV
  rw [HT.sIx_none, HT.sIx_nat, Nat.min_eq_left h]
  rw [List.take_of_length_le (by rw [List.length_drop]; exact Nat.le_refl _)]
theorem ref_at {ts : List Addr} {i : Nat} {x : V} (h : (ts.map V.ref)[i]? = some x) : ∃ p, ts[i]? = some p ∧ x = .ref p := by
  rw [List.getElem?_map] at h
  cases e : ts[i]? with
  | none => rw [e] at h; cases h
  | some p =>
    rw [e] at h
    exact ⟨p, rfl, (Option.some.inj h).symm⟩
theorem getD_some9 {l : List Nat} {i : Nat} (h : i < l.length) : l[i]? = some (l.getD i 0) := by
  rw [List.getD_eq_getElem?_getD, List.getElem?_eq_getElem h]
  rfl
def Lay (n : Nat) (d : PyData) : Prop := PyData.canLay0 d = true ∧ PyData.depth d ≤ n ∧ PyData.plain d = true
def LayA (n : Nat) (ds : List PyData) : Prop := PyData.canLayAll0 ds = true ∧ PyData.depthAll ds ≤ n ∧ PyData.plainAll ds = true
theorem LayA.nil {n : Nat} : LayA n [] := ⟨rfl, Nat.zero_le _, rfl⟩
theorem LayA.cons {n : Nat} {d : PyData} {ds : List PyData} (h : Lay n d) (t : LayA n ds) : LayA n (d :: ds) := by
  obtain ⟨a1, a2, a3⟩ := h
  obtain ⟨b1, b2, b3⟩ := t
  refine ⟨?_, ?_, ?_⟩
  · simp only [PyData.canLayAll0, a1, b1]
    rfl
  · simp only [PyData.depthAll]
    omega
  · simp only [PyData.plainAll, a3, b3]
    rfl
theorem LayA.map {α : Type} {f : α → PyData} {n : Nat} : ∀ {cs : List α}, (∀ c ∈ cs, Lay n (f c)) → LayA n (cs.map f)
  | [], _ => .nil
  | c :: cs, h => .cons (h c (List.mem_cons_self ..)) (LayA.map fun d hd => h d (List.mem_cons_of_mem _ hd))
theorem LayA.list {n : Nat} {ds : List PyData} (h : LayA n ds) : Lay (n + 1) (.list ds) := by
  obtain ⟨a, b, c⟩ := h
  refine ⟨?_, ?_, ?_⟩
  · simp only [PyData.canLay0, a]
  · simp only [PyData.depth]
    omega
  · simp only [PyData.plain, c]
theorem Lay.int {n : Nat} (i : Int) : Lay (n + 1) (.int i) := ⟨rfl, by simp only [PyData.depth]; omega, rfl⟩
theorem Lay.shaped {n : Nat} {d : PyData} (h : Lay n d) (hn : n ≤ 60) : SeqAt.shaped d = true := by
  unfold SeqAt.shaped
  rw [h.1, decide_eq_true (by have := h.2.1; omega)]
  rfl
theorem Lay.refl {n : Nat} {d : PyData} (h : Lay n d) : PyData.eqv d d = true := PySem.SeqAt.eqv_refl_plain _ h.2.2
def dL (xs : List Int) : PyData := .list (xs.map PyData.int)
theorem lay_L (xs : List Int) : Lay 2 (dL xs) := LayA.list (LayA.map fun x _ => Lay.int x)
theorem dpAll_L {K : PySem.W.Frag} {H : Hp} : ∀ xs : List Int, DpAll K H (xs.map V.int) (xs.map PyData.int)
  | [] => .nil
  | x :: xs => .cons (.int x) (dpAll_L xs)
theorem dp_L {K : PySem.W.Frag} {H : Hp} {a : Addr} {xs : List Int} (h : H a = some (.lst (xs.map V.int))) : Dp K H (.ref a) (dL xs) := .lst (SqL.of h) (dpAll_L xs)
theorem nI_int (xs : List Nat) : nI xs = (xs.map fun x : Nat => (x : Int)).map V.int := by
  unfold nI
  rw [List.map_map]
  rfl
/-! ### the box -/
def Bx (H : Hp) (b c : Addr) : Prop := ∃ (ns : List Int) (d i k s : Int), H b = some (.lst [.ref c, .int d, .int i, .int k, .int s]) ∧ H c = some (.lst (ns.map V.int)) ∧ 0 ≤ d ∧ 0 ≤ i ∧ (∀ z ∈ ns, 0 ≤ z)
theorem Bx.ne {H : Hp} {b c p : Addr} (B : Bx H b c) (h : H p = none) : p ≠ b ∧ p ≠ c := by
  obtain ⟨ns, d, i, k, s, h1, h2, _⟩ := B
  exact ⟨(fun e => by rw [e, h1] at h; cases h), (fun e => by rw [e, h2] at h; cases h)⟩
theorem Bx.bc {H : Hp} {b c : Addr} (B : Bx H b c) : b ≠ c := by
  obtain ⟨ns, d, i, k, s, h1, h2, _⟩ := B
  intro e
  rw [e, h2] at h1
  have h3 := HO.lst.inj (Option.some.inj h1)
  cases ns with
  | nil => cases h3
  | cons a l => cases h3
theorem Bx.keep {H H' : Hp} {b c : Addr} (B : Bx H b c) (h1 : ∀ o, H b = some o → H' b = some o) (h2 : ∀ o, H c = some o → H' c = some o) : Bx H' b c := by
  obtain ⟨ns, d, i, k, s, a1, a2, q⟩ := B
  exact ⟨ns, d, i, k, s, h1 _ a1, h2 _ a2, q⟩
theorem Bx.ex {H H' : Hp} {b c : Addr} (e : Ex H H') (B : Bx H b c) : Bx H' b c := B.keep (e b) (e c)
def spBox (K : PySem.W.Frag) : Sp := fun vs H Q _ => ∃ (a : Addr) (ns : List Int), vs = [.ref a] ∧ SqL K H a (ns.map V.int) ∧ ∀ b c H', H b = none → H c = none → Ex H H' → Bx H' b c → Q (.ref b) H'
def spDr : Sp := fun vs H Q _ => ∃ (b c : Addr) (n : Nat), vs = [.ref b, .int (n : Int)] ∧ 0 < n ∧ n ≤ 100 ∧ Bx H b c ∧ ∀ (d : Nat) H', d < n → Bx H' b c → Mut b H H' → Q (.int d) H'
/-! ### books -/
inductive BK | pair | slot | parity | ring
def clB (A : Ad) : BK → Addr | .pair => A.PairBook | .slot => A.SlotBook | .parity => A.ParityBook | .ring => A.RingBook
def crB (A : Ad) : BK → Addr | .pair => A.m_pair_crowd | .slot => A.m_slot_crowd | .parity => A.m_parity_crowd | .ring => A.m_ring_crowd
def lstB : BK → Nat | .pair => 1 | .slot => 1 | .parity => 3 | .ring => 3
def fsB (n : Nat) (o : Bool) : BK → List (Str × V) | .pair => [("size", .int (n : Int))] | .slot => [("size", .int (n : Int))] | .parity => [("size", .int (n : Int)), ("odd", .bl o)] | .ring => [("size", .int (n : Int)), ("odd", .bl o)]
def noC (n : Nat) : BK → Bool | .pair => true | .slot => decide (n < 4) | .parity => decide (n < 6) | .ring => decide (n < 6)
def crdB (n : Nat) (o : Bool) : BK → Crd | .pair => ([], [], []) | .slot => slotC n | .parity => parC n o | .ring => ringC n
section
variable {K : PySem.W.Frag} {mg : Str → Option Value} {A : Ad}
theorem cls_B (T : Txt K mg A) : ∀ i, Cls K (clB A i) | .pair => T.c_PairBook | .slot => T.c_SlotBook | .parity => T.c_ParityBook | .ring => T.c_RingBook
theorem mt_B (T : Txt K mg A) : ∀ i, Meth K (clB A i) "crowd" (crB A i) | .pair => T.mt_PairBook | .slot => T.mt_SlotBook | .parity => T.mt_ParityBook | .ring => T.mt_RingBook
theorem co_B (T : Txt K mg A) : ∀ i, ∃ u, Con K (clB A i) "LEAST" (.int (lstB i : Int)) u | .pair => T.co_PairBook | .slot => T.co_SlotBook | .parity => T.co_ParityBook | .ring => T.co_RingBook
theorem ns_B (T : Txt K mg A) : ∀ i, NoAttr K (clB A i) "size" | .pair => T.nsize_PairBook | .slot => T.nsize_SlotBook | .parity => T.nsize_ParityBook | .ring => T.nsize_RingBook
theorem no_B (T : Txt K mg A) : ∀ i, NoAttr K (clB A i) "odd" | .pair => T.nodd_PairBook | .slot => T.nodd_SlotBook | .parity => T.nodd_ParityBook | .ring => T.nodd_RingBook
end
def BookAt (A : Ad) (H : Hp) (b : Addr) (i : BK) (n : Nat) (o : Bool) : Prop := ∃ dx, H b = some (.ins (clB A i) dx (fsB n o i))
def spBi (A : Ad) : Sp := fun vs H Q _ => ∃ (u dx : Addr) (n : Nat) (i : BK), vs = [.ref u, .int (n : Int)] ∧ H u = some (.ins (clB A i) dx []) ∧ lstB i ≤ n ∧ ∀ H', (∀ x o, x ≠ u → H x = some o → H' x = some o) → H' u = some (.ins (clB A i) dx [("size", .int (n : Int))]) → Q .non H'
def spPi (A : Ad) : Sp := fun vs H Q _ => ∃ (u dx : Addr) (n : Nat) (o : Bool) (i : BK), vs = [.ref u, .int (n : Int), .bl o] ∧ (i = .parity ∨ i = .ring) ∧ H u = some (.ins (clB A i) dx []) ∧ 3 ≤ n ∧ ∀ H', (∀ x o, x ≠ u → H x = some o → H' x = some o) → H' u = some (.ins (clB A i) dx [("size", .int (n : Int)), ("odd", .bl o)]) → Q .non H'
def spRi (A : Ad) : Sp := fun vs H Q _ => ∃ (u dx : Addr) (n : Nat), vs = [.ref u, .int (n : Int)] ∧ H u = some (.ins (clB A .ring) dx []) ∧ 3 ≤ n ∧ ∀ o H', (∀ x o, x ≠ u → H x = some o → H' x = some o) → H' u = some (.ins (clB A .ring) dx [("size", .int (n : Int)), ("odd", .bl o)]) → Q .non H'
/-! ### rows of rows -/
def LL (H0 H : Hp) (p : Addr) (rows : List (List Nat)) : Prop := ∃ qs : List Addr, H0 p = none ∧ H p = some (.lst (qs.map V.ref)) ∧ qs.length = rows.length ∧ (∀ q ∈ qs, H0 q = none ∧ q ≠ p) ∧ ∀ (i : Nat) (q : Addr) (r : List Nat), qs[i]? = some q → rows[i]? = some r → ListN H q r
theorem LL.ex {H0 H H1 : Hp} {p : Addr} {rows : List (List Nat)} (e : Ex H H1) (h : LL H0 H p rows) : LL H0 H1 p rows := by
  obtain ⟨qs, a0, a, l, n, k⟩ := h
  exact ⟨qs, a0, e _ _ a, l, n, fun i q r h1 h2 => (k i q r h1 h2).ex e⟩
theorem LL.old {H0 H1 H : Hp} {p : Addr} {rows : List (List Nat)} (e : Ex H0 H1) (h : LL H1 H p rows) : LL H0 H p rows := by
  obtain ⟨qs, a0, a, l, n, k⟩ := h
  exact ⟨qs, back_none e a0, a, l, fun q hq => ⟨back_none e (n q hq).1, (n q hq).2⟩, k⟩
theorem LL.nil {H0 H : Hp} {p : Addr} (h0 : H0 p = none) (h : H p = some (.lst [])) : LL H0 H p [] := ⟨[], h0, h, rfl, (fun q hq => by cases hq), fun i q r h1 _ => by cases h1⟩
theorem LL.app {H0 H : Hp} {p q : Addr} {rows : List (List Nat)} {r : List Nat} (h : LL H0 H p rows) (h0 : H0 q = none) (ne : q ≠ p) (hq : ListN H q r) : ∃ acc, H p = some (.lst acc) ∧ acc.length = rows.length ∧ LL H0 (upd H p (.lst (acc ++ [V.ref q]))) p (rows ++ [r]) := by
  obtain ⟨qs, a0, a, l, n, k⟩ := h
  refine ⟨_, a, by rw [List.length_map, l], qs ++ [q], a0, by rw [upd_same, List.map_append]; rfl, by rw [List.length_append, List.length_append, l]; rfl, fun x hx => ?_, fun i x y h1 h2 => ?_⟩
  · rcases List.mem_append.mp hx with h | h
    · exact n x h
    · rw [List.mem_singleton.mp h]
      exact ⟨h0, ne⟩
  · have lt := (List.getElem?_eq_some_iff.mp h1).1
    rw [List.length_append] at lt
    by_cases c : i < qs.length
    · rw [List.getElem?_append_left c] at h1
      rw [List.getElem?_append_left (by omega)] at h2
      have m : x ∈ qs := List.mem_of_getElem? h1
      show upd H p _ x = _
      rw [upd_ne (n x m).2]
      exact k i x y h1 h2
    · have ei : i = qs.length := by have : [q].length = 1 := rfl; omega
      subst ei
      rw [List.getElem?_append_right (Nat.le_refl _), Nat.sub_self] at h1
      rw [List.getElem?_append_right (by omega), l, Nat.sub_self] at h2
      cases h1
      cases h2
      show upd H p _ q = _
      rw [upd_ne ne]
      exact hq
theorem take_map1 {α β : Type} {l : List α} {j : Nat} {x : α} (f : α → β) (h : l[j]? = some x) : (l.take (j + 1)).map f = (l.take j).map f ++ [f x] := by
  rw [List.take_add_one, h, List.map_append]
  rfl
/-- a comprehension over rows: row by row a new row -/
theorem rows_tup {K : PySem.W.Frag} {ta te : TE} {s : Nat} {vs : List Nat} {σ : L2.St} {H : Hp} {Q : VK} {a : Addr} {ps : List Addr} {rows : List (List Nat)} (f : List Nat → List Nat) (ha : ∀ Q : VK, Q (.ref a) H → ta σ H Q) (hs : ∀ G, Ex H G → SqT K G a (ps.map V.ref)) (lp : ps.length = rows.length) (l9 : rows.length ≤ 900) (hw : ∀ x, L2.wipe ((L2.wipe σ vs).set s x) vs = L2.wipe σ vs)
    (step : ∀ (j : Nat) (q : Addr) (r : List Nat) (G : Hp) (Q : VK), ps[j]? = some q → rows[j]? = some r → Ex H G → (∀ t G', G t = none → Ex G G' → ListN G' t (f r) → Q (.ref t) G') → te ((L2.wipe σ vs).set s (some (.ref q))) G Q)
    (k : ∀ D G, H D = none → Ex H G → LL H G D (rows.map f) → Q (.ref D) G) : tLc (iTup K ta) (gName s) tYes te vs σ H Q := by
  refine ha _ ⟨a, rfl, ⟨_, hs H (Ex.refl H)⟩, fun D hD => lc_tup (K := K) (a := a) (xs := ps.map V.ref) (fun j G => Ex H G ∧ LL H G D ((rows.take j).map f)) ⟨Ex.new hD, LL.nil hD upd_same⟩ (fun j G _ q => hs G q.1) ?_ ?_⟩
  · rintro j x G hx ⟨eG, gD⟩
    obtain ⟨q, hq, rfl⟩ := ref_at hx
    have jl : j < rows.length := by rw [← lp]; exact (List.getElem?_eq_some_iff.mp hq).1
    have hr : rows[j]? = some rows[j] := List.getElem?_eq_getElem jl
    refine ⟨hw _, ?_⟩
    refine step j q _ G _ hq hr eG fun t G' ht e1 h1 => ?_
    have tD : t ≠ D := fun z => by obtain ⟨qs, a0, a, _⟩ := gD; rw [z, a] at ht; cases ht
    obtain ⟨acc, g1, g2, g3⟩ := LL.app (gD.ex e1) (back_none eG ht) tD h1
    refine ⟨acc, g1, small1000 (by rw [g2, List.length_map, List.length_take]; omega), fun y o ho => ?_, ?_⟩
    · rw [upd_ne (ne_of_none ho hD)]
      exact e1 _ _ (eG _ _ ho)
    · rw [take_map1 f hr]
      exact g3
  · rintro G ⟨eG, gD⟩
    rw [List.length_map, lp, List.take_length] at gD
    exact k D G hD eG gD
theorem rows_list {K : PySem.W.Frag} {ta te : TE} {s : Nat} {vs : List Nat} {σ : L2.St} {H : Hp} {Q : VK} {a : Addr} {ps : List Addr} {rows : List (List Nat)} (f : List Nat → List Nat) (ha : ∀ Q : VK, Q (.ref a) H → ta σ H Q) (hs : ∀ G, Ex H G → SqL K G a (ps.map V.ref)) (lp : ps.length = rows.length) (l9 : rows.length ≤ 900) (hw : ∀ x, L2.wipe ((L2.wipe σ vs).set s x) vs = L2.wipe σ vs)
    (step : ∀ (j : Nat) (q : Addr) (r : List Nat) (G : Hp) (Q : VK), ps[j]? = some q → rows[j]? = some r → Ex H G → (∀ t G', G t = none → Ex G G' → ListN G' t (f r) → Q (.ref t) G') → te ((L2.wipe σ vs).set s (some (.ref q))) G Q)
    (k : ∀ D G, H D = none → Ex H G → LL H G D (rows.map f) → Q (.ref D) G) : tLc (iList K ta) (gName s) tYes te vs σ H Q := by
  refine ha _ ⟨a, rfl, ⟨_, hs H (Ex.refl H)⟩, fun D hD => lc_list (K := K) (a := a) (xs := ps.map V.ref) (fun j G => Ex H G ∧ LL H G D ((rows.take j).map f)) ⟨Ex.new hD, LL.nil hD upd_same⟩ (fun j G _ q => hs G q.1) ?_ ?_⟩
  · rintro j x G hx ⟨eG, gD⟩
    obtain ⟨q, hq, rfl⟩ := ref_at hx
    have jl : j < rows.length := by rw [← lp]; exact (List.getElem?_eq_some_iff.mp hq).1
    have hr : rows[j]? = some rows[j] := List.getElem?_eq_getElem jl
    refine ⟨hw _, ?_⟩
    refine step j q _ G _ hq hr eG fun t G' ht e1 h1 => ?_
    have tD : t ≠ D := fun z => by obtain ⟨qs, a0, a, _⟩ := gD; rw [z, a] at ht; cases ht
    obtain ⟨acc, g1, g2, g3⟩ := LL.app (gD.ex e1) (back_none eG ht) tD h1
    refine ⟨acc, g1, small1000 (by rw [g2, List.length_map, List.length_take]; omega), fun y o ho => ?_, ?_⟩
    · rw [upd_ne (ne_of_none ho hD)]
      exact e1 _ _ (eG _ _ ho)
    · rw [take_map1 f hr]
      exact g3
  · rintro G ⟨eG, gD⟩
    rw [List.length_map, lp, List.take_length] at gD
    exact k D G hD eG gD
theorem rgvN (a b : Nat) : rgV (a : Int) (b : Int) = nI (rng a b) := by
  unfold rgV nI rng
  rw [List.map_map]
  have h : ((b : Int) - (a : Int)).toNat = b - a := by omega
  rw [h]
  refine List.map_congr_left fun i _ => ?_
  show V.int ((a : Int) + (i : Int)) = V.int ((i + a : Nat) : Int)
  congr 1
  omega
theorem rng_len (a b : Nat) : (rng a b).length = b - a := by
  unfold rng
  rw [List.length_map, List.length_range]
theorem nI_cat (xs ys : List Nat) : nI (xs ++ ys) = nI xs ++ nI ys := List.map_append ..
def CrdAt (H0 H : Hp) (t : Addr) (c : Crd) : Prop := ∃ i a b : Addr, H t = some (.tup [.ref i, .ref a, .ref b]) ∧ H0 i = none ∧ ListN H i c.1 ∧ LL H0 H a c.2.1 ∧ LL H0 H b c.2.2
def spCrw (A : Ad) (i : BK) : Sp := fun vs H Q _ => ∃ (u dx : Addr) (n : Nat) (o : Bool), vs = [.ref u] ∧ H u = some (.ins (clB A i) dx (fsB n o i)) ∧ n < 41 ∧ (noC n i = true → ∀ H', Ex H H' → Q .non H') ∧ (noC n i = false → ∀ t H', Ex H H' → CrdAt H H' t (crdB n o i) → Q (.ref t) H')
def spSc : Sp := fun vs H Q _ => ∃ n : Nat, vs = [.int (n : Int)] ∧ 4 ≤ n ∧ n < 41 ∧ ∀ t H', Ex H H' → CrdAt H H' t (slotC n) → Q (.ref t) H'
def spRc : Sp := fun vs H Q _ => ∃ n : Nat, vs = [.int (n : Int)] ∧ 6 ≤ n ∧ n < 41 ∧ ∀ t H', Ex H H' → CrdAt H H' t (ringC n) → Q (.ref t) H'
def spLg (K : PySem.W.Frag) : Sp := fun vs H Q _ => ∃ (p : Addr) (row : List Nat) (n : Nat), vs = [.ref p, .int (n : Int)] ∧ (∀ H, SqT K H p (nI row)) ∧ row.length ≤ n ∧ n < 41 ∧ ∀ q H', H q = none → Ex H H' → ListN H' q (lenG row n) → Q (.ref q) H'
def Good (row : List Nat) : Prop := row.length < 41 ∧ ∀ x ∈ row, x < row.length
theorem rowOk_iff {n : Nat} {row : List Nat} (h : rowOk n row = true) : row.length = n ∧ ∀ x ∈ row, x < n := by
  unfold rowOk at h
  rw [Bool.and_eq_true] at h
  exact ⟨of_decide_eq_true h.1, fun x hx => of_decide_eq_true (List.all_eq_true.mp h.2 x hx)⟩
theorem good_of {n : Nat} {row : List Nat} (h : rowOk n row = true) (n41 : n < 41) : Good row := by
  obtain ⟨h1, h2⟩ := rowOk_iff h
  exact ⟨by omega, fun x hx => by rw [h1]; exact h2 x hx⟩
theorem four_iff {w n : Nat} {rows : List (List Nat)} (h : fourOk w n rows = true) : rows.length = 4 ∧ ∀ r ∈ rows, rowOk n r = true ∧ stOk w r = true := by
  unfold fourOk at h
  rw [Bool.and_eq_true] at h
  refine ⟨of_decide_eq_true h.1, fun r hr => ?_⟩
  have := List.all_eq_true.mp h.2 r hr
  rwa [Bool.and_eq_true] at this
structure OkC (w n : Nat) (c : Crd) : Prop where
  r : rowOk n c.1 = true
  f1 : fourOk w n c.2.1 = true
  j1 : jointOk w c.2.1 = true
  c1 : comesOk c.1 c.2.1 = true
  f2 : fourOk w n c.2.2 = true
  j2 : jointOk w c.2.2 = true
  c2 : comesOk c.1 c.2.2 = true
  d : ∀ r ∈ c.2.1, c.2.2.contains r = false
theorem okc {w n : Nat} {c : Crd} (h : okC w n c = true) : OkC w n c := by
  unfold okC at h
  simp only [Bool.and_eq_true] at h
  obtain ⟨⟨⟨⟨⟨⟨⟨h1, h2⟩, h3⟩, h4⟩, h5⟩, h6⟩, h7⟩, h8⟩ := h
  exact ⟨h1, h2, h3, h4, h5, h6, h7, fun r hr => by have := List.all_eq_true.mp h8 r hr; rwa [Bool.not_eq_true'] at this⟩
def spCo : Sp := fun vs H Q _ => ∃ (p : Addr) (row : List Nat), vs = [.ref p] ∧ ListN H p row ∧ Good row ∧ ∀ q H' (xs : List V), H q = none → Ex H H' → H' q = some (.lst xs) → xs.length = cyc row → Q (.ref q) H'
def spOd : Sp := fun vs H Q _ => ∃ (p : Addr) (row : List Nat), vs = [.ref p] ∧ ListN H p row ∧ Good row ∧ ∀ H', Ex H H' → Q (.bl (oddR row)) H'
def spWx : Sp := fun vs H Q _ => ∃ (p : Addr) (row : List Nat), vs = [.ref p] ∧ ListN H p row ∧ row.length < 41 ∧ ∀ q H', H q = none → Ex H H' → ListN H' q (exch row) → Q (.ref q) H'
def spEx : Sp := fun vs H Q _ => ∃ (p : Addr) (row : List Nat), vs = [.ref p, .int 0, .int 1] ∧ ListN H p row ∧ row.length < 41 ∧ ∀ q H', H q = none → Ex H H' → ListN H' q (exch row) → Q (.ref q) H'
theorem joint_iff {w : Nat} {rows : List (List Nat)} (h : jointOk w rows = true) : ∃ a b c d, rows = [a, b, c, d] ∧ (slotsF a b).length = safeN w ∧ (slotsF a c).length = safeN w ∧ (∀ x ∈ slotsF a b, (slotsF a c).contains x = false) ∧ d = dueF a b c ∧ b.length = a.length ∧ c.length = a.length := by
  match rows, h with
  | [a, b, c, d], h =>
    have h : (decide ((slotsF a b).length = safeN w) && decide ((slotsF a c).length = safeN w) && ((slotsF a b).all fun x => !(slotsF a c).contains x) && decide (d = dueF a b c) && decide (b.length = a.length) && decide (c.length = a.length)) = true := h
    simp only [Bool.and_eq_true, decide_eq_true_eq] at h
    obtain ⟨⟨⟨⟨⟨h1, h2⟩, h3⟩, h4⟩, h5⟩, h6⟩ := h
    exact ⟨a, b, c, d, rfl, h1, h2, fun x hx => by have := List.all_eq_true.mp h3 x hx; rwa [Bool.not_eq_true'] at this, h4, h5, h6⟩
  | [], h => cases h
  | [_], h => cases h
  | [_, _], h => cases h
  | [_, _, _], h => cases h
  | _ :: _ :: _ :: _ :: _ :: _, h => cases h
/-- due, with these slots told -/
def upF (n : Nat) (f g : Nat → Nat) (ls : List Nat) : List Nat := (List.range n).map fun x => if ls.contains x then g x else f x
theorem upF_nil (n : Nat) (f g : Nat → Nat) : upF n f g [] = (List.range n).map f := rfl
theorem upF_len (n : Nat) (f g : Nat → Nat) (ls : List Nat) : (upF n f g ls).length = n := by
  unfold upF
  rw [List.length_map, List.length_range]
theorem upF_set {n x : Nat} {f g : Nat → Nat} {ls : List Nat} : (nI (upF n f g ls)).set x (V.int (g x : Int)) = nI (upF n f g (ls ++ [x])) := by
  unfold nI
  rw [show V.int (g x : Int) = (fun z : Nat => V.int (z : Int)) (g x) from rfl, ← List.map_set]
  congr 1
  unfold upF
  apply List.ext_getElem?
  intro i
  rw [List.getElem?_set, List.getElem?_map, List.getElem?_map, List.length_map, List.length_range]
  by_cases e : x = i
  · subst e
    rw [if_pos rfl]
    by_cases l : x < n
    · rw [if_pos l, List.getElem?_range l]
      show some (g x) = some (if (ls ++ [x]).contains x = true then g x else f x)
      rw [if_pos (by simp)]
    · rw [if_neg l, List.getElem?_eq_none (by rw [List.length_range]; omega)]
      rfl
  · rw [if_neg e]
    by_cases l : i < n
    · rw [List.getElem?_range l]
      show some (if ls.contains i = true then g i else f i) = some (if (ls ++ [x]).contains i = true then g i else f i)
      have : (ls ++ [x]).contains i = ls.contains i := by
        rw [Bool.eq_iff_iff]
        simp
        omega
      rw [this]
    · rw [List.getElem?_eq_none (by rw [List.length_range]; omega)]
      rfl
theorem mem_slots {a b : List Nat} {x : Nat} : (slotsF a b).contains x = true ↔ x < a.length ∧ b.getD x 0 ≠ a.getD x 0 := by
  unfold slotsF
  rw [List.contains_iff_mem, List.mem_filter, List.mem_range, decide_eq_true_iff]
theorem range_self (a : List Nat) : (List.range a.length).map (fun x => a.getD x 0) = a := by
  apply List.ext_getElem?
  intro i
  rw [List.getElem?_map]
  by_cases l : i < a.length
  · rw [List.getElem?_range l]
    exact (getD_some9 l).symm
  · rw [List.getElem?_eq_none (by rw [List.length_range]; omega), List.getElem?_eq_none (by omega)]
    rfl
theorem due_is {a b c : List Nat} : upF a.length (fun x => if (slotsF a b).contains x then b.getD x 0 else a.getD x 0) (fun x => c.getD x 0) (slotsF a c) = dueF a b c := by
  unfold upF dueF
  refine List.map_congr_left fun x hx => ?_
  have l := List.mem_range.mp hx
  by_cases h : c.getD x 0 ≠ a.getD x 0
  · rw [if_pos h, if_pos (mem_slots.mpr ⟨l, h⟩)]
  · rw [if_neg h, if_neg (fun z => h (mem_slots.mp z).2)]
    by_cases h2 : b.getD x 0 ≠ a.getD x 0
    · exact if_pos (mem_slots.mpr ⟨l, h2⟩)
    · show (if (slotsF a b).contains x = true then b.getD x 0 else a.getD x 0) = _
      rw [if_neg (fun z => h2 (mem_slots.mp z).2)]
      exact (Classical.not_not.mp h2).symm
theorem rep_bl (n : Nat) : (List.replicate ((n : Int)).toNat [V.bl false]).flatten = (List.replicate n false).map V.bl := by
  rw [Int.toNat_natCast]
  induction n with
  | zero => rfl
  | succ n ih =>
    rw [List.replicate_succ, List.replicate_succ, List.flatten_cons, ih]
    rfl
theorem ixB {seen : List Bool} {j : Nat} (h : j < seen.length) : atI (seen.map V.bl) (j : Int) = some (V.bl (seen.getD j true)) := by
  refine atI_nat ?_
  rw [List.getElem?_map, List.getD_eq_getElem?_getD, List.getElem?_eq_getElem h]
  rfl
theorem walk_end {row : List Nat} {seen : List Bool} {x : Nat} (h : seen.getD x true = true) : ∀ k, walk row k seen x = seen
  | 0 => rfl
  | k + 1 => by
    unfold walk
    rw [if_pos h]
theorem good_at {row : List Nat} (g : Good row) {x : Nat} (h : x < row.length) : row.getD x 0 < row.length := by
  have := g.2 (row.getD x 0) (by rw [List.getD_eq_getElem?_getD, List.getElem?_eq_getElem h]; exact List.getElem_mem h)
  exact this
/-! ### rows as data -/
def dN (xs : List Nat) : PyData := dL (xs.map fun x : Nat => (x : Int))
theorem lay_N (xs : List Nat) : Lay 2 (dN xs) := lay_L _
theorem dp_N {K : PySem.W.Frag} {H : Hp} {a : Addr} {xs : List Nat} (h : ListN H a xs) : Dp K H (.ref a) (dN xs) := dp_L (by rw [← nI_int]; exact h)
theorem eqv_ints : ∀ xs ys : List Int, PyData.eqvAll (xs.map PyData.int) (ys.map PyData.int) = decide (xs = ys)
  | [], [] => rfl
  | [], _ :: _ => rfl
  | _ :: _, [] => rfl
  | x :: xs, y :: ys => by
    show PyData.eqvAll (PyData.int x :: xs.map PyData.int) (PyData.int y :: ys.map PyData.int) = _
    rw [PyData.eqvAll, eqv_ints xs ys, PyData.eqv, Bool.eq_iff_iff]
    simp
theorem eqv_N (xs ys : List Nat) : PyData.eqv (dN xs) (dN ys) = decide (xs = ys) := by
  unfold dN dL
  rw [PyData.eqv, eqv_ints, decide_eq_decide]
  exact List.map_inj_right fun a b h => by omega
theorem dpAll_R {K : PySem.W.Frag} {H : Hp} : ∀ (qs : List Addr) (rows : List (List Nat)), qs.length = rows.length → (∀ (i : Nat) (q : Addr) (r : List Nat), qs[i]? = some q → rows[i]? = some r → ListN H q r) → DpAll K H (qs.map V.ref) (rows.map dN)
  | [], [], _, _ => .nil
  | [], _ :: _, h, _ => by cases h
  | _ :: _, [], h, _ => by cases h
  | q :: qs, r :: rows, h, k => .cons (dp_N (k 0 q r rfl rfl)) (dpAll_R qs rows (by simpa using h) fun i a b h1 h2 => k (i + 1) a b h1 h2)
theorem LL.dp {K : PySem.W.Frag} {H0 H : Hp} {p : Addr} {rows : List (List Nat)} (h : LL H0 H p rows) : Dp K H (.ref p) (.list (rows.map dN)) := by
  obtain ⟨qs, a0, a, l, n, k⟩ := h
  exact .lst (SqL.of a) (dpAll_R qs rows l k)
theorem lay_R (rows : List (List Nat)) : Lay 3 (.list (rows.map dN)) := LayA.list (LayA.map fun r _ => lay_N r)
theorem in_R (rows : List (List Nat)) (r : List Nat) : ((rows.map dN).any fun z => PyData.eqv z (dN r)) = rows.contains r := by
  induction rows with
  | nil => rfl
  | cons x l ih =>
    rw [List.map_cons, List.any_cons, ih, eqv_N, List.contains_cons]
    congr 1
    rw [Bool.eq_iff_iff, decide_eq_true_iff, beq_iff_eq]
    exact ⟨Eq.symm, Eq.symm⟩
theorem st_perm {w : Nat} {row : List Nat} (h : stOk w row = true) : row.Perm (List.range row.length) := by
  unfold stOk at h
  rw [Bool.and_eq_true] at h
  exact List.isPerm_iff.mp h.1
theorem st_fin {w : Nat} {row : List Nat} (h : stOk w row = true) : if w = 4 then cyc row = 1 else (w = 1 ∨ (row.length - cyc row) % 2 = if w = 3 then 1 else 0) := by
  unfold stOk at h
  rw [Bool.and_eq_true] at h
  have h := h.2
  by_cases c : w = 4
  · rw [if_pos c] at h ⊢
    exact of_decide_eq_true h
  · rw [if_neg c] at h ⊢
    rw [Bool.or_eq_true] at h
    rcases h with h | h
    · exact .inl (of_decide_eq_true h)
    · exact .inr (of_decide_eq_true h)
theorem sorted_is {row : List Nat} {ns : List Int} (hp : ns.Perm (row.map fun x : Nat => (x : Int))) (hs : ns.Pairwise (· ≤ ·)) (h : row.Perm (List.range row.length)) : ns = (List.range row.length).map fun x : Nat => (x : Int) := by
  refine List.Perm.eq_of_pairwise (fun a b _ _ h1 h2 => Int.le_antisymm h1 h2) hs ?_ (hp.trans (h.map _))
  rw [List.pairwise_map]
  refine List.Pairwise.imp ?_ List.pairwise_lt_range
  intro a b hab
  omega
theorem units65R {k : Nat} {A : Around} (r : Room k A) : A.units + 65 < cLine := by have := r.un; omega
theorem mkEx {H H' : Hp} {x dx : Addr} {o1 o2 : HO} (hx : H x = none) (hdx : H dx = none) (k1 : ∀ y o, y ≠ x → upd (upd H dx o1) x o2 y = some o → H' y = some o) : Ex H H' := fun y o h => k1 y o (ne_of_none h hx) (by rw [upd_ne (ne_of_none h hx), upd_ne (ne_of_none h hdx)]; exact h)
theorem rgN0 (n : Nat) : rgV 0 (n : Int) = nI (List.range n) := by
  unfold rgV nI
  have h : ((n : Int) - 0).toNat = n := by omega
  rw [h]
  refine List.map_congr_left fun i _ => ?_
  show V.int ((0 : Int) + (i : Int)) = _
  rw [Int.zero_add]
theorem range_filt (q : Nat → Bool) (j : Nat) : (List.range (j + 1)).filter q = (List.range j).filter q ++ (if q j = true then [j] else []) := by
  rw [List.range_succ, List.filter_append, List.filter_cons]
  rfl
/-! ### the law's own -/
def wb : Nat → BK | 0 => .pair | 1 => .slot | 2 => .parity | 3 => .parity | _ => .ring
def BkW (A : Ad) (H : Hp) (b : Addr) (w n : Nat) : Prop := ∃ o, BookAt A H b (wb w) n o ∧ (w = 2 → o = false) ∧ (w = 3 → o = true)
def lsW (w : Nat) : Nat := if 1 < w then 3 else 1
theorem CrdAt.ex {H0 H H1 : Hp} {t : Addr} {c : Crd} (e : Ex H H1) (h : CrdAt H0 H t c) : CrdAt H0 H1 t c := by
  obtain ⟨i, a, b, h1, h2, h3, h4, h5⟩ := h
  exact ⟨i, a, b, e _ _ h1, h2, h3.ex e, h4.ex e, h5.ex e⟩
theorem look_crowd {n : Nat} {o : Bool} : ∀ i, (fsB n o i).lookup ("crowd" : Str) = none
  | .pair => rfl
  | .slot => rfl
  | .parity => rfl
  | .ring => rfl
theorem noC_w {w n : Nat} (h : w < 5) : noC n (wb w) = (decide (w = 0) || decide (n < leastC w)) := by
  have hw : w = 0 ∨ w = 1 ∨ w = 2 ∨ w = 3 ∨ w = 4 := by omega
  rcases hw with rfl | rfl | rfl | rfl | rfl <;> rfl
theorem crdB_w {w n : Nat} {o : Bool} (h0 : w ≠ 0) (h : w < 5) (h2 : w = 2 → o = false) (h3 : w = 3 → o = true) : crdB n o (wb w) = crdW w n := by
  have hw : w = 1 ∨ w = 2 ∨ w = 3 ∨ w = 4 := by omega
  rcases hw with rfl | rfl | rfl | rfl
  · rfl
  · rw [h2 rfl]; rfl
  · rw [h3 rfl]; rfl
  · rfl
structure FrW (H G : Hp) (qs : List Addr) (a b : Addr) (xa xb : List V) (n m : Nat) : Prop where
  ex : Ex H G
  a : G a = some (.lst xa)
  b : G b = some (.lst xb)
  q : ∀ q ∈ qs, ∃ ls : List V, G q = some (.lst ls) ∧ n ≤ ls.length ∧ ls.length ≤ n + m
theorem FrW.step {H G : Hp} {qs : List Addr} {a b q : Addr} {xa xb ls : List V} {n m j : Nat} {v u : V} (F : FrW H G qs a b xa xb n m) (h0 : H q = none) (na : q ≠ a) (nb : q ≠ b) (l1 : n ≤ ls.length) (l2 : ls.length ≤ n + m) : FrW H (upd (upd G q (.lst (ls.set j v))) q (.lst (ls.set j v ++ [u]))) qs a b xa xb n (m + 1) := by
  refine ⟨fun y o h => ?_, ?_, ?_, fun x hx => ?_⟩
  · rw [upd_ne (ne_of_none h h0), upd_ne (ne_of_none h h0)]
    exact F.ex _ _ h
  · rw [upd_ne na.symm, upd_ne na.symm]
    exact F.a
  · rw [upd_ne nb.symm, upd_ne nb.symm]
    exact F.b
  · by_cases e : x = q
    · subst e
      exact ⟨_, upd_same, by rw [List.length_append, List.length_set]; omega, by rw [List.length_append, List.length_set]; show _ + 1 ≤ _; omega⟩
    · obtain ⟨l, g1, g2, g3⟩ := F.q x hx
      exact ⟨l, by rw [upd_ne e, upd_ne e]; exact g1, g2, by omega⟩
theorem ne_rows {H : Hp} {q a : Addr} {r : List Nat} {qs : List Addr} (h : ListN H q r) (hr : 0 < r.length) (ha : H a = some (.lst (qs.map V.ref))) : q ≠ a := by
  intro e
  have h1 : H q = _ := h
  rw [e, ha] at h1
  have h2 := HO.lst.inj (Option.some.inj h1)
  cases r with
  | nil => cases hr
  | cons x l =>
    cases qs with
    | nil => cases h2
    | cons y m =>
      have h3 := (List.cons.inj h2).1
      cases h3
def Ent (A : Ad) (G : Hp) (x t : Addr) : Prop := ∃ w n : Nat, G t = some (.tup [.int (w : Int), .int (n : Int)]) ∧ w < 5 ∧ lsW w ≤ n ∧ n < 41 ∧ BkW A G x w n
theorem Ent.keep {A : Ad} {G G' : Hp} {x t : Addr} (h : Ent A G x t) (h1 : ∀ o, G t = some o → G' t = some o) (h2 : ∀ o, G x = some o → G' x = some o) : Ent A G' x t := by
  obtain ⟨w, n, a, b, c, d, o, ⟨dx, e⟩, f⟩ := h
  exact ⟨w, n, h1 _ a, b, c, d, o, ⟨dx, h2 _ e⟩, f⟩
theorem Ent.ne {A : Ad} {G : Hp} {x t p : Addr} {xs : List V} (h : Ent A G x t) (hp : G p = some (.lst xs)) : x ≠ p ∧ t ≠ p := by
  obtain ⟨w, n, a, b, c, d, o, ⟨dx, e⟩, f⟩ := h
  exact ⟨(fun z => by rw [z, hp] at e; cases e), (fun z => by rw [z, hp] at a; cases a)⟩
theorem Bx.lst {H : Hp} {b c : Addr} (B : Bx H b c) : ∃ xs, H b = some (.lst xs) := by
  obtain ⟨ns, d, i, k, s, h1, _⟩ := B
  exact ⟨_, h1⟩
def spBk (A : Ad) : Sp := fun vs H Q _ => ∃ w n : Nat, vs = [.int (w : Int), .int (n : Int)] ∧ w < 5 ∧ lsW w ≤ n ∧ n < 41 ∧ ∀ b H', H b = none → Ex H H' → BkW A H' b w n → Q (.ref b) H'
def spSz : Sp := fun vs H Q _ => ∃ (b c : Addr) (w : Nat), vs = [.ref b, .int (w : Int)] ∧ w < 5 ∧ Bx H b c ∧ ∀ (n : Nat) H', lsW w ≤ n → n < 41 → Bx H' b c → Mut b H H' → Q (.int (n : Int)) H'
def spCi : Sp := fun vs H Q _ => ∃ (p : Addr) (row : List Nat), vs = [.ref p] ∧ ListN H p row ∧ Good row ∧ ∀ H', Ex H H' → Q (.int (cyc row : Int)) H'
def spIs : Sp := fun vs H Q _ => ∃ (p : Addr) (w : Nat) (row : List Nat), vs = [.int (w : Int), .ref p] ∧ 1 ≤ w ∧ w ≤ 4 ∧ ListN H p row ∧ Good row ∧ stOk w row = true ∧ ∀ H', Ex H H' → Q (.bl true) H'
def spRw : Sp := fun vs H Q _ => ∃ (p : Addr) (n : Nat) (row : List Nat), vs = [.ref p, .int (n : Int)] ∧ ListN H p row ∧ rowOk n row = true ∧ Q (.bl true) H
def spFo : Sp := fun vs H Q _ => ∃ (H0 : Hp) (p : Addr) (w n : Nat) (rows : List (List Nat)), vs = [.int (w : Int), .int (n : Int), .ref p] ∧ 1 ≤ w ∧ w ≤ 4 ∧ n < 41 ∧ LL H0 H p rows ∧ fourOk w n rows = true ∧ ∀ H', Ex H H' → Q (.bl true) H'
def spJo : Sp := fun vs H Q _ => ∃ (H0 : Hp) (p : Addr) (w n : Nat) (rows : List (List Nat)), vs = [.int (w : Int), .ref p] ∧ 1 ≤ w ∧ w ≤ 4 ∧ n < 41 ∧ LL H0 H p rows ∧ fourOk w n rows = true ∧ jointOk w rows = true ∧ ∀ H', Ex H H' → Q (.bl true) H'
def spCu : Sp := fun vs H Q _ => ∃ (H0 : Hp) (i p : Addr) (w n : Nat) (img : List Nat) (rows : List (List Nat)), vs = [.ref i, .ref p] ∧ ListN H i img ∧ LL H0 H p rows ∧ img.length = n ∧ n < 41 ∧ fourOk w n rows = true ∧ comesOk img rows = true ∧ Q (.bl true) H
def spCr : Sp := fun vs H Q _ => ∃ (H0 : Hp) (t : Addr) (w n : Nat) (c : Crd), vs = [.int (w : Int), .int (n : Int), .ref t] ∧ 1 ≤ w ∧ w ≤ 4 ∧ n < 41 ∧ CrdAt H0 H t c ∧ okC w n c = true ∧ ∀ H', Ex H H' → Q (.bl true) H'
def spAs (A : Ad) : Sp := fun vs H Q _ => ∃ (b : Addr) (w n : Nat), vs = [.ref b, .int (w : Int), .int (n : Int)] ∧ w < 5 ∧ lsW w ≤ n ∧ n < 41 ∧ BkW A H b w n ∧ ∀ H', Ex H H' → Q (.bl true) H'
def spLaw (K : PySem.W.Frag) : Sp := fun vs H Q _ => ∃ (a : Addr) (ns : List Int), vs = [.ref a] ∧ SqL K H a (ns.map V.int) ∧ ns.length ≤ 63 ∧ ∀ H', Q (.bl true) H'
/-- the two defs that say super().__init__ -/
structure SupD (P : Program) (K : PySem.W.Frag) (A : Ad) : Prop where
  tp : PySem.W.nsIn K cStatics "thirdparty.any" = some none
  p_fn : ∃ oc od kV doc pm an ct osl, K.lookup A.m_parity_init = some ⟨oc, od, .func (PySem.W.ksFn "__init__" "ParityBook.__init__" (defArgs s_m_parity_init) (defBody s_m_parity_init) (defScope s_m_parity_init) .none kV doc pm an (.ref A.cd_m_parity_init) ct A.cc_m_parity_init), osl⟩ ∧ KwdV K kV [("odd", .bl false)]
  p_code : PySem.W.codeIn K (.ref A.cd_m_parity_init) "ParityBook.__init__" = true
  p_F : SupK.SFact P K A.cd_m_parity_init A.cc_m_parity_init A.ParityBook
  p_mro1 : PySem.W.mroIn K A.ParityBook (.ref A.ParityBook) = some true
  p_mro2 : PySem.W.mroIn K A.RingBook (.ref A.ParityBook) = some true
  p_si1 : PySem.W.ks_superIn K A.ParityBook A.ParityBook "__init__" = some (some (.ref A.m_book_init))
  p_si2 : PySem.W.ks_superIn K A.RingBook A.ParityBook "__init__" = some (some (.ref A.m_book_init))
  b_fi : PySem.W.fnIn K A.m_book_init = true
  b_ty : PySem.W.typeIn K (.ref A.m_book_init) = some (.type "function")
  r_fn : ∃ oc od kV doc pm an ct osl, K.lookup A.m_ring_init = some ⟨oc, od, .func (PySem.W.ksFn "__init__" "RingBook.__init__" (defArgs s_m_ring_init) (defBody s_m_ring_init) (defScope s_m_ring_init) .none kV doc pm an (.ref A.cd_m_ring_init) ct A.cc_m_ring_init), osl⟩
  r_code : PySem.W.codeIn K (.ref A.cd_m_ring_init) "RingBook.__init__" = true
  r_F : SupK.SFact P K A.cd_m_ring_init A.cc_m_ring_init A.RingBook
  r_mro : PySem.W.mroIn K A.RingBook (.ref A.RingBook) = some true
  r_si : PySem.W.ks_superIn K A.RingBook A.RingBook "__init__" = some (some (.ref A.m_parity_init))
  q_fi : PySem.W.fnIn K A.m_parity_init = true
  q_ty : PySem.W.typeIn K (.ref A.m_parity_init) = some (.type "function")
/-- ParityBook.__init__, called by places alone and with odd = .. -/
def OkPar (P : Program) (w : World) (K : PySem.W.Frag) (mg : Str → Option Value) (base : Heap) (k : Nat) (A : Ad) : Prop := StK.FnK P w K mg base CX0 k A.m_parity_init [] (fun vs zs H Q E => spPi A (vs ++ [V.bl false]) H Q E) ∧ StK.FnK P w K mg base CX0 k A.m_parity_init ["odd"] (fun vs zs H Q E => spPi A (vs ++ zs) H Q E)
end Pv

namespace Pv
open PySem L2 Evl Pm
theorem crd_slot {K : PySem.W.Frag} {c i a a0 a1 a2 a3 b b0 b1 b2 b3 : Addr} {odc odi oda oda0 oda1 oda2 oda3 odb odb0 odb1 odb2 odb3 : Option Addr} {nc ni na na0 na1 na2 na3 nb nb0 nb1 nb2 nb3 : Nat} {slc sli sla sla0 sla1 sla2 sla3 slb slb0 slb1 slb2 slb3 : Array (Option Value)} {ti_0 ti_1 ti_2 ti_3 ta0_0 ta0_1 ta0_2 ta0_3 ta1_0 ta1_1 ta1_2 ta1_3 ta2_0 ta2_1 ta2_2 ta2_3 ta3_0 ta3_1 ta3_2 ta3_3 tb0_0 tb0_1 tb0_2 tb0_3 tb1_0 tb1_1 tb1_2 tb1_3 tb2_0 tb2_1 tb2_2 tb2_3 tb3_0 tb3_1 tb3_2 tb3_3 : Tok}
    (lc : List.lookup c K = some ⟨.type "tuple", odc, .seq #[.ref i, .ref a, .ref b] nc, slc⟩)
    (li : List.lookup i K = some ⟨.type "tuple", odi, .seq #[.int 0 ti_0, .int 0 ti_1, .int 2 ti_2, .int 2 ti_3] ni, sli⟩)
    (la : List.lookup a K = some ⟨.type "tuple", oda, .seq #[.ref a0, .ref a1, .ref a2, .ref a3] na, sla⟩)
    (la0 : List.lookup a0 K = some ⟨.type "tuple", oda0, .seq #[.int 0 ta0_0, .int 1 ta0_1, .int 2 ta0_2, .int 3 ta0_3] na0, sla0⟩)
    (la1 : List.lookup a1 K = some ⟨.type "tuple", oda1, .seq #[.int 1 ta1_0, .int 0 ta1_1, .int 2 ta1_2, .int 3 ta1_3] na1, sla1⟩)
    (la2 : List.lookup a2 K = some ⟨.type "tuple", oda2, .seq #[.int 0 ta2_0, .int 1 ta2_1, .int 3 ta2_2, .int 2 ta2_3] na2, sla2⟩)
    (la3 : List.lookup a3 K = some ⟨.type "tuple", oda3, .seq #[.int 1 ta3_0, .int 0 ta3_1, .int 3 ta3_2, .int 2 ta3_3] na3, sla3⟩)
    (lb : List.lookup b K = some ⟨.type "tuple", odb, .seq #[.ref b0, .ref b1, .ref b2, .ref b3] nb, slb⟩)
    (lb0 : List.lookup b0 K = some ⟨.type "tuple", odb0, .seq #[.int 0 tb0_0, .int 3 tb0_1, .int 2 tb0_2, .int 1 tb0_3] nb0, slb0⟩)
    (lb1 : List.lookup b1 K = some ⟨.type "tuple", odb1, .seq #[.int 3 tb1_0, .int 0 tb1_1, .int 2 tb1_2, .int 1 tb1_3] nb1, slb1⟩)
    (lb2 : List.lookup b2 K = some ⟨.type "tuple", odb2, .seq #[.int 0 tb2_0, .int 3 tb2_1, .int 1 tb2_2, .int 2 tb2_3] nb2, slb2⟩)
    (lb3 : List.lookup b3 K = some ⟨.type "tuple", odb3, .seq #[.int 3 tb3_0, .int 0 tb3_1, .int 1 tb3_2, .int 2 tb3_3] nb3, slb3⟩)
    : CrdK K c (Pm.slotI, Pm.slotA, Pm.slotB) := by
  refine ⟨i, a, b, fun H => Or.inr ⟨_, _, _, lc, rfl, rfl, (by show 3 ≤ sizeLine; decide), .cons rfl (.cons rfl (.cons rfl (.nil)))⟩, fun H => Or.inr ⟨_, _, _, li, rfl, rfl, (by show 4 ≤ sizeLine; decide), .cons ⟨_, rfl⟩ (.cons ⟨_, rfl⟩ (.cons ⟨_, rfl⟩ (.cons ⟨_, rfl⟩ (.nil))))⟩, ⟨[a0, a1, a2, a3], fun H => Or.inr ⟨_, _, _, la, rfl, rfl, (by show 4 ≤ sizeLine; decide), .cons rfl (.cons rfl (.cons rfl (.cons rfl (.nil))))⟩, rfl, fun j q r h1 h2 => ?_⟩, ⟨[b0, b1, b2, b3], fun H => Or.inr ⟨_, _, _, lb, rfl, rfl, (by show 4 ≤ sizeLine; decide), .cons rfl (.cons rfl (.cons rfl (.cons rfl (.nil))))⟩, rfl, fun j q r h1 h2 => ?_⟩⟩
  · match j, h1, h2 with
    | 0, h1, h2 => cases h1; cases h2; exact fun H => Or.inr ⟨_, _, _, la0, rfl, rfl, (by show 4 ≤ sizeLine; decide), .cons ⟨_, rfl⟩ (.cons ⟨_, rfl⟩ (.cons ⟨_, rfl⟩ (.cons ⟨_, rfl⟩ (.nil))))⟩
    | 1, h1, h2 => cases h1; cases h2; exact fun H => Or.inr ⟨_, _, _, la1, rfl, rfl, (by show 4 ≤ sizeLine; decide), .cons ⟨_, rfl⟩ (.cons ⟨_, rfl⟩ (.cons ⟨_, rfl⟩ (.cons ⟨_, rfl⟩ (.nil))))⟩
    | 2, h1, h2 => cases h1; cases h2; exact fun H => Or.inr ⟨_, _, _, la2, rfl, rfl, (by show 4 ≤ sizeLine; decide), .cons ⟨_, rfl⟩ (.cons ⟨_, rfl⟩ (.cons ⟨_, rfl⟩ (.cons ⟨_, rfl⟩ (.nil))))⟩
    | 3, h1, h2 => cases h1; cases h2; exact fun H => Or.inr ⟨_, _, _, la3, rfl, rfl, (by show 4 ≤ sizeLine; decide), .cons ⟨_, rfl⟩ (.cons ⟨_, rfl⟩ (.cons ⟨_, rfl⟩ (.cons ⟨_, rfl⟩ (.nil))))⟩
    | j + 4, h1, h2 => cases h1
  · match j, h1, h2 with
    | 0, h1, h2 => cases h1; cases h2; exact fun H => Or.inr ⟨_, _, _, lb0, rfl, rfl, (by show 4 ≤ sizeLine; decide), .cons ⟨_, rfl⟩ (.cons ⟨_, rfl⟩ (.cons ⟨_, rfl⟩ (.cons ⟨_, rfl⟩ (.nil))))⟩
    | 1, h1, h2 => cases h1; cases h2; exact fun H => Or.inr ⟨_, _, _, lb1, rfl, rfl, (by show 4 ≤ sizeLine; decide), .cons ⟨_, rfl⟩ (.cons ⟨_, rfl⟩ (.cons ⟨_, rfl⟩ (.cons ⟨_, rfl⟩ (.nil))))⟩
    | 2, h1, h2 => cases h1; cases h2; exact fun H => Or.inr ⟨_, _, _, lb2, rfl, rfl, (by show 4 ≤ sizeLine; decide), .cons ⟨_, rfl⟩ (.cons ⟨_, rfl⟩ (.cons ⟨_, rfl⟩ (.cons ⟨_, rfl⟩ (.nil))))⟩
    | 3, h1, h2 => cases h1; cases h2; exact fun H => Or.inr ⟨_, _, _, lb3, rfl, rfl, (by show 4 ≤ sizeLine; decide), .cons ⟨_, rfl⟩ (.cons ⟨_, rfl⟩ (.cons ⟨_, rfl⟩ (.cons ⟨_, rfl⟩ (.nil))))⟩
    | j + 4, h1, h2 => cases h1
theorem crd_ring {K : PySem.W.Frag} {c i a a0 a1 a2 a3 b b0 b1 b2 b3 : Addr} {odc odi oda oda0 oda1 oda2 oda3 odb odb0 odb1 odb2 odb3 : Option Addr} {nc ni na na0 na1 na2 na3 nb nb0 nb1 nb2 nb3 : Nat} {slc sli sla sla0 sla1 sla2 sla3 slb slb0 slb1 slb2 slb3 : Array (Option Value)} {ti_0 ti_1 ti_2 ti_3 ti_4 ti_5 ta0_0 ta0_1 ta0_2 ta0_3 ta0_4 ta0_5 ta1_0 ta1_1 ta1_2 ta1_3 ta1_4 ta1_5 ta2_0 ta2_1 ta2_2 ta2_3 ta2_4 ta2_5 ta3_0 ta3_1 ta3_2 ta3_3 ta3_4 ta3_5 tb0_0 tb0_1 tb0_2 tb0_3 tb0_4 tb0_5 tb1_0 tb1_1 tb1_2 tb1_3 tb1_4 tb1_5 tb2_0 tb2_1 tb2_2 tb2_3 tb2_4 tb2_5 tb3_0 tb3_1 tb3_2 tb3_3 tb3_4 tb3_5 : Tok}
    (lc : List.lookup c K = some ⟨.type "tuple", odc, .seq #[.ref i, .ref a, .ref b] nc, slc⟩)
    (li : List.lookup i K = some ⟨.type "tuple", odi, .seq #[.int 1 ti_0, .int 0 ti_1, .int 0 ti_2, .int 2 ti_3, .int 3 ti_4, .int 3 ti_5] ni, sli⟩)
    (la : List.lookup a K = some ⟨.type "tuple", oda, .seq #[.ref a0, .ref a1, .ref a2, .ref a3] na, sla⟩)
    (la0 : List.lookup a0 K = some ⟨.type "tuple", oda0, .seq #[.int 1 ta0_0, .int 4 ta0_1, .int 0 ta0_2, .int 5 ta0_3, .int 3 ta0_4, .int 2 ta0_5] na0, sla0⟩)
    (la1 : List.lookup a1 K = some ⟨.type "tuple", oda1, .seq #[.int 4 ta1_0, .int 0 ta1_1, .int 1 ta1_2, .int 5 ta1_3, .int 3 ta1_4, .int 2 ta1_5] na1, sla1⟩)
    (la2 : List.lookup a2 K = some ⟨.type "tuple", oda2, .seq #[.int 1 ta2_0, .int 4 ta2_1, .int 0 ta2_2, .int 2 ta2_3, .int 5 ta2_4, .int 3 ta2_5] na2, sla2⟩)
    (la3 : List.lookup a3 K = some ⟨.type "tuple", oda3, .seq #[.int 4 ta3_0, .int 0 ta3_1, .int 1 ta3_2, .int 2 ta3_3, .int 5 ta3_4, .int 3 ta3_5] na3, sla3⟩)
    (lb : List.lookup b K = some ⟨.type "tuple", odb, .seq #[.ref b0, .ref b1, .ref b2, .ref b3] nb, slb⟩)
    (lb0 : List.lookup b0 K = some ⟨.type "tuple", odb0, .seq #[.int 1 tb0_0, .int 5 tb0_1, .int 0 tb0_2, .int 4 tb0_3, .int 2 tb0_4, .int 3 tb0_5] nb0, slb0⟩)
    (lb1 : List.lookup b1 K = some ⟨.type "tuple", odb1, .seq #[.int 5 tb1_0, .int 0 tb1_1, .int 1 tb1_2, .int 4 tb1_3, .int 2 tb1_4, .int 3 tb1_5] nb1, slb1⟩)
    (lb2 : List.lookup b2 K = some ⟨.type "tuple", odb2, .seq #[.int 1 tb2_0, .int 5 tb2_1, .int 0 tb2_2, .int 2 tb2_3, .int 3 tb2_4, .int 4 tb2_5] nb2, slb2⟩)
    (lb3 : List.lookup b3 K = some ⟨.type "tuple", odb3, .seq #[.int 5 tb3_0, .int 0 tb3_1, .int 1 tb3_2, .int 2 tb3_3, .int 3 tb3_4, .int 4 tb3_5] nb3, slb3⟩)
    : CrdK K c (Pm.ringI, Pm.ringA, Pm.ringB) := by
  refine ⟨i, a, b, fun H => Or.inr ⟨_, _, _, lc, rfl, rfl, (by show 3 ≤ sizeLine; decide), .cons rfl (.cons rfl (.cons rfl (.nil)))⟩, fun H => Or.inr ⟨_, _, _, li, rfl, rfl, (by show 6 ≤ sizeLine; decide), .cons ⟨_, rfl⟩ (.cons ⟨_, rfl⟩ (.cons ⟨_, rfl⟩ (.cons ⟨_, rfl⟩ (.cons ⟨_, rfl⟩ (.cons ⟨_, rfl⟩ (.nil))))))⟩, ⟨[a0, a1, a2, a3], fun H => Or.inr ⟨_, _, _, la, rfl, rfl, (by show 4 ≤ sizeLine; decide), .cons rfl (.cons rfl (.cons rfl (.cons rfl (.nil))))⟩, rfl, fun j q r h1 h2 => ?_⟩, ⟨[b0, b1, b2, b3], fun H => Or.inr ⟨_, _, _, lb, rfl, rfl, (by show 4 ≤ sizeLine; decide), .cons rfl (.cons rfl (.cons rfl (.cons rfl (.nil))))⟩, rfl, fun j q r h1 h2 => ?_⟩⟩
  · match j, h1, h2 with
    | 0, h1, h2 => cases h1; cases h2; exact fun H => Or.inr ⟨_, _, _, la0, rfl, rfl, (by show 6 ≤ sizeLine; decide), .cons ⟨_, rfl⟩ (.cons ⟨_, rfl⟩ (.cons ⟨_, rfl⟩ (.cons ⟨_, rfl⟩ (.cons ⟨_, rfl⟩ (.cons ⟨_, rfl⟩ (.nil))))))⟩
    | 1, h1, h2 => cases h1; cases h2; exact fun H => Or.inr ⟨_, _, _, la1, rfl, rfl, (by show 6 ≤ sizeLine; decide), .cons ⟨_, rfl⟩ (.cons ⟨_, rfl⟩ (.cons ⟨_, rfl⟩ (.cons ⟨_, rfl⟩ (.cons ⟨_, rfl⟩ (.cons ⟨_, rfl⟩ (.nil))))))⟩
    | 2, h1, h2 => cases h1; cases h2; exact fun H => Or.inr ⟨_, _, _, la2, rfl, rfl, (by show 6 ≤ sizeLine; decide), .cons ⟨_, rfl⟩ (.cons ⟨_, rfl⟩ (.cons ⟨_, rfl⟩ (.cons ⟨_, rfl⟩ (.cons ⟨_, rfl⟩ (.cons ⟨_, rfl⟩ (.nil))))))⟩
    | 3, h1, h2 => cases h1; cases h2; exact fun H => Or.inr ⟨_, _, _, la3, rfl, rfl, (by show 6 ≤ sizeLine; decide), .cons ⟨_, rfl⟩ (.cons ⟨_, rfl⟩ (.cons ⟨_, rfl⟩ (.cons ⟨_, rfl⟩ (.cons ⟨_, rfl⟩ (.cons ⟨_, rfl⟩ (.nil))))))⟩
    | j + 4, h1, h2 => cases h1
  · match j, h1, h2 with
    | 0, h1, h2 => cases h1; cases h2; exact fun H => Or.inr ⟨_, _, _, lb0, rfl, rfl, (by show 6 ≤ sizeLine; decide), .cons ⟨_, rfl⟩ (.cons ⟨_, rfl⟩ (.cons ⟨_, rfl⟩ (.cons ⟨_, rfl⟩ (.cons ⟨_, rfl⟩ (.cons ⟨_, rfl⟩ (.nil))))))⟩
    | 1, h1, h2 => cases h1; cases h2; exact fun H => Or.inr ⟨_, _, _, lb1, rfl, rfl, (by show 6 ≤ sizeLine; decide), .cons ⟨_, rfl⟩ (.cons ⟨_, rfl⟩ (.cons ⟨_, rfl⟩ (.cons ⟨_, rfl⟩ (.cons ⟨_, rfl⟩ (.cons ⟨_, rfl⟩ (.nil))))))⟩
    | 2, h1, h2 => cases h1; cases h2; exact fun H => Or.inr ⟨_, _, _, lb2, rfl, rfl, (by show 6 ≤ sizeLine; decide), .cons ⟨_, rfl⟩ (.cons ⟨_, rfl⟩ (.cons ⟨_, rfl⟩ (.cons ⟨_, rfl⟩ (.cons ⟨_, rfl⟩ (.cons ⟨_, rfl⟩ (.nil))))))⟩
    | 3, h1, h2 => cases h1; cases h2; exact fun H => Or.inr ⟨_, _, _, lb3, rfl, rfl, (by show 6 ≤ sizeLine; decide), .cons ⟨_, rfl⟩ (.cons ⟨_, rfl⟩ (.cons ⟨_, rfl⟩ (.cons ⟨_, rfl⟩ (.cons ⟨_, rfl⟩ (.cons ⟨_, rfl⟩ (.nil))))))⟩
    | j + 4, h1, h2 => cases h1
end Pv

namespace Pv
open PySem L2 Evl Pm
local macro_rules | `(tactic| walk_at "r1") => `(tactic| first
  | refine ⟨_, rfl, ?_⟩
  | refine ⟨rfl, ?_⟩
  | refine ⟨_, _, rfl, rfl, (show (_ : Prop) from by first | decide | omega | assumption | exact Or.inr ⟨by decide, by decide⟩ | exact Or.inl ⟨by omega, by omega⟩ | exact ⟨by decide, by decide, by decide⟩ | exact ⟨by decide, by decide⟩ | exact wide_div (b := 60) (by omega) (by omega) (by decide) (by decide)), ?_⟩
  | refine ⟨_, _, rfl, rfl, ?_⟩
  | refine ⟨_, _, _, _, rfl, rfl, (show (_ : Prop) from by first | exact SqL.of (by assumption) | exact SqL.of upd_same | assumption | exact upd_same), rfl, ?_⟩
  | refine Or.inl ⟨_, rfl, ?_⟩)
local macro_rules | `(tactic| walk_at "ex") => `(tactic| first | exact Ex.refl _ | assumption | (refine ex_new ?_ (by assumption); walk_at "ex"))
local macro_rules | `(tactic| walk_at "r") => `(tactic| repeat (walk_at "r1"))

section
variable {P : Program} {w : World} {K : PySem.W.Frag} {mg : Str → Option Value} {base : Heap} {A : Ad}
theorem ok_law_box (T : Txt K mg A)   : Okd P w K mg base CX0 1 A.law_box P_law_box (spBox K) := by
  obtain ⟨fd, F⟩ := T.d_law_box

  refine ⟨fd, F.ok sc_law_box (fun vs H Q E h => ?_) (fun cdv A' outer s H vs Q E hr h => ?_), F.binds fun _ _ _ _ _ _ us hl => match us, hl with | [_], _ => rfl⟩
  · obtain ⟨a, ns, rfl, _⟩ := h
    rfl
  · obtain ⟨a, ns, rfl, hs, k⟩ := h
    refine ⟨_, (pss_one (ps_ret (pe_lst (pa_cons (pe_lc (own := [("cell", 1)]) (tt := tYes) (by rfl) sc_law_box.nd (pi_list (pe_slice sl_list (pv 0) po_none (po_some pe_int))) (blkOk_by (own := [("cell", 1)]) (N := N_law_box) (sc := defScope s_law_box) (by decide +kernel)) (fun _ _ _ _ _ => (pg_name (i := 1) sc_law_box.nd rfl (Or.inl rfl))) (fun _ _ _ _ _ => pts_nil) (fun _ _ _ _ _ => (pe_callB call_abs (by rfl) T.n_abs (by decide +kernel) (pa_cons (pe_callTy call_int1 (by rfl) T.n_int (by decide +kernel) (pa_cons (pv 1) pa_nil)) pa_nil)))) (pa_cons pe_int (pa_cons pe_int (pa_cons pe_int (pa_cons pe_int pa_nil)))))))), ?_⟩
    refine ⟨_, rfl, ?_⟩
    unfold tNoPart
    dsimp only
    refine ⟨_, rfl, a, _, rfl, hs, fun p hp => ?_⟩
    rw [show cutV (ns.map V.int) none (some (63 : Int)) = (ns.take 63).map V.int from (cut_tk (xs := ns.map V.int) (k := 63)).trans List.map_take.symm]
    have e1 := Ex.new (o := .lst ((ns.take 63).map V.int)) hp
    have g1 : upd H p (.lst ((ns.take 63).map V.int)) p = some (.lst ((ns.take 63).map V.int)) := upd_same
    have ml : (ns.take 63).length ≤ 63 := by rw [List.length_take]; omega
    generalize ns.take 63 = ms at e1 g1 ml ⊢
    generalize upd H p (.lst (ms.map V.int)) = H1 at e1 g1 ⊢
    refine ⟨p, rfl, ⟨_, SqL.of g1⟩, fun D hD => ?_⟩
    refine lc_list (K := K) (a := p) (xs := ms.map V.int) (fun j G => Ex H1 G ∧ ∃ zs : List Int, G D = some (.lst (zs.map V.int)) ∧ zs.length ≤ j ∧ ∀ z ∈ zs, 0 ≤ z) ⟨Ex.new hD, [], upd_same, Nat.le_refl _, fun z h => by cases h⟩ (fun j G _ q => SqL.of (q.1 _ _ g1)) ?_ ?_
    · rintro j x G hx ⟨eG, zs, gD, zl, zp⟩
      have jl : j < ms.length := by have := (List.getElem?_eq_some_iff.1 hx).1; rw [List.length_map] at this; exact this
      rw [List.getElem?_map, List.getElem?_eq_getElem jl] at hx
      cases hx
      refine ⟨rfl, _, rfl, .inl ⟨_, rfl, _, rfl, _, gD, small1000 (by rw [List.length_map]; omega), fun x o ho => by rw [upd_ne (ne_of_none ho hD)]; exact eG _ _ ho, zs ++ [if ms[j] < 0 then -ms[j] else ms[j]], by rw [upd_same, List.map_append]; rfl, by rw [List.length_append]; show zs.length + 1 ≤ _; omega, fun z hz => ?_⟩⟩
      rcases List.mem_append.1 hz with h | h
      · exact zp z h
      · rw [List.mem_singleton.1 h]
        split <;> omega
    rintro G ⟨eG, zs, gD, zl, zp⟩
    refine ⟨(by show 5 ≤ sizeLine; decide), fun b hb => ?_⟩
    have e3 := Ex.new (o := .lst [V.ref D, V.int 0, V.int 0, V.int 1, V.int 0]) hb
    exact k b D _ (back_none (e1.trans eG) hb) (back_none e1 hD) ((e1.trans eG).trans e3) ⟨zs, 0, 0, 1, 0, upd_same, e3 _ _ gD, by decide, by decide, zp⟩

end

section
variable {P : Program} {w : World} {K : PySem.W.Frag} {mg : Str → Option Value} {base : Heap} {A : Ad}
theorem ok_law_draw (T : Txt K mg A)   : Okd P w K mg base CX0 1 A.law_draw P_law_draw spDr := by
  obtain ⟨fd, F⟩ := T.d_law_draw

  refine ⟨fd, F.ok sc_law_draw (fun vs H Q E h => ?_) (fun cdv A' outer s H vs Q E hr h => ?_), F.binds fun _ _ _ _ _ _ us hl => match us, hl with | [_, _], _ => rfl⟩
  · obtain ⟨b, c, n, rfl, _⟩ := h
    rfl
  · obtain ⟨b, c, n, rfl, n0, nl, B, k⟩ := h
    refine ⟨_, (pss_cons (ps_asg (pe_op op_add (pe_ix ix_list (pv 0) pe_int (fun _ _ => rfl)) pe_int) (pg_sub (pv 0) pe_int set_list))
      (pss_cut (ps_if (PW.pt (pw_and (pt_cmpR op_eq (pe_ix ix_list (pv 0) pe_int (fun _ _ => rfl)) pe_int (nomark _)) (pw_and1 (pt_cmpR op_lt (pe_ix ix_list (pv 0) pe_int (fun _ _ => rfl)) (pe_callB call_len_seq (by rfl) T.n_len PySem.boot_len (pa_cons (pe_ix ix_list (pv 0) pe_int (fun _ _ => rfl)) pa_nil)) (nomark _))))) (pss_cons (ps_set (i := 2) sc_law_draw.nd rfl (Or.inl rfl) (pe_ix ix_list (pe_ix ix_list (pv 0) pe_int (fun _ _ => rfl)) (pe_ix ix_list (pv 0) pe_int (fun _ _ => rfl)) (fun _ _ => rfl)))
      (pss_cons (ps_asg (pe_op op_add (pe_ix ix_list (pv 0) pe_int (fun _ _ => rfl)) pe_int) (pg_sub (pv 0) pe_int set_list))
      (pss_one (ps_if (pt_cmpR op_ge (pv 2) (pe_op op_pow pe_int pe_int) (nomark _)) (pss_one (ps_asg (pv 2) (pg_sub (pv 0) pe_int set_list))) (pss_one (ps_asg (pe_op op_mod (pe_callTy call_int1 (by rfl) T.n_int (by decide +kernel) (pa_cons (pe_op op_add (pe_op op_add (pe_op op_mul (pe_ix ix_list (pv 0) pe_int (fun _ _ => rfl)) pe_int) (pe_op op_mul (pv 2) pe_int)) pe_int) pa_nil)) pe_int) (pg_sub (pv 0) pe_int set_list))))))) pss_nil)
      (pss_cons (ps_if (pt_cmpR op_gt (pe_ix ix_list (pv 0) pe_int (fun _ _ => rfl)) pe_int (nomark _)) (pss_cons (ps_set (i := 3) sc_law_draw.nd rfl (Or.inl rfl) (pe_op op_mod (pe_callTy call_int1 (by rfl) T.n_int (by decide +kernel) (pa_cons (pe_ix ix_list (pv 0) pe_int (fun _ _ => rfl)) pa_nil)) (pv 1)))
      (pss_cons (ps_asg (pe_op op_fdivW (pe_ix ix_list (pv 0) pe_int (fun _ _ => rfl)) (pv 1)) (pg_sub (pv 0) pe_int set_list))
      (pss_one (ps_ret (pv 3))))) pss_nil)
      (pss_cons (ps_asg (pe_op op_mod (pe_callTy call_int1 (by rfl) T.n_int (by decide +kernel) (pa_cons (pe_op op_add (pe_op op_add (pe_op op_mul (pe_ix ix_list (pv 0) pe_int (fun _ _ => rfl)) pe_int) (pe_op op_mul (pe_ix ix_list (pv 0) pe_int (fun _ _ => rfl)) pe_int)) pe_int) pa_nil)) pe_int) (pg_sub (pv 0) pe_int set_list))
      (pss_one (ps_ret (pe_op op_mod (pe_callTy call_int1 (by rfl) T.n_int (by decide +kernel) (pa_cons (pe_op op_fdivW (pe_op op_mod (pe_callTy call_int1 (by rfl) T.n_int (by decide +kernel) (pa_cons (pe_op op_add (pe_op op_mul (pe_ix ix_list (pv 0) pe_int (fun _ _ => rfl)) pe_int) pe_int) pa_nil)) pe_int) pe_int) pa_nil)) (pv 1)))))))), ?_⟩
    have nbc := B.bc
    obtain ⟨ns, d0, i0, k0, s0, hb, hc, p1, p2, p3⟩ := B
    have fin : ∀ (z : Int) H', Bx H' b c → Mut b H H' → Q (V.int (z % (n : Int))) H' := fun z H' B' M' => by
      obtain ⟨d, hd⟩ := Int.eq_ofNat_of_zero_le (Int.emod_nonneg z (by omega : (n : Int) ≠ 0))
      have hdl := Int.emod_lt_of_pos z (show 0 < (n : Int) by omega)
      rw [hd] at hdl ⊢
      exact k d H' (by omega) B' M'
    refine ⟨_, rfl, b, _, _, _, rfl, rfl, SqL.of hb, atI_nat (j := 4) rfl, _, _, rfl, rfl, _, rfl, b, _, _, 4, rfl, rfl, hb, Evl.ixN_nat (j := 4) (by show 4 < 5; decide), ?_⟩
    have hG : upd H b (.lst ([V.ref c, V.int d0, V.int i0, V.int k0, V.int s0].set 4 (V.int (s0 + 1)))) b = some (.lst [V.ref c, V.int d0, V.int i0, V.int k0, V.int (s0 + 1)]) := upd_same
    have K1 : ∀ x o, x ≠ b → H x = some o → upd H b (.lst ([V.ref c, V.int d0, V.int i0, V.int k0, V.int s0].set 4 (V.int (s0 + 1)))) x = some o := fun x o h1 h => by rw [upd_ne h1]; exact h
    generalize upd H b (.lst ([V.ref c, V.int d0, V.int i0, V.int k0, V.int s0].set 4 (V.int (s0 + 1)))) = H1 at hG K1 ⊢
    generalize s0 + 1 = s0 at hG
    have hc1 := K1 _ _ (Ne.symm nbc) hc
    refine ⟨fun σ G => ∃ (v2 : Option V) (d i k : Int), σ = [some (.ref b), some (.int (n : Int)), v2, none] ∧ G b = some (.lst [.ref c, .int d, .int i, .int k, .int s0]) ∧ 0 ≤ d ∧ 0 ≤ i ∧ (∀ x o, x ≠ b → H x = some o → G x = some o), ?_, ?_⟩
    · refine ⟨_, rfl, b, _, _, _, rfl, rfl, SqL.of hG, atI_nat (j := 2) rfl, rfl, _, rfl, ?_⟩
      have fin0 : ∃ (v2 : Option V) (d i k : Int), [some (V.ref b), some (V.int (n : Int)), none, none] = [some (.ref b), some (.int (n : Int)), v2, none] ∧ H1 b = some (.lst [.ref c, .int d, .int i, .int k, .int s0]) ∧ 0 ≤ d ∧ 0 ≤ i ∧ (∀ x o, x ≠ b → H x = some o → H1 x = some o) := ⟨none, d0, i0, k0, rfl, hG, p1, p2, K1⟩
      refine ite_b (fun c1 => ?_) (fun _ => fin0)
      refine ⟨_, rfl, b, _, _, _, rfl, rfl, SqL.of hG, atI_nat (j := 1) rfl, _, rfl, b, _, _, _, rfl, rfl, SqL.of hG, atI_nat (j := 0) rfl, c, _, rfl, .inl (SqL.of hc1), _, _, rfl, rfl, _, rfl, ?_⟩
      refine ite_b (fun c2 => ?_) (fun _ => fin0)
      have c2 := of_decide_eq_true c2
      rw [List.length_map] at c2
      obtain ⟨d0, rfl⟩ := Int.eq_ofNat_of_zero_le p1
      have il : d0 < ns.length := by omega
      have cpos : 0 ≤ ns[d0] := p3 _ (List.getElem_mem il)
      have az : atI (ns.map V.int) ((d0 : Nat) : Int) = some (V.int (ns[d0])) := atI_nat (by rw [List.getElem?_map, List.getElem?_eq_getElem il]; rfl)
      generalize ns[d0] = cell at az cpos
      refine ⟨_, rfl, b, _, _, _, rfl, rfl, SqL.of hG, atI_nat (j := 0) rfl, _, rfl, b, _, _, _, rfl, rfl, SqL.of hG, atI_nat (j := 1) rfl, c, _, _, _, rfl, rfl, SqL.of hc1, az, ?_⟩
      refine ⟨_, rfl, b, _, _, _, rfl, rfl, SqL.of hG, atI_nat (j := 1) rfl, _, _, rfl, rfl, _, rfl, b, _, _, 1, rfl, rfl, hG, Evl.ixN_nat (j := 1) (by show 1 < 5; decide), ?_⟩
      have hb2 : upd H1 b (.lst ([V.ref c, V.int (d0 : Int), V.int i0, V.int k0, V.int s0].set 1 (V.int ((d0 : Int) + 1)))) b = some (.lst [V.ref c, V.int ((d0 : Int) + 1), V.int i0, V.int k0, V.int s0]) := upd_same
      have K2 : ∀ x o, x ≠ b → H x = some o → upd H1 b (.lst ([V.ref c, V.int (d0 : Int), V.int i0, V.int k0, V.int s0].set 1 (V.int ((d0 : Int) + 1)))) x = some o := fun x o h1 h => by rw [upd_ne h1]; exact K1 x o h1 h
      generalize upd H1 b (.lst ([V.ref c, V.int (d0 : Int), V.int i0, V.int k0, V.int s0].set 1 (V.int ((d0 : Int) + 1)))) = H2 at hb2 K2 ⊢
      refine ⟨_, rfl, _, _, rfl, rfl, ⟨by decide, by decide, by decide⟩, _, _, rfl, rfl, _, rfl, ite_b (fun c3 => ?_) (fun c3 => ?_)⟩
      · refine ⟨_, rfl, _, rfl, b, _, _, 2, rfl, rfl, hb2, Evl.ixN_nat (j := 2) (by show 2 < 5; decide), ?_⟩
        exact ⟨_, (d0 : Int) + 1, cell, _, rfl, upd_same, by omega, cpos, fun x o h1 h => by rw [upd_ne h1]; exact K2 x o h1 h⟩
      · refine ⟨_, rfl, b, _, _, _, rfl, rfl, SqL.of hb2, atI_nat (j := 3) rfl, _, _, rfl, rfl, Or.inr ⟨by decide, by decide⟩, _, rfl, _, _, rfl, rfl, Or.inr ⟨by decide, by decide⟩, _, _, rfl, rfl, _, _, rfl, rfl, Or.inl ⟨_, rfl, _, _, rfl, rfl, (by show (0 : Int) < _; decide), _, rfl, b, _, _, 3, rfl, rfl, hb2, Evl.ixN_nat (j := 3) (by show 3 < 5; decide), ?_⟩⟩
        exact ⟨_, (d0 : Int) + 1, i0, _, rfl, upd_same, by omega, p2, fun x o h1 h => by rw [upd_ne h1]; exact K2 x o h1 h⟩
    rintro σ G ⟨v2, d, i, k1, rfl, hG2, q1, q2, KG⟩
    have hcG := KG _ _ (Ne.symm nbc) hc
    refine ⟨_, rfl, b, _, _, _, rfl, rfl, SqL.of hG2, atI_nat (j := 2) rfl, _, _, rfl, rfl, _, rfl, ite_b (fun c1 => ?_) (fun c1 => ?_)⟩
    · refine ⟨_, rfl, b, _, _, _, rfl, rfl, SqL.of hG2, atI_nat (j := 2) rfl, Or.inl ⟨_, rfl, _, rfl, _, _, rfl, rfl, (by omega), ?_⟩⟩
      refine ⟨_, rfl, b, _, _, _, rfl, rfl, SqL.of hG2, atI_nat (j := 2) rfl, _, rfl, _, _, rfl, rfl, wide_div (b := 60) (by omega) (by omega) (by decide) (by decide), _, rfl, b, _, _, 2, rfl, rfl, hG2, Evl.ixN_nat (j := 2) (by show 2 < 5; decide), ?_⟩
      have K5 : ∀ x o, x ≠ b → H x = some o → upd G b (.lst ([V.ref c, V.int d, V.int i, V.int k1, V.int s0].set 2 (V.int (i / (n : Int))))) x = some o := fun x o h1 h => by rw [upd_ne h1]; exact KG x o h1 h
      exact ⟨_, rfl, fin i _ ⟨ns, d, i / (n : Int), k1, s0, upd_same, K5 _ _ (Ne.symm nbc) hc, q1, Int.ediv_nonneg (by omega) (by omega), p3⟩ K5⟩
    refine ⟨_, rfl, b, _, _, _, rfl, rfl, SqL.of hG2, atI_nat (j := 3) rfl, _, _, rfl, rfl, Or.inr ⟨by decide, by decide⟩, _, rfl, b, _, _, _, rfl, rfl, SqL.of hG2, atI_nat (j := 4) rfl, _, _, rfl, rfl, Or.inr ⟨by decide, by decide⟩, _, _, rfl, rfl, _, _, rfl, rfl, Or.inl ⟨_, rfl, _, _, rfl, rfl, (by show (0 : Int) < _; decide), _, rfl, b, _, _, 3, rfl, rfl, hG2, Evl.ixN_nat (j := 3) (by show 3 < 5; decide), ?_⟩⟩
    dsimp only
    have f0 := Int.emod_nonneg (k1 * 69621 + s0 * 40692 + 11) (show (2147483647 : Int) ≠ 0 by decide)
    have f1 := Int.emod_lt_of_pos (k1 * 69621 + s0 * 40692 + 11) (show (0 : Int) < 2147483647 by decide)
    generalize (k1 * 69621 + s0 * 40692 + 11) % 2147483647 = k2 at f0 f1 ⊢
    have hG3 : upd G b (.lst ([V.ref c, V.int d, V.int i, V.int k1, V.int s0].set 3 (V.int k2))) b = some (.lst [V.ref c, V.int d, V.int i, V.int k2, V.int s0]) := upd_same
    have K6 : ∀ x o, x ≠ b → H x = some o → upd G b (.lst ([V.ref c, V.int d, V.int i, V.int k1, V.int s0].set 3 (V.int k2))) x = some o := fun x o h1 h => by rw [upd_ne h1]; exact KG x o h1 h
    generalize upd G b (.lst ([V.ref c, V.int d, V.int i, V.int k1, V.int s0].set 3 (V.int k2))) = G3 at hG3 K6 ⊢
    have g0 := Int.emod_nonneg (k2 * 16807 + 97) (show (2147483629 : Int) ≠ 0 by decide)
    have g1 := Int.emod_lt_of_pos (k2 * 16807 + 97) (show (0 : Int) < 2147483629 by decide)
    refine ⟨_, rfl, b, _, _, _, rfl, rfl, SqL.of hG3, atI_nat (j := 3) rfl, _, _, rfl, rfl, Or.inr ⟨by decide, by decide⟩, _, _, rfl, rfl, Or.inl ⟨_, rfl, _, _, rfl, rfl, (by show (0 : Int) < _; decide), _, _, rfl, rfl, wide_div (b := 60) (by omega) (by omega) (by decide) (by decide), Or.inl ⟨_, rfl, _, rfl, _, _, rfl, rfl, (by omega), ?_⟩⟩⟩
    exact fin _ _ ⟨ns, d, i, k2, s0, hG3, K6 _ _ (Ne.symm nbc) hc, q1, q2, p3⟩ K6

end

section
variable {P : Program} {w : World} {K : PySem.W.Frag} {mg : Str → Option Value} {base : Heap} {A : Ad}
theorem ok_InvalidSize (T : Txt K mg A)   : Okd P w K mg base CX0 1 A.i_InvalidSize P_InvalidSize (spInit A.InvalidSize "size") := by
  obtain ⟨fd, F⟩ := T.f_InvalidSize.fn

  refine ⟨fd, F.ok sc_InvalidSize (fun vs H Q E h => ?_) (fun cdv A' outer s H vs Q E hr h => ?_), F.binds fun _ _ _ _ _ _ us hl => match us, hl with | [_, _], _ => rfl⟩
  · obtain ⟨a, v, rfl, _⟩ := h
    rfl
  · obtain ⟨a, v, rfl, ha, k⟩ := h
    refine ⟨_, (pss_one (ps_ost (pv 0) (pv 1))), ?_⟩
    exact ⟨_, rfl, _, rfl, a, A.InvalidSize, rfl, T.e_InvalidSize.oex, T.f_InvalidSize.nf, Or.inl ⟨ha, fun dx hdx ne => k dx hdx ne⟩⟩
end

section
variable {P : Program} {w : World} {K : PySem.W.Frag} {mg : Str → Option Value} {base : Heap} {A : Ad}
theorem ok_m_book_init (T : Txt K mg A)  (g_InvalidSize : Okd P w K mg base CX0 1 A.i_InvalidSize P_InvalidSize (spInit A.InvalidSize "size")) : Okd P w K mg base CX0 3 A.m_book_init P_m_book_init (spBi A) := by
  obtain ⟨fd, F⟩ := T.d_m_book_init
  obtain ⟨fd_InvalidSize, G_InvalidSize, b_InvalidSize⟩ := g_InvalidSize
  refine ⟨fd, F.ok sc_m_book_init (fun vs H Q E h => ?_) (fun cdv A' outer s H vs Q E hr h => ?_), F.binds fun _ _ _ _ _ _ us hl => match us, hl with | [_, _], _ => rfl⟩
  · obtain ⟨u, dx, n, i, rfl, _⟩ := h
    rfl
  · obtain ⟨u, dx, n, i, rfl, hu, ln, k⟩ := h
    refine ⟨_, (pss_cons (ps_if (pt_cmpR op_lt (pv 1) (pe_con (pv 0) rfl) (nomark _)) (pss_one (L2N.ps_raise rfl L2N.takes0N (L2N.pmk_oexN T.e_InvalidSize.oex T.f_InvalidSize.i T.f_InvalidSize.t G_InvalidSize (hr.mono (by decide)) b_InvalidSize pass0 rfl T.e_InvalidSize.g (pa_cons (pv 1) pa_nil)))) pss_nil)
      (pss_one (ps_fld (pv 0) (pv 1) rfl))), ?_⟩
    obtain ⟨cu, con⟩ := co_B T i
    refine ⟨_, rfl, _, rfl, u, _, dx, _, _, cu, rfl, hu, cls_B T i, con, rfl, _, _, rfl, rfl, _, rfl, ifF (decide_eq_false (by omega)) ?_⟩
    refine ⟨_, rfl, _, rfl, u, _, dx, _, rfl, hu, cls_B T i, ns_B T i, (by show 0 < 1000; decide), ?_⟩
    exact k _ (fun x o n h => by rw [upd_ne n]; exact h) upd_same

end

section
variable {P : Program} {w : World} {K : PySem.W.Frag} {mg : Str → Option Value} {base : Heap} {A : Ad}
theorem free_x {sc : Scope} (h : ∀ q : Str × NameKind, q ∈ sc.names → q.2 = .cell ∨ q.2 = .free → q.1 = "__class__") : ∀ x : Str, List.lookup x sc.names = some .cell ∨ List.lookup x sc.names = some .free → x = "__class__" := fun x e => by
  rcases e with e | e
  · exact h (x, .cell) (PySem.mem_of_lookup e) (.inl rfl)
  · exact h (x, .free) (PySem.mem_of_lookup e) (.inr rfl)
theorem ok_m_parity_init (T : Txt K mg A) (hS : SupD P K A) (g_m_book_init : Okd P w K mg base CX0 3 A.m_book_init P_m_book_init (spBi A)) : OkPar P w K mg base 4 A := by
  obtain ⟨fd_m_book_init, G_m_book_init, b_m_book_init⟩ := g_m_book_init
  obtain ⟨oc, od, kV, doc, pm, an, ct, osl, there, kd⟩ := hS.p_fn
  have S : SupK.SScope N_m_parity_init ["self", "size", "odd"] (defScope s_m_parity_init) := ⟨rfl, rfl, rfl, by decide +kernel, rfl, by decide +kernel, by decide +kernel, free_x (by decide +kernel), rfl, rfl⟩
  have F : FnOk P w K mg base CX0 4 A.m_parity_init (PySem.W.ksFn "__init__" "ParityBook.__init__" (defArgs s_m_parity_init) (defBody s_m_parity_init) (defScope s_m_parity_init) .none kV doc pm an (.ref A.cd_m_parity_init) ct A.cc_m_parity_init) ["self", "size", "odd"] (spPi A) := by
    refine SupK.fn_ofS (N := N_m_parity_init) there hS.p_code S hS.p_F T.n_super rfl rfl hS.tp (fun vs H Q E h => ?_) (fun A' outer s H vs Q E hr h => ?_)
    · obtain ⟨u, dx, n, o, i, rfl, _⟩ := h
      rfl
    · obtain ⟨u, dx, n, o, i, rfl, hi, hu, n3, k⟩ := h
      have B : StK.FnK P w K mg base CX0 3 A.m_book_init [] (fun vs zs H Q E => spBi A (vs ++ []) H Q E) := BkR.fnk_of G_m_book_init [] [] .nil b_m_book_init
      have mro : PySem.W.mroIn K (clB A i) (.ref A.ParityBook) = some true := by rcases hi with rfl | rfl; exact hS.p_mro1; exact hS.p_mro2
      have si : PySem.W.ks_superIn K (clB A i) A.ParityBook "__init__" = some (some (.ref A.m_book_init)) := by rcases hi with rfl | rfl; exact hS.p_si1; exact hS.p_si2
      have ls : lstB i ≤ n := by rcases hi with rfl | rfl <;> exact n3
      refine ⟨u, clB A i, dx, A.m_book_init, [], [], _, _, _, _, _, rfl, hu, ⟨mro, si, hS.b_fi, hS.b_ty, B⟩, (pa_cons (pv 1) pa_nil), pk_nil, (pss_one (ps_fld (pv 0) (pv 2) rfl)), rfl, rfl, fun env => ⟨rfl, rfl, rfl, rfl⟩, ?_⟩
      refine ⟨_, rfl, rfl, u, dx, n, i, rfl, hu, ls, fun H1 k1 h1 => ?_⟩
      refine ⟨_, rfl, _, rfl, u, _, dx, _, rfl, h1, cls_B T i, no_B T i, (by show 1 < 1000; decide), ?_⟩
      exact k _ (fun x o n h => by rw [upd_ne n]; exact k1 x o n h) upd_same
  have b0 : Binds K (PySem.W.ksFn "__init__" "ParityBook.__init__" (defArgs s_m_parity_init) (defBody s_m_parity_init) (defScope s_m_parity_init) .none kV doc pm an (.ref A.cd_m_parity_init) ct A.cc_m_parity_init) ["self", "size", "odd"] [.bool false] := by
    intro s us kin l
    rcases kd with h | ⟨D, rfl, h⟩
    · cases h
    obtain ⟨u, hu, ru⟩ := h _ (List.mem_singleton.2 rfl)
    cases (show u = Value.bool false from ru)
    have l2 : us.length = 2 := by rw [List.length_append] at l; have : ([Value.bool false] : List Value).length = 1 := rfl; have : (["self", "size", "odd"] : List Str).length = 3 := rfl; omega
    match us, l2 with
    | [x, y], _ =>
      refine BindsTo.of_looks fun M => KwChain.looks (D := D) (l := [("odd", Value.bool false)]) kin (fun q hq => by rw [List.mem_singleton.1 hq]; exact hu) ?_
      exact ⟨_, _, _, _, _, _, rfl, rfl, rfl⟩
  have b1 : KBn K (PySem.W.ksFn "__init__" "ParityBook.__init__" (defArgs s_m_parity_init) (defBody s_m_parity_init) (defScope s_m_parity_init) .none kV doc pm an (.ref A.cd_m_parity_init) ct A.cc_m_parity_init) ["self", "size", "odd"] 2 ["odd"] (fun us ws => us ++ ws) (fun vs zs => vs ++ zs) :=
    ⟨fun s us ws X l1 l2 => .of_eq (match us, l1, ws, l2 with | [x, y], _, [z], _ => rfl), fun r1 r2 => r1.append r2⟩
  exact ⟨BkR.fnk_of F [.bool false] [.bl false] (.cons rfl .nil) b0, BkR.fnk_kw F (fun vs zs l1 l2 => by rw [List.length_append, l1] at l2; have : (["odd"] : List Str).length = 1 := rfl; have : (["self", "size", "odd"] : List Str).length = 3 := rfl; omega) b1⟩
end

section
variable {P : Program} {w : World} {K : PySem.W.Frag} {mg : Str → Option Value} {base : Heap} {A : Ad}
theorem ok_m_ring_init (T : Txt K mg A) (hS : SupD P K A) (g_m_parity_init : OkPar P w K mg base 4 A) : Okd P w K mg base CX0 5 A.m_ring_init ["self", "size"] (spRi A) := by
  obtain ⟨oc, od, kV, doc, pm, an, ct, osl, there⟩ := hS.r_fn
  have S : SupK.SScope N_m_ring_init ["self", "size"] (defScope s_m_ring_init) := ⟨rfl, rfl, rfl, by decide +kernel, rfl, by decide +kernel, by decide +kernel, free_x (by decide +kernel), rfl, rfl⟩
  refine ⟨PySem.W.ksFn "__init__" "RingBook.__init__" (defArgs s_m_ring_init) (defBody s_m_ring_init) (defScope s_m_ring_init) .none kV doc pm an (.ref A.cd_m_ring_init) ct A.cc_m_ring_init, ?_, fun s us kin l => .of_eq (match us, l with | [x, y], _ => rfl)⟩
  refine SupK.fn_ofS (N := N_m_ring_init) there hS.r_code S hS.r_F T.n_super rfl rfl hS.tp (fun vs H Q E h => ?_) (fun A' outer s H vs Q E hr h => ?_)
  · obtain ⟨u, dx, n, rfl, _⟩ := h
    rfl
  · obtain ⟨u, dx, n, rfl, hu, n3, k⟩ := h
    refine ⟨u, A.RingBook, dx, A.m_parity_init, [], ["odd"], _, _, _, _, _, rfl, hu, ⟨hS.r_mro, hS.r_si, hS.q_fi, hS.q_ty, g_m_parity_init.2⟩, (pa_cons (pv 1) pa_nil), (pk_cons (pe_cmpR op_eq (pe_op op_mod (pe_op op_sub (pv 1) pe_int) pe_int) pe_int (nomark _)) pk_nil), pss_nil, rfl, rfl, fun env => ⟨rfl, rfl, rfl, rfl⟩, ?_⟩
    refine ⟨_, rfl, _, rfl, _, _, rfl, rfl, _, _, rfl, rfl, (by show (0 : Int) < 2; decide), rfl, rfl, ?_⟩
    exact ⟨u, dx, n, _, .ring, rfl, .inr rfl, hu, n3, fun H' k1 h1 => k _ H' k1 h1⟩
end

section
variable {P : Program} {w : World} {K : PySem.W.Frag} {mg : Str → Option Value} {base : Heap} {A : Ad}
theorem ok_exchanged (T : Txt K mg A)   : Okd P w K mg base CX0 1 A.exchanged P_exchanged spEx := by
  obtain ⟨fd, F⟩ := T.d_exchanged

  refine ⟨fd, F.ok sc_exchanged (fun vs H Q E h => ?_) (fun cdv A' outer s H vs Q E hr h => ?_), F.binds fun _ _ _ _ _ _ us hl => match us, hl with | [_, _, _], _ => rfl⟩
  · obtain ⟨p, row, rfl, _⟩ := h
    rfl
  · obtain ⟨p, row, rfl, hp, rl, k⟩ := h
    refine ⟨_, (pss_cons (ps_set (i := 3) sc_exchanged.nd rfl (Or.inr rfl) (pe_disp (pps_cons (pv 1) (pv 2) (pps_cons (pv 2) (pv 1) pps_nil)) (by rfl) (by rfl) (by simp) (by simp)))
      (pss_one (ps_ret (pe_lc (own := [("block", 4)]) (tt := tYes) (by rfl) sc_exchanged.nd (pi_list (pv 0)) (blkOk_by (own := [("block", 4)]) (N := N_exchanged) (sc := defScope s_exchanged) (by decide +kernel)) (fun _ _ _ _ _ => (pg_name (i := 4) sc_exchanged.nd rfl (Or.inl rfl))) (fun _ _ _ _ _ => pts_nil) (fun _ _ _ _ _ => (pe_dget2 (by exact hu_of hr) (pv 3) (pv 4) (pv 4) ⟨rfl, rfl, rfl, rfl⟩)))))), ?_⟩
    intro d hd
    refine ⟨_, rfl, _, rfl, _, rfl, _, rfl, upd_same, [(Sum.inl 0, V.int 1), (Sum.inl 1, V.int 0)], rfl, by decide, ?_⟩
    have e1 : Ex H (upd (upd H d (.dK [])) d (.dK (mergeK [] [(Sum.inl 0, V.int 1), (Sum.inl 1, V.int 0)]))) := fun x o h => by rw [upd_ne (ne_of_none h hd), upd_ne (ne_of_none h hd)]; exact h
    have gd : upd (upd H d (.dK [])) d (.dK (mergeK [] [(Sum.inl 0, V.int 1), (Sum.inl 1, V.int 0)])) d = some (.dK [(Sum.inl 0, V.int 1), (Sum.inl 1, V.int 0)]) := by rw [upd_same]; rfl
    generalize upd (upd H d (.dK [])) d (.dK (mergeK [] [(Sum.inl 0, V.int 1), (Sum.inl 1, V.int 0)])) = H1 at e1 gd ⊢
    have hp1 : ListN H1 p row := e1 _ _ hp
    refine ⟨_, rfl, p, rfl, ⟨_, SqL.of hp1⟩, fun D hD => ?_⟩
    refine lc_list (K := K) (a := p) (xs := nI row) (fun j G => Ex H1 G ∧ ListN G D (exch (row.take j))) ⟨Ex.new hD, upd_same⟩ (fun j G _ q => SqL.of (q.1 _ _ hp1)) ?_ ?_
    · rintro j x G hx ⟨eG, gD⟩
      obtain ⟨jl, rfl⟩ := nat_at hx
      have hx2 := getD_some9 jl
      generalize row.getD j 0 = x at hx2
      have tk : exch (row.take (j + 1)) = exch (row.take j) ++ [if x = 0 then 1 else if x = 1 then 0 else x] := by
        unfold exch
        rw [List.take_add_one, hx2, List.map_append]
        rfl
      have vl : (valV [((Sum.inl 0 : Key), V.int 1), (Sum.inl 1, V.int 0)] (Sum.inl (x : Int))).getD (V.int (x : Int)) = V.int (((if x = 0 then 1 else if x = 1 then 0 else x : Nat)) : Int) := by
        rcases x with _ | _ | x
        · rfl
        · rfl
        · rw [valV_neg (fun e => by injection e with e; omega), valV_neg (fun e => by injection e with e; omega)]
          rfl
      refine ⟨rfl, _, rfl, d, rfl, .inl ⟨_, .inl (eG _ _ gd)⟩, _, rfl, _, rfl, _, .inl ⟨_, Sum.inl (x : Int), .inl (eG _ _ gd), rfl, rfl⟩, _, gD, small1000 (by rw [nI_len]; unfold exch; rw [List.length_map, List.length_take]; omega), fun y o ho => by rw [upd_ne (ne_of_none ho hD)]; exact eG _ _ ho, ?_⟩
      show upd G D _ D = _
      rw [upd_same, tk, vl, nI_app]
    rintro G ⟨eG, gD⟩
    rw [nI_len, List.take_length] at gD
    exact k D G (back_none e1 hD) (e1.trans eG) gD

end

section
variable {P : Program} {w : World} {K : PySem.W.Frag} {mg : Str → Option Value} {base : Heap} {A : Ad}
theorem ok_with_names_exchanged (T : Txt K mg A)  (g_exchanged : Okd P w K mg base CX0 1 A.exchanged P_exchanged spEx) : Okd P w K mg base CX0 2 A.with_names_exchanged P_with_names_exchanged spWx := by
  obtain ⟨fd, F⟩ := T.d_with_names_exchanged
  obtain ⟨fd_exchanged, G_exchanged, b_exchanged⟩ := g_exchanged
  refine ⟨fd, F.ok sc_with_names_exchanged (fun vs H Q E h => ?_) (fun cdv A' outer s H vs Q E hr h => ?_), F.binds fun _ _ _ _ _ _ us hl => match us, hl with | [_], _ => rfl⟩
  · obtain ⟨p, row, rfl, _⟩ := h
    rfl
  · obtain ⟨p, row, rfl, hp, rl, k⟩ := h
    refine ⟨_, (pss_one (ps_ret (pe_call G_exchanged (hr.mono (by decide)) (by rfl) T.g_exchanged T.k_exchanged b_exchanged .nil pass0 (pa_cons (pv 0) (pa_cons pe_int (pa_cons pe_int pa_nil)))))), ?_⟩
    exact ⟨_, rfl, p, row, rfl, hp, rl, fun q H' hq e g => k q H' hq e g⟩

end

section
variable {P : Program} {w : World} {K : PySem.W.Frag} {mg : Str → Option Value} {base : Heap} {A : Ad}
theorem ok_is_odd (T : Txt K mg A)  (g_circles_of : Okd P w K mg base CX0 1 A.circles_of P_circles_of spCo) : Okd P w K mg base CX0 2 A.is_odd P_is_odd spOd := by
  obtain ⟨fd, F⟩ := T.d_is_odd
  obtain ⟨fd_circles_of, G_circles_of, b_circles_of⟩ := g_circles_of
  refine ⟨fd, F.ok sc_is_odd (fun vs H Q E h => ?_) (fun cdv A' outer s H vs Q E hr h => ?_), F.binds fun _ _ _ _ _ _ us hl => match us, hl with | [_], _ => rfl⟩
  · obtain ⟨p, row, rfl, _⟩ := h
    rfl
  · obtain ⟨p, row, rfl, hp, gd, k⟩ := h
    refine ⟨_, (pss_one (ps_ret (pe_cmpR op_eq (pe_op op_mod (pe_op op_sub (pe_callB call_len_seq (by rfl) T.n_len PySem.boot_len (pa_cons (pv 0) pa_nil)) (pe_callB call_len_seq (by rfl) T.n_len PySem.boot_len (pa_cons (pe_call G_circles_of (hr.mono (by decide)) (by rfl) T.g_circles_of T.k_circles_of b_circles_of .nil pass0 (pa_cons (pv 0) pa_nil)) pa_nil))) pe_int) pe_int (nomark _)))), ?_⟩
    refine ⟨_, rfl, p, _, rfl, .inl (SqL.of hp), _, rfl, p, row, rfl, hp, gd, fun q H' xs hq e g l => ?_⟩
    refine ⟨q, _, rfl, .inl (SqL.of g), _, _, rfl, rfl, _, _, rfl, rfl, (by show (0 : Int) < 2; decide), rfl, ?_⟩
    rw [l, nI_len]
    have h := cyc_le row
    have h2 : decide (V.int (((row.length : Int) - (cyc row : Int)) % 2) = V.int 1) = oddR row := by
      unfold oddR
      rw [decide_eq_decide]
      constructor
      · intro x
        injection x with x
        omega
      · intro x
        congr 1
        omega
    rw [← h2] at k
    exact k H' e

end

section
variable {P : Program} {w : World} {K : PySem.W.Frag} {mg : Str → Option Value} {base : Heap} {A : Ad}
theorem ok_circles_of (T : Txt K mg A)   : Okd P w K mg base CX0 1 A.circles_of P_circles_of spCo := by
  obtain ⟨fd, F⟩ := T.d_circles_of

  refine ⟨fd, F.ok sc_circles_of (fun vs H Q E h => ?_) (fun cdv A' outer s H vs Q E hr h => ?_), F.binds fun _ _ _ _ _ _ us hl => match us, hl with | [_], _ => rfl⟩
  · obtain ⟨p, row, rfl, _⟩ := h
    rfl
  · obtain ⟨p, row, rfl, hp, gd, k⟩ := h
    refine ⟨_, (pss_cons (ps_set (i := 1) sc_circles_of.nd rfl (Or.inl rfl) (pe_lst pa_nil))
      (pss_cons (ps_set (i := 2) sc_circles_of.nd rfl (Or.inl rfl) (pe_op op_rep (pe_lst (pa_cons pe_bl pa_nil)) (pe_callB call_len_seq (by rfl) T.n_len PySem.boot_len (pa_cons (pv 0) pa_nil))))
      (pss_cons (ps_for PassesOwn.never rfl (pi_range1 (by rfl) T.n_range (pa_cons (pe_callB call_len_seq (by rfl) T.n_len PySem.boot_len (pa_cons (pv 0) pa_nil)) pa_nil)) (pg_name (i := 3) sc_circles_of.nd rfl (Or.inl rfl)) (pss_cons (ps_set (i := 4) sc_circles_of.nd rfl (Or.inl rfl) (pe_lst pa_nil))
      (pss_cons (ps_set (i := 5) sc_circles_of.nd rfl (Or.inl rfl) (pv 3))
      (pss_cons (ps_while PassesOwn.never (pt_not (pt_val (pe_ix ix_list (pv 2) (pv 5) (fun _ _ => rfl)))) (pss_cons (ps_asg pe_bl (pg_sub (pv 2) (pv 5) set_list))
      (pss_cons (ps_expr (pe_bm PySem.F.plainAttrs_list PySem.F.slot_list_append PySem.F.type_list_append mt_append (pv 4) (pa_cons (pv 5) pa_nil)))
      (pss_one (ps_set (i := 5) sc_circles_of.nd rfl (Or.inl rfl) (pe_ix ix_list (pv 0) (pv 5) (fun _ _ => rfl)))))))
      (pss_one (ps_if (pt_cmpR op_gt (pe_callB call_len_seq (by rfl) T.n_len PySem.boot_len (pa_cons (pv 4) pa_nil)) pe_int (nomark _)) (pss_one (ps_expr (pe_bm PySem.F.plainAttrs_list PySem.F.slot_list_append PySem.F.type_list_append mt_append (pv 1) (pa_cons (pv 4) pa_nil)))) pss_nil))))))
      (pss_one (ps_ret (pv 1)))))), ?_⟩
    refine ⟨Nat.zero_le _, fun f hf => ⟨(by decide +kernel : (1 : Nat) ≤ sizeLine), fun l hl => ?_⟩⟩
    refine ⟨_, rfl, p, _, rfl, .inl (SqL.of (by rw [upd_ne (ne_of_none (by rw [upd_ne (ne_of_none hp hf)]; exact hp) hl), upd_ne (ne_of_none hp hf)]; exact hp)), l, _, _, rfl, rfl, upd_same, ?_⟩
    rw [nI_len]
    have g41 := gd.1
    refine ⟨by omega, by omega, Nat.le_of_lt (small1000 (by show 1 * ((row.length : Int)).toNat ≤ _; omega)), fun q hq => ?_⟩
    have hlf : l ≠ f := fun z => by rw [z, upd_same] at hl; cases hl
    have hq1 : q ≠ l := fun z => by rw [z, upd_same] at hq; cases hq
    have hq2 : q ≠ f := fun z => by rw [z, upd_ne hlf.symm, upd_same] at hq; cases hq
    rw [rep_bl]
    have e1 : Ex H (upd (upd (upd H f (.lst [])) l (.lst [V.bl false])) q (.lst ((List.replicate row.length false).map V.bl))) := ex_new (ex_new (Ex.new hf) hl) hq
    have gf : upd (upd (upd H f (.lst [])) l (.lst [V.bl false])) q (.lst ((List.replicate row.length false).map V.bl)) f = some (.lst []) := by rw [upd_ne hq2.symm, upd_ne hlf.symm, upd_same]
    have gq : upd (upd (upd H f (.lst [])) l (.lst [V.bl false])) q (.lst ((List.replicate row.length false).map V.bl)) q = some (.lst ((List.replicate row.length false).map V.bl)) := upd_same
    have hfq : H q = none := back_none (ex_new (Ex.new hf) hl) hq
    generalize upd (upd (upd H f (.lst [])) l (.lst [V.bl false])) q (.lst ((List.replicate row.length false).map V.bl)) = H1 at e1 gf gq ⊢
    refine ⟨_, rfl, p, _, rfl, .inl (SqL.of (e1 _ _ hp)), _, rfl, ?_⟩
    rw [nI_len]
    refine ⟨by omega, by omega, for_range (lo := 0) (n := row.length) (fun i σ G => ∃ v3 v4 v5 xs, σ = [some (.ref p), some (.ref f), some (.ref q), v3, v4, v5] ∧ Ex H G ∧ G f = some (.lst xs) ∧ xs.length = (cycS row i).2 ∧ G q = some (.lst ((cycS row i).1.map V.bl))) ⟨_, _, _, _, rfl, e1, gf, rfl, gq⟩ ?_ ?_⟩
    · rintro i σ G hi ⟨v3, v4, v5, xs, rfl, eG, Gf, lx, Gq⟩
      refine ⟨Nat.zero_le _, fun c hc => ⟨_, rfl, ?_⟩⟩
      have cf : c ≠ f := fun z => by rw [z, Gf] at hc; cases hc
      have cq : c ≠ q := fun z => by rw [z, Gq] at hc; cases hc
      have hHc : H c = none := back_none eG hc
      have qf := hq2
      have cl := cycS_len row i
      have cn : (cycS row (i + 1)) = (walk row row.length (cycS row i).1 i, if (cycS row i).1.getD i true = true then (cycS row i).2 else (cycS row i).2 + 1) := rfl
      have cle := cycS_le row i
      rw [cn]
      clear cn
      generalize cycS row i = C at cl lx Gq cle ⊢
      obtain ⟨seen0, m0⟩ := C
      have cl : seen0.length = row.length := cl
      have lx : xs.length = m0 := lx
      have cle : m0 ≤ i := cle
      refine ⟨fun m σ G' => ∃ (seen : List Bool) (here k' : Nat) (cs : List V), m = open_ seen ∧ σ = [some (.ref p), some (.ref f), some (.ref q), some (.int (i : Int)), some (.ref c), some (.int (here : Int))] ∧ Ex H G' ∧ G' f = some (.lst xs) ∧ G' q = some (.lst (seen.map V.bl)) ∧ G' c = some (.lst cs) ∧ here < row.length ∧ seen.length = row.length ∧ open_ seen ≤ k' ∧ cs.length + open_ seen ≤ row.length ∧ walk row row.length seen0 i = walk row k' seen here ∧ (cs.length = 0 → seen0.getD i true = seen.getD here true) ∧ (0 < cs.length → seen0.getD i true = false), ?_, ?_⟩
      · refine ⟨_, seen0, i, row.length, [], rfl, ?_, ex_new eG hc, by rw [upd_ne cf.symm]; exact Gf, by rw [upd_ne cq.symm]; exact Gq, upd_same, hi, cl, by have := open_le seen0; omega, by have := open_le seen0; show 0 + _ ≤ _; omega, rfl, fun _ => rfl, fun h => absurd h (Nat.lt_irrefl _)⟩
        show _ = _
        simp only [Int.zero_add]
        rfl
      rintro m σ G' ⟨seen, here, k', cs, rfl, rfl, eG', G'f, G'q, G'c, hh, hl, ok, oc, wk, z0, z1⟩
      refine ⟨_, rfl, _, rfl, q, _, _, _, rfl, rfl, SqL.of G'q, ixB (by omega), _, rfl, ?_⟩
      have zq : G' q ≠ none := fun z => by rw [G'q] at z; cases z
      cases hs : seen.getD here true with
      | true =>
        refine ⟨_, rfl, c, _, rfl, .inl (SqL.of G'c), _, _, rfl, rfl, _, rfl, ?_⟩
        have wk1 : walk row row.length seen0 i = seen := by rw [wk, walk_end hs]
        rcases Nat.eq_zero_or_pos cs.length with z | z
        · have s0 : seen0.getD i true = true := by rw [z0 z, hs]
          refine ifF (decide_eq_false (by omega)) ?_
          refine ⟨_, _, _, xs, rfl, eG', G'f, ?_, ?_⟩
          · show _ = if seen0.getD i true = true then m0 else m0 + 1
            rw [s0, if_pos rfl]
            exact lx
          · show G' q = some (.lst ((walk row row.length seen0 i).map V.bl))
            rw [wk1]
            exact G'q
        · have s0 := z1 z
          refine ifT (decide_eq_true (by omega)) ?_
          refine ⟨_, rfl, .inl ⟨rfl, xs, SqL.of G'f⟩, _, rfl, f, xs, _, rfl, rfl, G'f, small1000 (by omega), ?_⟩
          refine ⟨_, _, _, _, rfl, fun y o ho => by rw [upd_ne (ne_of_none ho hf)]; exact eG' _ _ ho, upd_same, ?_, ?_⟩
          · show _ = if seen0.getD i true = true then m0 else m0 + 1
            rw [s0, if_neg (by decide), List.length_append, lx]
            rfl
          · show upd G' f _ q = some (.lst ((walk row row.length seen0 i).map V.bl))
            rw [wk1, upd_ne qf]
            exact G'q
      | false =>
        have os := open_set (seen := seen) (x := here) (by omega) hs
        have ok0 : ∃ k2, k' = k2 + 1 := ⟨k' - 1, by omega⟩
        obtain ⟨k2, rfl⟩ := ok0
        refine ⟨fun σ' G2 => ∃ m' < open_ seen, _, fun σ' G2 h => h, ?_⟩
        refine ⟨_, rfl, _, rfl, q, _, _, here, rfl, rfl, G'q, ixN_nat (by rw [List.length_map]; omega), ?_⟩
        have G3q : upd G' q (.lst ((seen.map V.bl).set here (.bl true))) q = some (.lst ((seen.set here true).map V.bl)) := by rw [upd_same, ← List.map_set]
        have G3f : upd G' q (.lst ((seen.map V.bl).set here (.bl true))) f = some (.lst xs) := by rw [upd_ne qf.symm]; exact G'f
        have G3c : upd G' q (.lst ((seen.map V.bl).set here (.bl true))) c = some (.lst cs) := by rw [upd_ne cq]; exact G'c
        have e3 : Ex H (upd G' q (.lst ((seen.map V.bl).set here (.bl true)))) := fun y o ho => by rw [upd_ne (ne_of_none ho hfq)]; exact eG' _ _ ho
        generalize upd G' q (.lst ((seen.map V.bl).set here (.bl true))) = G3 at G3q G3f G3c e3
        refine ⟨_, rfl, .inl ⟨rfl, cs, SqL.of G3c⟩, _, rfl, c, cs, _, rfl, rfl, G3c, small1000 (by omega), ?_⟩
        have G4q : upd G3 c (.lst (cs ++ [.int (here : Int)])) q = some (.lst ((seen.set here true).map V.bl)) := by rw [upd_ne cq.symm]; exact G3q
        have G4f : upd G3 c (.lst (cs ++ [.int (here : Int)])) f = some (.lst xs) := by rw [upd_ne cf.symm]; exact G3f
        have G4c : upd G3 c (.lst (cs ++ [.int (here : Int)])) c = some (.lst (cs ++ [.int (here : Int)])) := upd_same
        have e4 : Ex H (upd G3 c (.lst (cs ++ [.int (here : Int)]))) := fun y o ho => by rw [upd_ne (ne_of_none ho hHc)]; exact e3 _ _ ho
        generalize upd G3 c (.lst (cs ++ [.int (here : Int)])) = G4 at G4q G4f G4c e4
        refine ⟨_, rfl, _, rfl, p, _, _, _, rfl, rfl, SqL.of (e4 _ _ hp), atN hh, ?_⟩
        refine ⟨_, by omega, seen.set here true, row.getD here 0, k2, _, rfl, rfl, e4, G4f, G4q, G4c, good_at gd hh, by rw [List.length_set]; exact hl, by omega, by rw [List.length_append]; show _ + 1 + _ ≤ _; omega, ?_, fun h => ?_, fun _ => ?_⟩
        · rw [wk]
          show (if seen.getD here true = true then seen else walk row k2 (seen.set here true) (row.getD here 0)) = _
          rw [hs, if_neg (by decide)]
        · rw [List.length_append] at h
          exact absurd h (by show ¬ _ + 1 = 0; omega)
        · rcases Nat.eq_zero_or_pos cs.length with z | z
          · rw [z0 z, hs]
          · exact z1 z
    · rintro σ G ⟨v3, v4, v5, xs, rfl, eG, Gf, lx, Gq⟩
      exact ⟨_, rfl, k f G xs hf eG Gf lx⟩

end

section
variable {P : Program} {w : World} {K : PySem.W.Frag} {mg : Str → Option Value} {base : Heap} {A : Ad}
theorem ok_lengthened (T : Txt K mg A)   : Okd P w K mg base CX0 1 A.lengthened P_lengthened (spLg K) := by
  obtain ⟨fd, F⟩ := T.d_lengthened

  refine ⟨fd, F.ok sc_lengthened (fun vs H Q E h => ?_) (fun cdv A' outer s H vs Q E hr h => ?_), F.binds fun _ _ _ _ _ _ us hl => match us, hl with | [_, _], _ => rfl⟩
  · obtain ⟨p, row, n, rfl, _⟩ := h
    rfl
  · obtain ⟨p, row, n, rfl, hp, ln, n41, k⟩ := h
    refine ⟨_, (pss_cons (ps_set (i := 2) sc_lengthened.nd rfl (Or.inl rfl) (pe_callB call_len_seq (by rfl) T.n_len PySem.boot_len (pa_cons (pv 0) pa_nil)))
      (pss_cons (ps_if (pt_cmpR op_eq (pv 2) (pv 1) (nomark _)) (pss_one (ps_ret (pe_callTy call_list_of (by rfl) T.n_list (by decide +kernel) (pa_cons (pv 0) pa_nil)))) pss_nil)
      (pss_cons (ps_set (i := 3) sc_lengthened.nd rfl (Or.inl rfl) (pe_op op_cat (pe_lst (pa_cons pe_int pa_nil)) (pe_listRg (by rfl) (by rfl) T.n_list (prg_2 (by rfl) T.n_range (pv 2) (pe_op op_sub (pv 1) pe_int)))))
      (pss_one (ps_ret (pe_op op_cat (pe_lc (own := [("block", 4)]) (tt := tYes) (by rfl) sc_lengthened.nd (pi_tup (pv 0)) (blkOk_by (own := [("block", 4)]) (N := N_lengthened) (sc := defScope s_lengthened) (by decide +kernel)) (fun _ _ _ _ _ => (pg_name (i := 4) sc_lengthened.nd rfl (Or.inl rfl))) (fun _ _ _ _ _ => pts_nil) (fun _ _ _ _ _ => (pe_ifExp (pt_cmpR op_eq (pv 4) pe_int (nomark _)) (pe_op op_sub (pv 1) pe_int) (pv 4)))) (pv 3))))))), ?_⟩
    refine ⟨_, rfl, p, _, rfl, .inr (hp _), _, rfl, _, rfl, rfl, _, rfl, ?_⟩
    show if decide (V.int ((nI row).length : Int) = V.int (n : Int)) = true then _ else _
    rw [nI_len]
    by_cases h : row.length = n
    · refine ifT (decide_eq_true (by rw [h])) ?_
      refine ⟨_, rfl, p, _, rfl, .inr (hp _), fun q hq => k q _ hq (Ex.new hq) ?_⟩
      show upd H q _ q = _
      rw [upd_same]
      unfold lenG
      rw [if_pos h]
    · refine ifF (decide_eq_false (fun e => h (by injection e with e; omega))) ?_
      refine ⟨(by decide +kernel : (1 : Nat) ≤ sizeLine), fun a ha => ⟨_, rfl, _, rfl, _, _, rfl, rfl, _, _, rfl, rfl, ?_⟩⟩
      refine ⟨RgOk.of_le (by omega) (by omega) (by omega) (by omega), fun b hb => ?_⟩
      have en : ((n : Int) - 1) = ((n - 1 : Nat) : Int) := by omega
      have er : rgV (row.length : Int) ((n : Int) - 1) = nI (rng row.length (n - 1)) := by rw [en]; exact rgvN _ _
      rw [er]
      have ba : b ≠ a := fun z => by rw [z, upd_same] at hb; cases hb
      refine ⟨a, b, [V.int 0], nI (rng row.length (n - 1)), rfl, rfl, by rw [upd_ne ba.symm, upd_same], upd_same, by rw [nI_len, rng_len]; exact Nat.le_of_lt (small1000 (by show 1 + _ ≤ 1000; omega)), fun d hd => ?_⟩
      have e1 := ex_new (o := .lst ([V.int 0] ++ nI (rng row.length (n - 1)))) (ex_new (o := .lst (nI (rng row.length (n - 1)))) (Ex.new (o := .lst [V.int 0]) ha) hb) hd
      have gd : upd (upd (upd H a (.lst [V.int 0])) b (.lst (nI (rng row.length (n - 1))))) d (.lst ([V.int 0] ++ nI (rng row.length (n - 1)))) d = some (.lst (nI (0 :: rng row.length (n - 1)))) := upd_same
      generalize upd (upd (upd H a (.lst [V.int 0])) b (.lst (nI (rng row.length (n - 1))))) d (.lst ([V.int 0] ++ nI (rng row.length (n - 1)))) = H1 at e1 gd ⊢
      refine ⟨_, rfl, p, rfl, ⟨_, hp _⟩, fun D hD => ?_⟩
      refine lc_tup (K := K) (a := p) (xs := nI row) (fun j G => Ex H1 G ∧ ListN G D ((row.take j).map fun x => if x = 0 then n - 1 else x)) ⟨Ex.new hD, upd_same⟩ (fun j G _ q => hp _) ?_ ?_
      · rintro j x G hx ⟨eG, gD⟩
        obtain ⟨jl, rfl⟩ := nat_at hx
        have hx2 := getD_some9 jl
        generalize row.getD j 0 = x at hx2
        have tk := take_map1 (fun x => if x = 0 then n - 1 else x) hx2
        have z : (if x = 0 then n - 1 else x : Nat) = (if x = 0 then n - 1 else x : Nat) := rfl
        refine ⟨rfl, _, rfl, rfl, _, rfl, ?_⟩
        show if decide (V.int (x : Int) = V.int 0) = true then _ else _
        have fin : ∀ v : V, v = V.int ((if x = 0 then n - 1 else x : Nat) : Int) → ∃ acc, G D = some (.lst acc) ∧ acc.length < sizeLine ∧ (Ex H1 (upd G D (.lst (acc ++ [v]))) ∧ ListN (upd G D (.lst (acc ++ [v]))) D ((row.take (j + 1)).map fun x => if x = 0 then n - 1 else x)) := by
          rintro v rfl
          refine ⟨_, gD, small1000 (by rw [nI_len, List.length_map, List.length_take]; omega), fun y o ho => by rw [upd_ne (ne_of_none ho hD)]; exact eG _ _ ho, ?_⟩
          show upd G D _ D = _
          rw [upd_same, tk, nI_app]
        by_cases c : x = 0
        · refine ifT (decide_eq_true (by rw [c]; rfl)) ?_
          refine ⟨_, rfl, _, _, rfl, rfl, fin _ ?_⟩
          rw [if_pos c]
          show V.int ((n : Int) - 1) = _
          rw [en]
        · refine ifF (decide_eq_false (fun e => c (by injection e with e; omega))) ?_
          refine ⟨_, rfl, fin _ ?_⟩
          rw [if_neg c]
      · rintro G ⟨eG, gD⟩
        rw [nI_len, List.take_length] at gD
        have gd2 := eG _ _ gd
        refine ⟨_, rfl, D, d, _, _, rfl, rfl, gD, gd2, ?_, fun q hq => ?_⟩
        · rw [nI_len, nI_len, List.length_map, List.length_cons, rng_len]
          exact Nat.le_of_lt (small1000 (by omega))
        · refine k q _ (back_none (e1.trans eG) hq) (ex_new (e1.trans eG) hq) ?_
          show upd G q _ q = _
          rw [upd_same, ← nI_cat]
          unfold lenG
          rw [if_neg h]

end

section
variable {P : Program} {w : World} {K : PySem.W.Frag} {mg : Str → Option Value} {base : Heap} {A : Ad}
theorem ok_slot_crowd (T : Txt K mg A)   : Okd P w K mg base CX0 1 A.slot_crowd P_slot_crowd spSc := by
  obtain ⟨fd, F⟩ := T.d_slot_crowd

  refine ⟨fd, F.ok sc_slot_crowd (fun vs H Q E h => ?_) (fun cdv A' outer s H vs Q E hr h => ?_), F.binds fun _ _ _ _ _ _ us hl => match us, hl with | [_], _ => rfl⟩
  · obtain ⟨n, rfl, _⟩ := h
    rfl
  · obtain ⟨n, rfl, n4, n41, k⟩ := h
    refine ⟨_, (pss_cons (ps_asg (pe_glob (v := .ref A.SLOT_CROWD) rfl T.g_SLOT_CROWD rfl) (pg_tup (by rfl) (pgs_cons (pg_name (i := 1) sc_slot_crowd.nd rfl (Or.inl rfl)) (pgs_cons (pg_name (i := 2) sc_slot_crowd.nd rfl (Or.inl rfl)) (pgs_cons (pg_name (i := 3) sc_slot_crowd.nd rfl (Or.inl rfl)) pgs_nil)))))
      (pss_cons (ps_set (i := 4) sc_slot_crowd.nd rfl (Or.inr rfl) (pe_listRg (by rfl) (by rfl) T.n_list (prg_2 (by rfl) T.n_range (pe_callB call_len_seq (by rfl) T.n_len PySem.boot_len (pa_cons (pv 1) pa_nil)) (pv 0))))
      (pss_one (ps_ret (pe_tup (pa_cons (pe_op op_cat (pe_callTy call_list_of (by rfl) T.n_list (by decide +kernel) (pa_cons (pv 1) pa_nil)) (pv 4)) (pa_cons (pe_lc (own := [("row", 5)]) (tt := tYes) (by rfl) sc_slot_crowd.nd (pi_tup (pv 2)) (blkOk_by (own := [("row", 5)]) (N := N_slot_crowd) (sc := defScope s_slot_crowd) (by decide +kernel)) (fun _ _ _ _ _ => (pg_name (i := 5) sc_slot_crowd.nd rfl (Or.inl rfl))) (fun _ _ _ _ _ => pts_nil) (fun _ _ _ _ _ => (pe_op op_cat (pe_callTy (T := "list") (call_list_ofK (K := K) rfl) (by rfl) T.n_list (by decide +kernel) (pa_cons (pv 5) pa_nil)) (pv 4)))) (pa_cons (pe_lc (own := [("row", 5)]) (tt := tYes) (by rfl) sc_slot_crowd.nd (pi_tup (pv 3)) (blkOk_by (own := [("row", 5)]) (N := N_slot_crowd) (sc := defScope s_slot_crowd) (by decide +kernel)) (fun _ _ _ _ _ => (pg_name (i := 5) sc_slot_crowd.nd rfl (Or.inl rfl))) (fun _ _ _ _ _ => pts_nil) (fun _ _ _ _ _ => (pe_op op_cat (pe_callTy (T := "list") (call_list_ofK (K := K) rfl) (by rfl) T.n_list (by decide +kernel) (pa_cons (pv 5) pa_nil)) (pv 4)))) pa_nil)))))))), ?_⟩
    obtain ⟨i, a, b, ht, hi, ⟨pa, ha, la, ka⟩, ⟨pb, hb, lb, kb⟩⟩ := T.w_SLOT_CROWD
    have hi : ∀ H, SqT K H i (nI slotI) := hi
    refine ⟨_, _, rfl, ht _, rfl, _, _, rfl, _, _, rfl, _, _, rfl, rfl, ?_⟩
    refine ⟨_, rfl, i, _, rfl, .inr (hi _), _, rfl, _, _, rfl, rfl, RgOk.of_le (by show (0 : Int) ≤ 4; decide) (by omega) (by show (4 : Int) ≤ 16777216; decide) (by omega), fun r hr => ?_⟩
    have er : rgV (((nI slotI).length : Nat) : Int) (n : Int) = nI (rng 4 n) := rgvN 4 n
    rw [er]
    have e1 := Ex.new (o := .lst (nI (rng 4 n))) hr
    have g1 : ListN (upd H r (.lst (nI (rng 4 n)))) r (rng 4 n) := upd_same
    generalize upd H r (.lst (nI (rng 4 n))) = H1 at e1 g1 ⊢
    refine ⟨_, rfl, i, _, rfl, .inr (hi _), fun l1 hl1 => ⟨_, rfl, l1, r, _, _, rfl, rfl, upd_same, Ex.new hl1 _ _ g1, ?_, fun im him => ?_⟩⟩
    · rw [nI_len, nI_len, rng_len]
      exact Nat.le_of_lt (small1000 (by show 4 + _ ≤ 1000; omega))
    have e2 : Ex H (upd (upd H1 l1 (.lst (nI slotI))) im (.lst ((nI slotI) ++ nI (rng 4 n)))) := ex_new (ex_new e1 hl1) him
    have g2 : ListN (upd (upd H1 l1 (.lst (nI slotI))) im (.lst ((nI slotI) ++ nI (rng 4 n)))) im (slotI ++ rng 4 n) := upd_same.trans (by rw [nI_cat])
    have g3 : ListN (upd (upd H1 l1 (.lst (nI slotI))) im (.lst ((nI slotI) ++ nI (rng 4 n)))) r (rng 4 n) := ex_new (Ex.new hl1) him _ _ g1
    have hHim : H im = none := back_none (ex_new e1 hl1) him
    show tCons _ _ _ _ _
    generalize upd (upd H1 l1 (.lst (nI slotI))) im (.lst ((nI slotI) ++ nI (rng 4 n))) = H2 at e2 g2 g3 ⊢
    refine rows_tup (rows := slotA) (fun row => row ++ rng 4 n) (fun Q h => ⟨_, rfl, h⟩) (fun G _ => ha G) la (by decide) (fun _ => rfl) (fun j q row G Q hq hr1 eG kk => ?_) (fun D G hD eG gD => ?_)
    · have r4 : row.length ≤ 900 := by have := List.mem_of_getElem? hr1; revert this; unfold slotA; intro this; simp at this; rcases this with rfl | rfl | rfl | rfl <;> decide
      refine ⟨_, rfl, q, _, rfl, .inr (ka j q row hq hr1 G), fun l hl => ⟨_, rfl, l, r, _, _, rfl, rfl, upd_same, Ex.new hl _ _ (eG _ _ g3), ?_, fun t ht => kk t _ (back_none (Ex.new hl) ht) (ex_new (Ex.new hl) ht) (upd_same.trans (by rw [nI_cat]; rfl))⟩⟩
      rw [nI_len, rng_len, List.length_map]
      exact Nat.le_of_lt (small1000 (by omega))
    refine rows_tup (rows := slotB) (fun row => row ++ rng 4 n) (fun Q h => ⟨_, rfl, h⟩) (fun G _ => hb G) lb (by decide) (fun _ => rfl) (fun j q row G2 Q hq hr1 eG2 kk => ?_) (fun D2 G2 hD2 eG2 gD2 => ?_)
    · have r4 : row.length ≤ 900 := by have := List.mem_of_getElem? hr1; revert this; unfold slotB; intro this; simp at this; rcases this with rfl | rfl | rfl | rfl <;> decide
      refine ⟨_, rfl, q, _, rfl, .inr (kb j q row hq hr1 G2), fun l hl => ⟨_, rfl, l, r, _, _, rfl, rfl, upd_same, Ex.new hl _ _ (eG2 _ _ (eG _ _ g3)), ?_, fun t ht => kk t _ (back_none (Ex.new hl) ht) (ex_new (Ex.new hl) ht) (upd_same.trans (by rw [nI_cat]; rfl))⟩⟩
      rw [nI_len, rng_len, List.length_map]
      exact Nat.le_of_lt (small1000 (by omega))
    refine ⟨(by decide +kernel : (3 : Nat) ≤ sizeLine), fun t ht => k t _ (ex_new ((e2.trans eG).trans eG2) ht) ⟨im, D, D2, upd_same, hHim, ?_, ?_, ?_⟩⟩
    · exact Ex.new ht _ _ (eG2 _ _ (eG _ _ g2))
    · exact ((gD.ex eG2).ex (Ex.new ht)).old e2
    · exact (gD2.ex (Ex.new ht)).old (e2.trans eG)

end

section
variable {P : Program} {w : World} {K : PySem.W.Frag} {mg : Str → Option Value} {base : Heap} {A : Ad}
theorem ok_ring_crowd (T : Txt K mg A)  (g_lengthened : Okd P w K mg base CX0 1 A.lengthened P_lengthened (spLg K)) : Okd P w K mg base CX0 2 A.ring_crowd P_ring_crowd spRc := by
  obtain ⟨fd, F⟩ := T.d_ring_crowd
  obtain ⟨fd_lengthened, G_lengthened, b_lengthened⟩ := g_lengthened
  refine ⟨fd, F.ok sc_ring_crowd (fun vs H Q E h => ?_) (fun cdv A' outer s H vs Q E hr h => ?_), F.binds fun _ _ _ _ _ _ us hl => match us, hl with | [_], _ => rfl⟩
  · obtain ⟨n, rfl, _⟩ := h
    rfl
  · obtain ⟨n, rfl, n6, n41, k⟩ := h
    refine ⟨_, (pss_cons (ps_asg (pe_glob (v := .ref A.RING_CROWD) rfl T.g_RING_CROWD rfl) (pg_tup (by rfl) (pgs_cons (pg_name (i := 1) sc_ring_crowd.nd rfl (Or.inl rfl)) (pgs_cons (pg_name (i := 2) sc_ring_crowd.nd rfl (Or.inl rfl)) (pgs_cons (pg_name (i := 3) sc_ring_crowd.nd rfl (Or.inl rfl)) pgs_nil)))))
      (pss_one (ps_ret (pe_tup (pa_cons (pe_call G_lengthened (hr.mono (by decide)) (by rfl) T.g_lengthened T.k_lengthened b_lengthened .nil pass0 (pa_cons (pv 1) (pa_cons (pv 0) pa_nil))) (pa_cons (pe_lc (own := [("row", 4)]) (tt := tYes) (by rfl) sc_ring_crowd.nd (pi_tup (pv 2)) (blkOk_by (own := [("row", 4)]) (N := N_ring_crowd) (sc := defScope s_ring_crowd) (by decide +kernel)) (fun _ _ _ _ _ => (pg_name (i := 4) sc_ring_crowd.nd rfl (Or.inl rfl))) (fun _ _ _ _ _ => pts_nil) (fun _ _ _ _ _ => (pe_call G_lengthened (hr.mono (by decide)) (by rfl) T.g_lengthened T.k_lengthened b_lengthened .nil pass0 (pa_cons (pv 4) (pa_cons (pv 0) pa_nil))))) (pa_cons (pe_lc (own := [("row", 4)]) (tt := tYes) (by rfl) sc_ring_crowd.nd (pi_tup (pv 3)) (blkOk_by (own := [("row", 4)]) (N := N_ring_crowd) (sc := defScope s_ring_crowd) (by decide +kernel)) (fun _ _ _ _ _ => (pg_name (i := 4) sc_ring_crowd.nd rfl (Or.inl rfl))) (fun _ _ _ _ _ => pts_nil) (fun _ _ _ _ _ => (pe_call G_lengthened (hr.mono (by decide)) (by rfl) T.g_lengthened T.k_lengthened b_lengthened .nil pass0 (pa_cons (pv 4) (pa_cons (pv 0) pa_nil))))) pa_nil))))))), ?_⟩
    obtain ⟨i, a, b, ht, hi, ⟨pa, ha, la, ka⟩, ⟨pb, hb, lb, kb⟩⟩ := T.w_RING_CROWD
    refine ⟨_, _, rfl, ht _, rfl, _, _, rfl, _, _, rfl, _, _, rfl, rfl, ?_⟩
    refine ⟨_, rfl, _, rfl, i, ringI, n, rfl, hi, n6, n41, fun im H1 him e1 g1 => ?_⟩
    refine rows_tup (rows := ringA) (fun row => lenG row n) (fun Q h => ⟨_, rfl, h⟩) (fun G _ => ha G) la (by decide) (fun _ => rfl) (fun j q row G Q hq hr1 eG kk => ?_) (fun D G hD eG gD => ?_)
    · have r6 : row.length = 6 := by have := List.mem_of_getElem? hr1; revert this; unfold ringA; intro this; simp at this; rcases this with rfl | rfl | rfl | rfl <;> rfl
      exact ⟨_, rfl, _, rfl, q, row, n, rfl, ka j q row hq hr1, by omega, n41, kk⟩
    refine rows_tup (rows := ringB) (fun row => lenG row n) (fun Q h => ⟨_, rfl, h⟩) (fun G _ => hb G) lb (by decide) (fun _ => rfl) (fun j q row G2 Q hq hr1 eG2 kk => ?_) (fun D2 G2 hD2 eG2 gD2 => ?_)
    · have r6 : row.length = 6 := by have := List.mem_of_getElem? hr1; revert this; unfold ringB; intro this; simp at this; rcases this with rfl | rfl | rfl | rfl <;> rfl
      exact ⟨_, rfl, _, rfl, q, row, n, rfl, kb j q row hq hr1, by omega, n41, kk⟩
    refine ⟨(by decide +kernel : (3 : Nat) ≤ sizeLine), fun t ht => k t _ (ex_new ((e1.trans eG).trans eG2) ht) ⟨im, D, D2, upd_same, him, ?_, ?_, ?_⟩⟩
    · exact Ex.new ht _ _ (eG2 _ _ (eG _ _ g1))
    · exact ((gD.ex eG2).ex (Ex.new ht)).old e1
    · exact (gD2.ex (Ex.new ht)).old (e1.trans eG)

end

section
variable {P : Program} {w : World} {K : PySem.W.Frag} {mg : Str → Option Value} {base : Heap} {A : Ad}
theorem ok_m_pair_crowd (T : Txt K mg A)   : Okd P w K mg base CX0 4 A.m_pair_crowd P_m_pair_crowd (spCrw A .pair) := by
  obtain ⟨fd, F⟩ := T.d_m_pair_crowd

  refine ⟨fd, F.ok sc_m_pair_crowd (fun vs H Q E h => ?_) (fun cdv A' outer s H vs Q E hr h => ?_), F.binds fun _ _ _ _ _ _ us hl => match us, hl with | [_], _ => rfl⟩
  · obtain ⟨u, dx, n, o, rfl, _⟩ := h
    rfl
  · obtain ⟨u, dx, n, o, rfl, hu, n41, k1, k2⟩ := h
    refine ⟨_, (pss_one (ps_ret pe_non)), ?_⟩
    exact k1 rfl H (Ex.refl H)

end

section
variable {P : Program} {w : World} {K : PySem.W.Frag} {mg : Str → Option Value} {base : Heap} {A : Ad}
theorem ok_m_slot_crowd (T : Txt K mg A)  (g_slot_crowd : Okd P w K mg base CX0 1 A.slot_crowd P_slot_crowd spSc) : Okd P w K mg base CX0 4 A.m_slot_crowd P_m_slot_crowd (spCrw A .slot) := by
  obtain ⟨fd, F⟩ := T.d_m_slot_crowd
  obtain ⟨fd_slot_crowd, G_slot_crowd, b_slot_crowd⟩ := g_slot_crowd
  refine ⟨fd, F.ok sc_m_slot_crowd (fun vs H Q E h => ?_) (fun cdv A' outer s H vs Q E hr h => ?_), F.binds fun _ _ _ _ _ _ us hl => match us, hl with | [_], _ => rfl⟩
  · obtain ⟨u, dx, n, o, rfl, _⟩ := h
    rfl
  · obtain ⟨u, dx, n, o, rfl, hu, n41, k1, k2⟩ := h
    refine ⟨_, (pss_cons (ps_if (pt_cmpR op_lt (pe_fld (pv 0) rfl) pe_int (nomark _)) (pss_one (ps_ret pe_non)) pss_nil)
      (pss_one (ps_ret (pe_call G_slot_crowd (hr.mono (by decide)) (by rfl) T.g_slot_crowd T.k_slot_crowd b_slot_crowd .nil pass0 (pa_cons (pe_fld (pv 0) rfl) pa_nil))))), ?_⟩
    refine ⟨_, rfl, u, _, dx, _, _, rfl, hu, cls_B T .slot, ns_B T .slot, rfl, _, _, rfl, rfl, _, rfl, ?_⟩
    by_cases c : n < 4
    · exact ifT (decide_eq_true (by omega)) (k1 (decide_eq_true c) H (Ex.refl H))
    · refine ifF (decide_eq_false (by omega)) ?_
      exact ⟨_, rfl, u, _, dx, _, _, rfl, hu, cls_B T .slot, ns_B T .slot, rfl, n, rfl, by omega, n41, fun t H' e h => k2 (decide_eq_false c) t H' e h⟩

end

section
variable {P : Program} {w : World} {K : PySem.W.Frag} {mg : Str → Option Value} {base : Heap} {A : Ad}
theorem ok_m_parity_crowd (T : Txt K mg A)  (g_ring_crowd : Okd P w K mg base CX0 2 A.ring_crowd P_ring_crowd spRc) (g_is_odd : Okd P w K mg base CX0 2 A.is_odd P_is_odd spOd) (g_with_names_exchanged : Okd P w K mg base CX0 2 A.with_names_exchanged P_with_names_exchanged spWx) : Okd P w K mg base CX0 4 A.m_parity_crowd P_m_parity_crowd (spCrw A .parity) := by
  obtain ⟨fd, F⟩ := T.d_m_parity_crowd
  obtain ⟨fd_ring_crowd, G_ring_crowd, b_ring_crowd⟩ := g_ring_crowd
  obtain ⟨fd_is_odd, G_is_odd, b_is_odd⟩ := g_is_odd
  obtain ⟨fd_with_names_exchanged, G_with_names_exchanged, b_with_names_exchanged⟩ := g_with_names_exchanged
  refine ⟨fd, F.ok sc_m_parity_crowd (fun vs H Q E h => ?_) (fun cdv A' outer s H vs Q E hr h => ?_), F.binds fun _ _ _ _ _ _ us hl => match us, hl with | [_], _ => rfl⟩
  · obtain ⟨u, dx, n, o, rfl, _⟩ := h
    rfl
  · obtain ⟨u, dx, n, o, rfl, hu, n41, k1, k2⟩ := h
    refine ⟨_, (pss_cons (ps_if (pt_cmpR op_lt (pe_fld (pv 0) rfl) pe_int (nomark _)) (pss_one (ps_ret pe_non)) pss_nil)
      (pss_cons (ps_asg (pe_call G_ring_crowd (hr.mono (by decide)) (by rfl) T.g_ring_crowd T.k_ring_crowd b_ring_crowd .nil pass0 (pa_cons (pe_fld (pv 0) rfl) pa_nil)) (pg_tup (by rfl) (pgs_cons (pg_name (i := 1) sc_m_parity_crowd.nd rfl (Or.inl rfl)) (pgs_cons (pg_name (i := 2) sc_m_parity_crowd.nd rfl (Or.inl rfl)) (pgs_cons (pg_name (i := 3) sc_m_parity_crowd.nd rfl (Or.inl rfl)) pgs_nil)))))
      (pss_cons (ps_if (pt_cmpR op_eq (pe_call G_is_odd (hr.mono (by decide)) (by rfl) T.g_is_odd T.k_is_odd b_is_odd .nil pass0 (pa_cons (pe_ix ix_list (pv 2) pe_int (fun _ _ => rfl)) pa_nil)) (pe_fld (pv 0) rfl) (nomark _)) (pss_one (ps_ret (pe_tup (pa_cons (pv 1) (pa_cons (pv 2) (pa_cons (pv 3) pa_nil)))))) pss_nil)
      (pss_one (ps_ret (pe_tup (pa_cons (pe_call G_with_names_exchanged (hr.mono (by decide)) (by rfl) T.g_with_names_exchanged T.k_with_names_exchanged b_with_names_exchanged .nil pass0 (pa_cons (pv 1) pa_nil)) (pa_cons (pe_lc (own := [("row", 4)]) (tt := tYes) (by rfl) sc_m_parity_crowd.nd (pi_list (pv 2)) (blkOk_by (own := [("row", 4)]) (N := N_m_parity_crowd) (sc := defScope s_m_parity_crowd) (by decide +kernel)) (fun _ _ _ _ _ => (pg_name (i := 4) sc_m_parity_crowd.nd rfl (Or.inl rfl))) (fun _ _ _ _ _ => pts_nil) (fun _ _ _ _ _ => (pe_call G_with_names_exchanged (hr.mono (by decide)) (by rfl) T.g_with_names_exchanged T.k_with_names_exchanged b_with_names_exchanged .nil pass0 (pa_cons (pv 4) pa_nil)))) (pa_cons (pe_lc (own := [("row", 4)]) (tt := tYes) (by rfl) sc_m_parity_crowd.nd (pi_list (pv 3)) (blkOk_by (own := [("row", 4)]) (N := N_m_parity_crowd) (sc := defScope s_m_parity_crowd) (by decide +kernel)) (fun _ _ _ _ _ => (pg_name (i := 4) sc_m_parity_crowd.nd rfl (Or.inl rfl))) (fun _ _ _ _ _ => pts_nil) (fun _ _ _ _ _ => (pe_call G_with_names_exchanged (hr.mono (by decide)) (by rfl) T.g_with_names_exchanged T.k_with_names_exchanged b_with_names_exchanged .nil pass0 (pa_cons (pv 4) pa_nil)))) pa_nil))))))))), ?_⟩
    refine ⟨_, rfl, u, _, dx, _, _, rfl, hu, cls_B T .parity, ns_B T .parity, rfl, _, _, rfl, rfl, _, rfl, ?_⟩
    by_cases c : n < 6
    · exact ifT (decide_eq_true (by omega)) (k1 (decide_eq_true c) H (Ex.refl H))
    refine ifF (decide_eq_false (by omega)) ?_
    have n6 : 6 ≤ n := by omega
    refine ⟨_, rfl, u, _, dx, _, _, rfl, hu, cls_B T .parity, ns_B T .parity, rfl, n, rfl, n6, n41, fun t H1 e1 h1 => ?_⟩
    obtain ⟨i, a, b, ht, hi0, hi, ⟨pa, a0, ga, la, na, ka⟩, ⟨pb, b0, gb, lb, nb, kb⟩⟩ := h1
    have OK : OkC 4 n (ringC n) := okc (crd_ok (w := 4) (n := n) (by decide) (by decide) n41 n6)
    have f1 := four_iff OK.f1
    have f2 := four_iff OK.f2
    refine ⟨t, _, rfl, SqT.of ht, rfl, _, _, rfl, _, _, rfl, _, _, rfl, rfl, ?_⟩
    have r0 : (ringC n).2.1[0]? = some ((ringC n).2.1.getD 0 []) := rfl
    have l4 : 0 < pa.length := by rw [la]; show 0 < 4; decide
    have q0 : pa[0]? = some pa[0] := List.getElem?_eq_getElem l4
    have o0 := good_of (f1.2 _ (List.mem_of_getElem? r0)).1 n41
    refine ⟨_, rfl, a, _, 0, _, rfl, rfl, SqL.of ga, atR (i := 0) q0, pa[0], _, rfl, ka 0 _ _ q0 r0, o0, fun H2 e2 => ⟨_, rfl, u, _, dx, _, _, rfl, e2 _ _ (e1 _ _ hu), cls_B T .parity, no_B T .parity, rfl, rfl, _, rfl, ?_⟩⟩
    by_cases y : oddR ((ringC n).2.1.getD 0 []) = o
    · refine ifT (decide_eq_true (by rw [y])) ?_
      refine ⟨_, rfl, _, rfl, _, rfl, (by decide +kernel : (3 : Nat) ≤ sizeLine), fun z hz => k2 (decide_eq_false c) z _ (ex_new (e1.trans e2) hz) ?_⟩
      have pc : crdB n o .parity = ringC n := if_pos y
      rw [pc]
      exact ⟨i, a, b, upd_same, hi0, Ex.new hz _ _ (e2 _ _ hi), LL.ex (Ex.new hz) (LL.ex e2 ⟨pa, a0, ga, la, na, ka⟩), LL.ex (Ex.new hz) (LL.ex e2 ⟨pb, b0, gb, lb, nb, kb⟩)⟩
    refine ifF (decide_eq_false (fun e => y (by injection e with e))) ?_
    have pc : crdB n o .parity = (exch (ringC n).1, (ringC n).2.1.map exch, (ringC n).2.2.map exch) := if_neg y
    have ei := rowOk_iff OK.r
    have e12 := e1.trans e2
    refine ⟨_, rfl, i, _, rfl, e2 _ _ hi, by rw [ei.1]; exact n41, fun im H3 him e3 g3 => ?_⟩
    have e13 := e12.trans e3
    refine rows_list (rows := (ringC n).2.1) exch (fun Q h => ⟨_, rfl, h⟩) (fun G eG => SqL.of (eG _ _ (e3 _ _ (e2 _ _ ga)))) la (by show 4 ≤ 900; decide) (fun _ => rfl) (fun j q row G Q hq hr1 eG kk => ?_) (fun D G hD eG gD => ?_)
    · exact ⟨_, rfl, q, row, rfl, eG _ _ (e3 _ _ (e2 _ _ (ka j q row hq hr1))), by rw [(rowOk_iff (f1.2 _ (List.mem_of_getElem? hr1)).1).1]; exact n41, kk⟩
    refine rows_list (rows := (ringC n).2.2) exch (fun Q h => ⟨_, rfl, h⟩) (fun G2 eG2 => SqL.of (eG2 _ _ (eG _ _ (e3 _ _ (e2 _ _ gb))))) lb (by show 4 ≤ 900; decide) (fun _ => rfl) (fun j q row G2 Q hq hr1 eG2 kk => ?_) (fun D2 G2 hD2 eG2 gD2 => ?_)
    · exact ⟨_, rfl, q, row, rfl, eG2 _ _ (eG _ _ (e3 _ _ (e2 _ _ (kb j q row hq hr1)))), by rw [(rowOk_iff (f2.2 _ (List.mem_of_getElem? hr1)).1).1]; exact n41, kk⟩
    refine ⟨(by decide +kernel : (3 : Nat) ≤ sizeLine), fun z hz => k2 (decide_eq_false c) z _ (ex_new ((e13.trans eG).trans eG2) hz) ?_⟩
    rw [pc]
    refine ⟨im, D, D2, upd_same, back_none e12 him, ?_, ?_, ?_⟩
    · exact Ex.new hz _ _ (eG2 _ _ (eG _ _ g3))
    · exact ((gD.ex eG2).ex (Ex.new hz)).old e13
    · exact (gD2.ex (Ex.new hz)).old (e13.trans eG)

end

section
variable {P : Program} {w : World} {K : PySem.W.Frag} {mg : Str → Option Value} {base : Heap} {A : Ad}
theorem ok_m_ring_crowd (T : Txt K mg A)  (g_ring_crowd : Okd P w K mg base CX0 2 A.ring_crowd P_ring_crowd spRc) : Okd P w K mg base CX0 4 A.m_ring_crowd P_m_ring_crowd (spCrw A .ring) := by
  obtain ⟨fd, F⟩ := T.d_m_ring_crowd
  obtain ⟨fd_ring_crowd, G_ring_crowd, b_ring_crowd⟩ := g_ring_crowd
  refine ⟨fd, F.ok sc_m_ring_crowd (fun vs H Q E h => ?_) (fun cdv A' outer s H vs Q E hr h => ?_), F.binds fun _ _ _ _ _ _ us hl => match us, hl with | [_], _ => rfl⟩
  · obtain ⟨u, dx, n, o, rfl, _⟩ := h
    rfl
  · obtain ⟨u, dx, n, o, rfl, hu, n41, k1, k2⟩ := h
    refine ⟨_, (pss_cons (ps_if (pt_cmpR op_lt (pe_fld (pv 0) rfl) pe_int (nomark _)) (pss_one (ps_ret pe_non)) pss_nil)
      (pss_one (ps_ret (pe_call G_ring_crowd (hr.mono (by decide)) (by rfl) T.g_ring_crowd T.k_ring_crowd b_ring_crowd .nil pass0 (pa_cons (pe_fld (pv 0) rfl) pa_nil))))), ?_⟩
    refine ⟨_, rfl, u, _, dx, _, _, rfl, hu, cls_B T .ring, ns_B T .ring, rfl, _, _, rfl, rfl, _, rfl, ?_⟩
    by_cases c : n < 6
    · exact ifT (decide_eq_true (by omega)) (k1 (decide_eq_true c) H (Ex.refl H))
    · refine ifF (decide_eq_false (by omega)) ?_
      exact ⟨_, rfl, u, _, dx, _, _, rfl, hu, cls_B T .ring, ns_B T .ring, rfl, n, rfl, by omega, n41, fun t H' e h => k2 (decide_eq_false c) t H' e h⟩

end

section
variable {P : Program} {w : World} {K : PySem.W.Frag} {mg : Str → Option Value} {base : Heap} {A : Ad}
theorem ok_law_book (T : Txt K mg A)  (g_m_book_init : Okd P w K mg base CX0 3 A.m_book_init P_m_book_init (spBi A)) (hO : OkPar P w K mg base 4 A) (g_m_ring_init : Okd P w K mg base CX0 5 A.m_ring_init ["self", "size"] (spRi A)) : Okd P w K mg base CX0 7 A.law_book P_law_book (spBk A) := by
  obtain ⟨fd, F⟩ := T.d_law_book
  obtain ⟨fd_m_book_init, G_m_book_init, b_m_book_init⟩ := g_m_book_init
  obtain ⟨F_par0, F_par1⟩ := hO
  obtain ⟨fd_m_ring_init, G_m_ring_init, b_m_ring_init⟩ := g_m_ring_init
  refine ⟨fd, F.ok sc_law_book (fun vs H Q E h => ?_) (fun cdv A' outer s H vs Q E hr h => ?_), F.binds fun _ _ _ _ _ _ us hl => match us, hl with | [_, _], _ => rfl⟩
  · obtain ⟨w, n, rfl, _⟩ := h
    rfl
  · obtain ⟨w, n, rfl, w5, ln, n41, k⟩ := h
    refine ⟨_, (pss_cons (ps_if (pt_cmpR op_eq (pv 0) pe_int (nomark _)) (pss_one (ps_ret (pe_make T.mk_PairBook G_m_book_init (hr.mono (by decide)) (by rfl) T.g_PairBook b_m_book_init .nil pass0 (pa_cons (pv 1) pa_nil)))) pss_nil)
      (pss_cons (ps_if (pt_cmpR op_eq (pv 0) pe_int (nomark _)) (pss_one (ps_ret (pe_make T.mk_SlotBook G_m_book_init (hr.mono (by decide)) (by rfl) T.g_SlotBook b_m_book_init .nil pass0 (pa_cons (pv 1) pa_nil)))) pss_nil)
      (pss_cons (ps_if (pt_cmpR op_eq (pv 0) pe_int (nomark _)) (pss_one (ps_ret (BkR.pe_makeFK T.mk_ParityBook F_par0 (hr.mono (by decide)) (by rfl) T.g_ParityBook (passH0 (fun _ => E0)) (pa_cons (pv 1) pa_nil) pk_nil))) pss_nil)
      (pss_cons (ps_if (pt_cmpR op_eq (pv 0) pe_int (nomark _)) (pss_one (ps_ret (BkR.pe_makeFK T.mk_ParityBook F_par1 (hr.mono (by decide)) (by rfl) T.g_ParityBook (passH0 (fun _ => E0)) (pa_cons (pv 1) pa_nil) (pk_cons pe_bl pk_nil)))) pss_nil)
      (pss_one (ps_ret (pe_make T.mk_RingBook G_m_ring_init (hr.mono (by decide)) (by rfl) T.g_RingBook b_m_ring_init .nil pass0 (pa_cons (pv 1) pa_nil)))))))), ?_⟩
    have hw : w = 0 ∨ w = 1 ∨ w = 2 ∨ w = 3 ∨ w = 4 := by omega
    rcases hw with rfl | rfl | rfl | rfl | rfl
    · refine ⟨_, rfl, rfl, _, rfl, ifT rfl ?_⟩
      exact ⟨_, rfl, fun x dx hx hdx ne => ⟨x, dx, n, .pair, rfl, upd_same, ln, fun H' k1 h1 => ⟨rfl, k x H' hx (mkEx hx hdx k1) ⟨false, ⟨dx, h1⟩, fun _ => rfl, fun h => by cases h⟩⟩⟩⟩
    · refine ⟨_, rfl, rfl, _, rfl, ifF rfl ?_⟩
      refine ⟨_, rfl, rfl, _, rfl, ifT rfl ?_⟩
      exact ⟨_, rfl, fun x dx hx hdx ne => ⟨x, dx, n, .slot, rfl, upd_same, ln, fun H' k1 h1 => ⟨rfl, k x H' hx (mkEx hx hdx k1) ⟨false, ⟨dx, h1⟩, fun _ => rfl, fun h => by cases h⟩⟩⟩⟩
    · refine ⟨_, rfl, rfl, _, rfl, ifF rfl ?_⟩
      refine ⟨_, rfl, rfl, _, rfl, ifF rfl ?_⟩
      refine ⟨_, rfl, rfl, _, rfl, ifT rfl ?_⟩
      exact ⟨_, rfl, rfl, fun x dx hx hdx ne => ⟨x, dx, n, false, .parity, rfl, .inl rfl, upd_same, ln, fun H' k1 h1 => ⟨rfl, k x H' hx (mkEx hx hdx k1) ⟨false, ⟨dx, h1⟩, fun _ => rfl, fun h => by cases h⟩⟩⟩⟩
    · refine ⟨_, rfl, rfl, _, rfl, ifF rfl ?_⟩
      refine ⟨_, rfl, rfl, _, rfl, ifF rfl ?_⟩
      refine ⟨_, rfl, rfl, _, rfl, ifF rfl ?_⟩
      refine ⟨_, rfl, rfl, _, rfl, ifT rfl ?_⟩
      exact ⟨_, rfl, rfl, fun x dx hx hdx ne => ⟨x, dx, n, true, .parity, rfl, .inl rfl, upd_same, ln, fun H' k1 h1 => ⟨rfl, k x H' hx (mkEx hx hdx k1) ⟨true, ⟨dx, h1⟩, (fun h => by cases h), fun _ => rfl⟩⟩⟩⟩
    · refine ⟨_, rfl, rfl, _, rfl, ifF rfl ?_⟩
      refine ⟨_, rfl, rfl, _, rfl, ifF rfl ?_⟩
      refine ⟨_, rfl, rfl, _, rfl, ifF rfl ?_⟩
      refine ⟨_, rfl, rfl, _, rfl, ifF rfl ?_⟩
      exact ⟨_, rfl, fun x dx hx hdx ne => ⟨x, dx, n, rfl, upd_same, ln, fun o H' k1 h1 => ⟨rfl, k x H' hx (mkEx hx hdx k1) ⟨o, ⟨dx, h1⟩, (fun h => by cases h), fun h => by cases h⟩⟩⟩⟩

end

section
variable {P : Program} {w : World} {K : PySem.W.Frag} {mg : Str → Option Value} {base : Heap} {A : Ad}
theorem ok_law_circles (T : Txt K mg A)   : Okd P w K mg base CX0 1 A.law_circles P_law_circles spCi := by
  obtain ⟨fd, F⟩ := T.d_law_circles

  refine ⟨fd, F.ok sc_law_circles (fun vs H Q E h => ?_) (fun cdv A' outer s H vs Q E hr h => ?_), F.binds fun _ _ _ _ _ _ us hl => match us, hl with | [_], _ => rfl⟩
  · obtain ⟨p, row, rfl, _⟩ := h
    rfl
  · obtain ⟨p, row, rfl, hp, gd, k⟩ := h
    refine ⟨_, (pss_cons (ps_setLc (i := 1) (own := [("at", 4)]) (tt := tYes) (by rfl) sc_law_circles.nd rfl rfl (sw_true rfl rfl rfl (by decide +kernel)) (pi_range1 (by rfl) T.n_range (pa_cons (pe_callB call_len_seq (by rfl) T.n_len PySem.boot_len (pa_cons (pv 0) pa_nil)) pa_nil)) (blkOk_by (own := [("at", 4)]) (N := N_law_circles) (sc := defScope s_law_circles) (by decide +kernel)) (fun _ _ _ _ _ => (pg_name (i := 4) sc_law_circles.nd rfl (Or.inl rfl))) (fun _ _ _ _ _ => pts_nil) (fun _ _ _ _ _ => pe_bl))
      (pss_cons (ps_set (i := 2) sc_law_circles.nd rfl (Or.inl rfl) pe_int)
      (pss_cons (ps_for PassesOwn.never rfl (pi_range1 (by rfl) T.n_range (pa_cons (pe_callB call_len_seq (by rfl) T.n_len PySem.boot_len (pa_cons (pv 0) pa_nil)) pa_nil)) (pg_name (i := 3) sc_law_circles.nd rfl (Or.inl rfl)) (pss_cons (ps_set (i := 4) sc_law_circles.nd rfl (Or.inl rfl) (pv 3))
      (pss_cons (ps_if (pt_not (pt_val (pe_ix ix_list (pv 1) (pv 3) (fun _ _ => rfl)))) (pss_one (ps_set (i := 2) sc_law_circles.nd rfl (Or.inl rfl) (pe_op op_add (pv 2) pe_int))) pss_nil)
      (pss_one (ps_for PassesOwn.never rfl (pi_range1 (by rfl) T.n_range (pa_cons (pe_callB call_len_seq (by rfl) T.n_len PySem.boot_len (pa_cons (pv 0) pa_nil)) pa_nil)) (pg_name (i := 5) sc_law_circles.nd rfl (Or.inl rfl)) (pss_cons (ps_if (pt_val (pe_ix ix_list (pv 1) (pv 4) (fun _ _ => rfl))) (pss_one ps_break) pss_nil)
      (pss_cons (ps_asg pe_bl (pg_sub (pv 1) (pv 4) set_list))
      (pss_one (ps_set (i := 4) sc_law_circles.nd rfl (Or.inl rfl) (pe_ix ix_list (pv 0) (pv 4) (fun _ _ => rfl)))))))))))
      (pss_one (ps_ret (pv 2)))))), ?_⟩
    refine ⟨_, rfl, p, _, rfl, .inl (SqL.of hp), _, rfl, ?_⟩
    rw [nI_len]
    have g41 := gd.1
    refine ⟨by omega, by omega, fun q hq => lc_range (lo := 0) (n := row.length) (fun j G => Ex H G ∧ G q = some (.lst ((List.replicate j false).map V.bl))) ⟨Ex.new hq, upd_same⟩ ?_ ?_⟩
    · rintro j G hj ⟨eG, gD⟩
      refine ⟨rfl, _, gD, small1000 (by rw [List.length_map, List.length_replicate]; omega), fun y o ho => by rw [upd_ne (ne_of_none ho hq)]; exact eG _ _ ho, ?_⟩
      show upd G q _ q = _
      rw [upd_same, List.replicate_succ', List.map_append]
      rfl
    rintro H1 ⟨e1, gq⟩
    refine ⟨_, rfl, p, _, rfl, .inl (SqL.of (e1 _ _ hp)), _, rfl, ?_⟩
    rw [nI_len]
    refine ⟨by omega, by omega, for_range (lo := 0) (n := row.length) (fun i σ G => ∃ v3 v4 v5, σ = [some (.ref p), some (.ref q), some (.int ((cycS row i).2 : Int)), v3, v4, v5] ∧ Ex H G ∧ G q = some (.lst ((cycS row i).1.map V.bl))) ⟨_, _, _, rfl, e1, gq⟩ ?_ ?_⟩
    · rintro i σ G hi ⟨v3, v4, v5, rfl, eG, Gq⟩
      have cl := cycS_len row i
      have cn : (cycS row (i + 1)) = (walk row row.length (cycS row i).1 i, if (cycS row i).1.getD i true = true then (cycS row i).2 else (cycS row i).2 + 1) := rfl
      rw [cn]
      clear cn
      generalize cycS row i = C at cl Gq ⊢
      obtain ⟨seen0, m0⟩ := C
      have cl : seen0.length = row.length := cl
      have Gq : G q = some (.lst (seen0.map V.bl)) := Gq
      have i0 : (0 : Int) + (i : Int) = (i : Int) := Int.zero_add _
      show tSeq _ _ _ _ _
      rw [i0]
      refine ⟨_, rfl, _, rfl, _, rfl, q, _, _, _, rfl, rfl, SqL.of Gq, ixB (by omega), _, rfl, ?_⟩
      have rest : ∀ (D : L2.Ends) (m1 : Nat), (∀ v3 v4 v5 G', Ex H G' → G' q = some (.lst ((walk row row.length seen0 i).map V.bl)) → D.nx [some (.ref p), some (.ref q), some (.int (m1 : Int)), v3, v4, v5] G') → tFor (iRng1 (tCons (tCB (fun xs H_1 Q => ∃ p ys, xs = [V.ref p] ∧ (SqL K H_1 p ys ∨ SqT K H_1 p ys) ∧ Q (V.int (ys.length : Int)) H_1) (tCons (tVar 0) tNil)) tNil)) (gName 5) (tSeq (tIfS (tB (tOp (rIxL K) (tVar 1) (tVar 4))) tBreak tNext) (tSeq (tAsg (tC (V.bl true)) (gSub (tVar 1) (tVar 4) rSetL)) (tAsg (tOp (rIxL K) (tVar 0) (tVar 4)) (gName 4)))) D [some (.ref p), some (.ref q), some (.int (m1 : Int)), some (.int (i : Int)), some (.int (i : Int)), v5] G := by
        intro D m1 fin
        refine ⟨_, rfl, p, _, rfl, .inl (SqL.of (eG _ _ hp)), _, rfl, ?_⟩
        rw [nI_len]
        refine ⟨by omega, by omega, for_range (lo := 0) (n := row.length) (fun t σ G' => ∃ (v5 : Option V) (seen : List Bool) (here : Nat), σ = [some (.ref p), some (.ref q), some (.int (m1 : Int)), some (.int (i : Int)), some (.int (here : Int)), v5] ∧ Ex H G' ∧ G' q = some (.lst (seen.map V.bl)) ∧ here < row.length ∧ seen.length = row.length ∧ walk row row.length seen0 i = walk row (row.length - t) seen here) ⟨_, seen0, i, rfl, eG, Gq, hi, cl, rfl⟩ ?_ ?_⟩
        · rintro t σ G' ht ⟨v5, seen, here, rfl, eG', G'q, hh, hl, wk⟩
          refine ⟨_, rfl, _, rfl, q, _, _, _, rfl, rfl, SqL.of G'q, ixB (by omega), _, rfl, ?_⟩
          have st : row.length - t = (row.length - (t + 1)) + 1 := by omega
          cases hs : seen.getD here true with
          | true =>
            refine ifT rfl (fin _ _ _ G' eG' ?_)
            rw [wk, walk_end hs]
            exact G'q
          | false =>
            refine ifF rfl ⟨_, rfl, _, rfl, q, _, _, here, rfl, rfl, G'q, ixN_nat (by rw [List.length_map]; omega), ?_⟩
            refine ⟨_, rfl, _, rfl, p, _, _, _, rfl, rfl, SqL.of (by rw [upd_ne (ne_of_none hp hq)]; exact eG' _ _ hp), atN hh, ?_⟩
            refine ⟨_, seen.set here true, row.getD here 0, rfl, fun y o ho => by rw [upd_ne (ne_of_none ho hq)]; exact eG' _ _ ho, by rw [upd_same, ← List.map_set], good_at gd hh, by rw [List.length_set]; exact hl, ?_⟩
            rw [wk, st]
            show (if seen.getD here true = true then seen else walk row (row.length - (t + 1)) (seen.set here true) (row.getD here 0)) = _
            rw [hs, if_neg (by decide)]
        · rintro σ G' ⟨v5, seen, here, rfl, eG', G'q, hh, hl, wk⟩
          refine fin _ _ _ G' eG' ?_
          rw [wk, Nat.sub_self]
          exact G'q
      by_cases hs : seen0.getD i true = true
      · refine ifF (by rw [hs]; rfl) ?_
        refine rest _ m0 fun v3 v4 v5 G' e g => ⟨v3, v4, v5, ?_, e, g⟩
        show _ = [_, _, some (V.int ((if seen0.getD i true = true then m0 else m0 + 1 : Nat) : Int)), _, _, _]
        rw [if_pos hs]
      · refine ifT (by rw [Bool.eq_false_iff.mpr hs]; rfl) ⟨_, rfl, _, _, rfl, rfl, ?_⟩
        refine rest _ (m0 + 1) fun v3 v4 v5 G' e g => ⟨v3, v4, v5, ?_, e, g⟩
        show _ = [_, _, some (V.int ((if seen0.getD i true = true then m0 else m0 + 1 : Nat) : Int)), _, _, _]
        rw [if_neg hs]
    · rintro σ G ⟨v3, v4, v5, rfl, eG, Gq⟩
      exact ⟨_, rfl, k G eG⟩

end

section
variable {P : Program} {w : World} {K : PySem.W.Frag} {mg : Str → Option Value} {base : Heap} {A : Ad}
theorem ok_law_is_state (T : Txt K mg A)  (g_law_circles : Okd P w K mg base CX0 1 A.law_circles P_law_circles spCi) : Okd P w K mg base CX0 2 A.law_is_state P_law_is_state spIs := by
  obtain ⟨fd, F⟩ := T.d_law_is_state
  obtain ⟨fd_law_circles, G_law_circles, b_law_circles⟩ := g_law_circles
  refine ⟨fd, F.ok sc_law_is_state (fun vs H Q E h => ?_) (fun cdv A' outer s H vs Q E hr h => ?_), F.binds fun _ _ _ _ _ _ us hl => match us, hl with | [_, _], _ => rfl⟩
  · obtain ⟨p, w, row, rfl, _⟩ := h
    rfl
  · obtain ⟨p, w, row, rfl, w1, w4, hp, gd, st, k⟩ := h
    refine ⟨_, (pss_cons (ps_if (pt_cmpR op_eq (pv 0) pe_int (nomark _)) (pss_one (ps_ret (pe_callB (cr_all (by rfl)) (by rfl) T.n_all (by decide +kernel) (pa_cons (pe_lc (own := [("at", 3)]) (tt := tYes) (by rfl) sc_law_is_state.nd (pi_range1 (by rfl) T.n_range (pa_cons (pe_callB call_len_seq (by rfl) T.n_len PySem.boot_len (pa_cons (pv 1) pa_nil)) pa_nil)) (blkOk_by (own := [("at", 3)]) (N := N_law_is_state) (sc := defScope s_law_is_state) (by decide +kernel)) (fun _ _ _ _ _ => (pg_name (i := 3) sc_law_is_state.nd rfl (Or.inl rfl))) (fun _ _ _ _ _ => pts_nil) (fun _ _ _ _ _ => (pe_cmpR op_eq (pe_ix (ix_listK (K := K) rfl) (pv 1) (pe_ix (ix_listK (K := K) rfl) (pv 1) (pv 3) (fun _ _ => rfl)) (fun _ _ => rfl)) (pv 3) (nomark _)))) pa_nil)))) pss_nil)
      (pss_cons (ps_if (pt_cmpR (op_neD hr.units) (pe_callB cr_sortedI (by rfl) T.n_sorted (by decide +kernel) (pa_cons (pv 1) pa_nil)) (pe_listRg (by rfl) (by rfl) T.n_list (prg_1 (by rfl) T.n_range (pe_callB call_len_seq (by rfl) T.n_len PySem.boot_len (pa_cons (pv 1) pa_nil)))) (nomark _)) (pss_one (ps_ret pe_bl)) pss_nil)
      (pss_cons (ps_set (i := 2) sc_law_is_state.nd rfl (Or.inl rfl) (pe_call G_law_circles (hr.mono (by decide)) (by rfl) T.g_law_circles T.k_law_circles b_law_circles .nil pass0 (pa_cons (pv 1) pa_nil)))
      (pss_cons (ps_if (pt_cmpR op_eq (pv 0) pe_int (nomark _)) (pss_one (ps_ret (pe_cmpR op_eq (pv 2) pe_int (nomark _)))) pss_nil)
      (pss_one (ps_ret (pe_or (pe_cmpR op_eq (pv 0) pe_int (nomark _)) (pe_one (pe_cmpR op_eq (pe_op op_mod (pe_callTy call_int1 (by rfl) T.n_int (by decide +kernel) (pa_cons (pe_op op_sub (pe_callB call_len_seq (by rfl) T.n_len PySem.boot_len (pa_cons (pv 1) pa_nil)) (pv 2)) pa_nil)) pe_int) (pe_callTy call_int1 (by rfl) T.n_int (by decide +kernel) (pa_cons (pe_cmpR op_eq (pv 0) pe_int (nomark _)) pa_nil)) (nomark _)))))))))), ?_⟩
    refine ⟨_, rfl, rfl, _, rfl, ifF (decide_eq_false (fun e => by injection e with e; omega)) ?_⟩
    refine ⟨_, rfl, p, row.map (fun x : Nat => (x : Int)), rfl, SqL.of (by rw [← nI_int]; exact hp), fun ns q pm so hq => ?_⟩
    have es := sorted_is pm so (st_perm st)
    subst es
    refine ⟨_, rfl, p, _, rfl, .inl (SqL.of (Ex.new hq _ _ hp)), _, rfl, ?_⟩
    rw [nI_len]
    have g41 := gd.1
    refine ⟨RgOk.of_le (by omega) (by omega) (by omega) (by omega), fun r hr => ?_⟩
    rw [rgN0]
    refine ⟨dN (List.range row.length), dN (List.range row.length), dp_N ?_, dp_N upd_same, (lay_N _).shaped (by decide), (lay_N _).shaped (by decide), _, rfl, ?_⟩
    · show upd _ r _ q = _
      rw [upd_ne (fun z => by rw [← z, upd_same] at hr; cases hr), upd_same, nI_int]
    refine ifF (by rw [(lay_N _).refl]; rfl) ?_
    have e0 := ex_new (o := .lst (nI (List.range row.length))) (Ex.new (o := .lst (((List.range row.length).map fun x : Nat => (x : Int)).map V.int)) hq) hr
    refine ⟨_, rfl, p, row, rfl, e0 _ _ hp, gd, fun H1 e1 => ?_⟩
    have e2 := e0.trans e1
    have sf := st_fin st
    refine ⟨_, rfl, rfl, _, rfl, ?_⟩
    by_cases c : w = 4
    · refine ifT (decide_eq_true (by rw [c]; rfl)) ?_
      rw [if_pos c] at sf
      refine ⟨_, rfl, rfl, ?_⟩
      rw [decide_eq_true (by rw [sf]; rfl)]
      exact k H1 e2
    refine ifF (decide_eq_false (fun e => by injection e with e; omega)) ?_
    rw [if_neg c] at sf
    refine ⟨_, rfl, rfl, _, rfl, ?_⟩
    by_cases c1 : w = 1
    · exact ifT (decide_eq_true (by rw [c1]; rfl)) (k H1 e2)
    refine ifF (decide_eq_false (fun e => by injection e with e; omega)) ?_
    have sf := sf.resolve_left c1
    have cy := cyc_le row
    refine ⟨_, rfl, p, _, rfl, .inl (SqL.of (e2 _ _ hp)), _, rfl, _, _, rfl, rfl, .inl ⟨_, rfl, _, _, rfl, rfl, (by show (0 : Int) < 2; decide), _, rfl, rfl, .inr ⟨_, rfl, rfl, ?_⟩⟩⟩
    rw [nI_len]
    have fin : decide (V.int (((row.length : Int) - (cyc row : Int)) % 2) = V.int (if decide (V.int (w : Int) = V.int 3) = true then 1 else 0)) = true := by
      by_cases c3 : w = 3
      · rw [if_pos c3] at sf
        rw [if_pos (decide_eq_true (by rw [c3]; rfl))]
        exact decide_eq_true (by congr 1; omega)
      · rw [if_neg c3] at sf
        rw [if_neg (by rw [decide_eq_false (fun e => by injection e with e; omega)]; decide)]
        exact decide_eq_true (by congr 1; omega)
    rw [fin]
    exact k H1 e2

end

section
variable {P : Program} {w : World} {K : PySem.W.Frag} {mg : Str → Option Value} {base : Heap} {A : Ad}
theorem ok_law_size (T : Txt K mg A)  (g_law_draw : Okd P w K mg base CX0 1 A.law_draw P_law_draw spDr) : Okd P w K mg base CX0 2 A.law_size P_law_size spSz := by
  obtain ⟨fd, F⟩ := T.d_law_size
  obtain ⟨fd_law_draw, G_law_draw, b_law_draw⟩ := g_law_draw
  refine ⟨fd, F.ok sc_law_size (fun vs H Q E h => ?_) (fun cdv A' outer s H vs Q E hr h => ?_), F.binds fun _ _ _ _ _ _ us hl => match us, hl with | [_, _], _ => rfl⟩
  · obtain ⟨b, c, w, rfl, _⟩ := h
    rfl
  · obtain ⟨b, c, w, rfl, w5, B, k⟩ := h
    refine ⟨_, (pss_cons (ps_set (i := 2) sc_law_size.nd rfl (Or.inl rfl) (pe_ix ix_list (pe_lst (pa_cons pe_int (pa_cons pe_int (pa_cons pe_int (pa_cons pe_int (pa_cons pe_int pa_nil)))))) (pv 1) (fun _ _ => rfl)))
      (pss_cons (ps_if (pt_cmpR op_eq (pe_call G_law_draw (hr.mono (by decide)) (by rfl) T.g_law_draw T.k_law_draw b_law_draw .nil pass0 (pa_cons (pv 0) (pa_cons pe_int pa_nil))) pe_int (nomark _)) (pss_one (ps_ret (pe_op op_add (pv 2) (pe_call G_law_draw (hr.mono (by decide)) (by rfl) T.g_law_draw T.k_law_draw b_law_draw .nil pass0 (pa_cons (pv 0) (pa_cons (pe_op op_sub pe_int (pv 2)) pa_nil)))))) pss_nil)
      (pss_one (ps_ret (pe_op op_add (pv 2) (pe_call G_law_draw (hr.mono (by decide)) (by rfl) T.g_law_draw T.k_law_draw b_law_draw .nil pass0 (pa_cons (pv 0) (pa_cons pe_int pa_nil)))))))), ?_⟩
    have l41 : lsW w ≤ 3 := by unfold lsW; split <;> omega
    have l0 : 1 ≤ lsW w := by unfold lsW; split <;> omega
    have at5 : atI [V.int 1, V.int 1, V.int 3, V.int 3, V.int 3] (w : Int) = some (V.int (lsW w : Int)) := by
      have hw : w = 0 ∨ w = 1 ∨ w = 2 ∨ w = 3 ∨ w = 4 := by omega
      rcases hw with rfl | rfl | rfl | rfl | rfl <;> rfl
    refine ⟨(by decide +kernel : (5 : Nat) ≤ sizeLine), fun l hl => ⟨_, rfl, l, _, _, _, rfl, rfl, SqL.of upd_same, at5, ?_⟩⟩
    refine ⟨_, rfl, b, c, 3, rfl, by decide, by decide, B.ex (Ex.new hl), fun d H1 dl B1 M1 => ⟨rfl, _, rfl, ?_⟩⟩
    have M0 : Mut b H H1 := ((Mut.refl b H).new hl).trans M1
    by_cases c0 : d = 0
    · refine ifT (decide_eq_true (by rw [c0]; rfl)) ?_
      refine ⟨_, rfl, _, rfl, _, rfl, _, _, rfl, rfl, b, c, 41 - lsW w, ?_, by omega, by omega, B1, fun d2 H2 dl2 B2 M2 => ⟨_, _, rfl, rfl, ?_⟩⟩
      · show [V.ref b, V.int ((41 : Int) - (lsW w : Int))] = _
        rw [show ((41 : Int) - (lsW w : Int)) = ((41 - lsW w : Nat) : Int) by omega]
      · exact k (lsW w + d2) H2 (by omega) (by omega) B2 (M0.trans M2)
    refine ifF (decide_eq_false (fun e => by injection e with e; omega)) ?_
    refine ⟨_, rfl, _, rfl, b, c, 8, rfl, by decide, by decide, B1, fun d2 H2 dl2 B2 M2 => ⟨_, _, rfl, rfl, ?_⟩⟩
    exact k (lsW w + d2) H2 (by omega) (by omega) B2 (M0.trans M2)

end

section
variable {P : Program} {w : World} {K : PySem.W.Frag} {mg : Str → Option Value} {base : Heap} {A : Ad}
theorem ok_law_row (T : Txt K mg A)   : Okd P w K mg base CX0 1 A.law_row P_law_row spRw := by
  obtain ⟨fd, F⟩ := T.d_law_row

  refine ⟨fd, F.ok sc_law_row (fun vs H Q E h => ?_) (fun cdv A' outer s H vs Q E hr h => ?_), F.binds fun _ _ _ _ _ _ us hl => match us, hl with | [_, _], _ => rfl⟩
  · obtain ⟨p, n, row, rfl, _⟩ := h
    rfl
  · obtain ⟨p, n, row, rfl, hp, ok, k⟩ := h
    refine ⟨_, (pss_cons (ps_if (PW.pt (pw_or (pt_not (pt_val (pe_callB call_isi (by rfl) T.n_isinstance (by decide +kernel) (pa_cons (pv 0) (pa_cons (pe_bltn (v := .ty "list") (u := .type "list") (by rfl) T.n_list (by decide +kernel) rfl) pa_nil))))) (pw_or1 (pt_cmpR op_ne (pe_callB call_len_seq (by rfl) T.n_len PySem.boot_len (pa_cons (pv 0) pa_nil)) (pv 1) (nomark _))))) (pss_one (ps_ret pe_bl)) pss_nil)
      (pss_cons (ps_for PassesOwn.never rfl (pi_list (pv 0)) (pg_name (i := 2) sc_law_row.nd rfl (Or.inl rfl)) (pss_one (ps_if (PW.pt (pw_or (pt_not (pt_val (pe_callB call_isi (by rfl) T.n_isinstance (by decide +kernel) (pa_cons (pv 2) (pa_cons (pe_bltn (v := .ty "int") (u := .type "int") (by rfl) T.n_int (by decide +kernel) rfl) pa_nil))))) (pw_or (pt_val (pe_callB call_isi (by rfl) T.n_isinstance (by decide +kernel) (pa_cons (pv 2) (pa_cons (pe_bltn (v := .ty "bool") (u := .type "bool") (by rfl) T.n_bool (by decide +kernel) rfl) pa_nil)))) (pw_or (pt_cmpR op_lt (pv 2) pe_int (nomark _)) (pw_or1 (pt_cmpR op_ge (pv 2) (pv 1) (nomark _))))))) (pss_one (ps_ret pe_bl)) pss_nil)))
      (pss_one (ps_ret pe_bl)))), ?_⟩
    obtain ⟨l, lo⟩ := rowOk_iff ok
    refine ⟨_, rfl, _, _, _, _, true, rfl, ClsV.ty "list", TyX.base (TyOf.lst hp), kit_ty (by decide +kernel), _, rfl, ifF rfl ?_⟩
    refine ⟨_, rfl, p, _, rfl, .inl (SqL.of hp), _, rfl, rfl, _, rfl, ?_⟩
    rw [nI_len]
    refine ifF (by rw [decide_eq_true (by rw [l])]; rfl) ?_
    refine ⟨_, rfl, p, rfl, ⟨_, SqL.of hp⟩, for_list (K := K) (a := p) (xs := nI row) (fun j σ G => G = H ∧ ∃ v2, σ = [some (.ref p), some (.int (n : Int)), v2]) ⟨rfl, _, rfl⟩ (fun j σ G _ q => by rw [q.1]; exact SqL.of hp) ?_ ?_⟩
    · rintro j x σ G hx ⟨rfl, v2, rfl⟩
      obtain ⟨jl, rfl⟩ := nat_at hx
      have lx := lo (row.getD j 0) (List.mem_of_getElem? (getD_some9 jl))
      generalize row.getD j 0 = x at lx
      exact ⟨_, rfl, _, _, _, _, true, rfl, ClsV.ty "int", TyX.base (TyOf.int _), kit_ty (by decide +kernel), _, rfl, ifF rfl ⟨_, rfl, _, _, _, _, false, rfl, ClsV.ty "bool", TyX.base (TyOf.int _), kit_ty (by decide +kernel), _, rfl, ifF rfl ⟨_, rfl, _, _, rfl, rfl, _, rfl, ifF (decide_eq_false (by omega)) ⟨_, rfl, _, rfl, _, _, rfl, rfl, _, rfl, ifF (decide_eq_false (by omega)) ⟨rfl, _, rfl⟩⟩⟩⟩⟩
    · rintro σ G ⟨rfl, v2, rfl⟩
      exact k

end

section
variable {P : Program} {w : World} {K : PySem.W.Frag} {mg : Str → Option Value} {base : Heap} {A : Ad}
theorem ok_law_four (T : Txt K mg A)  (g_law_row : Okd P w K mg base CX0 1 A.law_row P_law_row spRw) (g_law_is_state : Okd P w K mg base CX0 2 A.law_is_state P_law_is_state spIs) : Okd P w K mg base CX0 3 A.law_four P_law_four spFo := by
  obtain ⟨fd, F⟩ := T.d_law_four
  obtain ⟨fd_law_row, G_law_row, b_law_row⟩ := g_law_row
  obtain ⟨fd_law_is_state, G_law_is_state, b_law_is_state⟩ := g_law_is_state
  refine ⟨fd, F.ok sc_law_four (fun vs H Q E h => ?_) (fun cdv A' outer s H vs Q E hr h => ?_), F.binds fun _ _ _ _ _ _ us hl => match us, hl with | [_, _, _], _ => rfl⟩
  · obtain ⟨H0, p, w, n, rows, rfl, _⟩ := h
    rfl
  · obtain ⟨H0, p, w, n, rows, rfl, w1, w4, n41, hp, ok, k⟩ := h
    refine ⟨_, (pss_cons (ps_if (PW.pt (pw_or (pt_not (pt_val (pe_callB call_isi (by rfl) T.n_isinstance (by decide +kernel) (pa_cons (pv 2) (pa_cons (pe_bltn (v := .ty "list") (u := .type "list") (by rfl) T.n_list (by decide +kernel) rfl) pa_nil))))) (pw_or1 (pt_cmpR op_ne (pe_callB call_len_seq (by rfl) T.n_len PySem.boot_len (pa_cons (pv 2) pa_nil)) pe_int (nomark _))))) (pss_one (ps_ret pe_bl)) pss_nil)
      (pss_cons (ps_for PassesOwn.never rfl (pi_list (pv 2)) (pg_name (i := 3) sc_law_four.nd rfl (Or.inl rfl)) (pss_one (ps_if (PW.pt (pw_or (pt_not (pt_val (pe_call G_law_row (hr.mono (by decide)) (by rfl) T.g_law_row T.k_law_row b_law_row .nil pass0 (pa_cons (pv 3) (pa_cons (pv 1) pa_nil))))) (pw_or1 (pt_not (pt_val (pe_call G_law_is_state (hr.mono (by decide)) (by rfl) T.g_law_is_state T.k_law_is_state b_law_is_state .nil pass0 (pa_cons (pv 0) (pa_cons (pv 3) pa_nil)))))))) (pss_one (ps_ret pe_bl)) pss_nil)))
      (pss_one (ps_ret pe_bl)))), ?_⟩
    obtain ⟨r4, ro⟩ := four_iff ok
    obtain ⟨qs, a0, a, l, nq, kq⟩ := hp
    refine ⟨_, rfl, _, _, _, _, true, rfl, ClsV.ty "list", TyX.base (TyOf.lst a), kit_ty (by decide +kernel), _, rfl, ifF rfl ?_⟩
    refine ⟨_, rfl, p, _, rfl, .inl (SqL.of a), rfl, _, rfl, ?_⟩
    rw [List.length_map, l, r4]
    refine ifF rfl ?_
    refine ⟨_, rfl, p, rfl, ⟨_, SqL.of a⟩, for_list (K := K) (a := p) (xs := qs.map V.ref) (fun j σ G => Ex H G ∧ ∃ v3, σ = [some (.int (w : Int)), some (.int (n : Int)), some (.ref p), v3]) ⟨Ex.refl H, _, rfl⟩ (fun j σ G _ q => SqL.of (q.1 _ _ a)) ?_ ?_⟩
    · rintro j x σ G hx ⟨eG, v3, rfl⟩
      obtain ⟨q, hq, rfl⟩ := ref_at hx
      have jl : j < rows.length := by rw [← l]; exact (List.getElem?_eq_some_iff.mp hq).1
      have hr := List.getElem?_eq_getElem jl
      have rr := ro _ (List.mem_of_getElem? hr)
      have hg := eG _ _ (kq j q _ hq hr)
      exact ⟨_, rfl, _, rfl, q, n, _, rfl, hg, rr.1, _, rfl, ifF rfl ⟨_, rfl, _, rfl, q, w, _, rfl, w1, w4, hg, good_of rr.1 n41, rr.2, fun G2 e2 => ⟨_, rfl, ifF rfl ⟨eG.trans e2, _, rfl⟩⟩⟩⟩
    · rintro σ G ⟨eG, v3, rfl⟩
      exact k G eG

end

section
variable {P : Program} {w : World} {K : PySem.W.Frag} {mg : Str → Option Value} {base : Heap} {A : Ad}
theorem ok_law_joint (T : Txt K mg A)   : Okd P w K mg base CX0 1 A.law_joint P_law_joint spJo := by
  obtain ⟨fd, F⟩ := T.d_law_joint

  refine ⟨fd, F.ok sc_law_joint (fun vs H Q E h => ?_) (fun cdv A' outer s H vs Q E hr h => ?_), F.binds fun _ _ _ _ _ _ us hl => match us, hl with | [_, _], _ => rfl⟩
  · obtain ⟨H0, p, w, n, rows, rfl, _⟩ := h
    rfl
  · obtain ⟨H0, p, w, n, rows, rfl, w1, w4, n41, hp, ok, jt, k⟩ := h
    refine ⟨_, (pss_cons (ps_asg (pv 1) (pg_unl (by rfl) (pgs_cons (pg_name (i := 2) sc_law_joint.nd rfl (Or.inr rfl)) (pgs_cons (pg_name (i := 3) sc_law_joint.nd rfl (Or.inr rfl)) (pgs_cons (pg_name (i := 4) sc_law_joint.nd rfl (Or.inr rfl)) (pgs_cons (pg_name (i := 5) sc_law_joint.nd rfl (Or.inl rfl)) pgs_nil))))))
      (pss_cons (ps_setLc (i := 6) (own := [("at", 10)]) (tt := _) (by rfl) sc_law_joint.nd rfl rfl (sw_true rfl rfl rfl (by decide +kernel)) (pi_range1 (by rfl) T.n_range (pa_cons (pe_callB call_len_seq (by rfl) T.n_len PySem.boot_len (pa_cons (pv 2) pa_nil)) pa_nil)) (blkOk_by (own := [("at", 10)]) (N := N_law_joint) (sc := defScope s_law_joint) (by decide +kernel)) (fun _ _ _ _ _ => (pg_name (i := 10) sc_law_joint.nd rfl (Or.inl rfl))) (fun _ _ _ _ _ => (pts_one (pt_cmpR op_ne (pe_ix (ix_listK (K := K) rfl) (pv 3) (pv 10) (fun _ _ => rfl)) (pe_ix (ix_listK (K := K) rfl) (pv 2) (pv 10) (fun _ _ => rfl)) (nomark _)))) (fun _ _ _ _ _ => (pv 10)))
      (pss_cons (ps_setLc (i := 7) (own := [("at", 10)]) (tt := _) (by rfl) sc_law_joint.nd rfl rfl (sw_true rfl rfl rfl (by decide +kernel)) (pi_range1 (by rfl) T.n_range (pa_cons (pe_callB call_len_seq (by rfl) T.n_len PySem.boot_len (pa_cons (pv 2) pa_nil)) pa_nil)) (blkOk_by (own := [("at", 10)]) (N := N_law_joint) (sc := defScope s_law_joint) (by decide +kernel)) (fun _ _ _ _ _ => (pg_name (i := 10) sc_law_joint.nd rfl (Or.inl rfl))) (fun _ _ _ _ _ => (pts_one (pt_cmpR op_ne (pe_ix (ix_listK (K := K) rfl) (pv 4) (pv 10) (fun _ _ => rfl)) (pe_ix (ix_listK (K := K) rfl) (pv 2) (pv 10) (fun _ _ => rfl)) (nomark _)))) (fun _ _ _ _ _ => (pv 10)))
      (pss_cons (ps_set (i := 8) sc_law_joint.nd rfl (Or.inl rfl) (pe_ix ix_list (pe_lst (pa_cons pe_int (pa_cons pe_int pa_nil))) (pe_callTy call_int1 (by rfl) T.n_int (by decide +kernel) (pa_cons (pe_cmpR op_gt (pv 0) pe_int (nomark _)) pa_nil)) (fun _ _ => rfl)))
      (pss_cons (ps_if (PW.pt (pw_or (pt_cmpR op_ne (pe_callB call_len_seq (by rfl) T.n_len PySem.boot_len (pa_cons (pv 6) pa_nil)) (pv 8) (nomark _)) (pw_or1 (pt_cmpR op_ne (pe_callB call_len_seq (by rfl) T.n_len PySem.boot_len (pa_cons (pv 7) pa_nil)) (pv 8) (nomark _))))) (pss_one (ps_ret pe_bl)) pss_nil)
      (pss_cons (ps_set (i := 9) sc_law_joint.nd rfl (Or.inl rfl) (pe_callTy call_list_of (by rfl) T.n_list (by decide +kernel) (pa_cons (pv 2) pa_nil)))
      (pss_cons (ps_for PassesOwn.never rfl (pi_list (pv 6)) (pg_name (i := 10) sc_law_joint.nd rfl (Or.inl rfl)) (pss_cons (ps_if (pt_cmpR op_in_seq (pv 10) (pv 7) (by with_unfolding_all rfl)) (pss_one (ps_ret pe_bl)) pss_nil)
      (pss_one (ps_asg (pe_ix ix_list (pv 3) (pv 10) (fun _ _ => rfl)) (pg_sub (pv 9) (pv 10) set_list)))))
      (pss_cons (ps_for PassesOwn.never rfl (pi_list (pv 7)) (pg_name (i := 10) sc_law_joint.nd rfl (Or.inl rfl)) (pss_one (ps_asg (pe_ix ix_list (pv 4) (pv 10) (fun _ _ => rfl)) (pg_sub (pv 9) (pv 10) set_list))))
      (pss_one (ps_ret (pe_cmpR (op_eqD hr.units) (pv 5) (pv 9) (nomark _)))))))))))), ?_⟩
    obtain ⟨ra, rb, rc, rd, rfl, s1, s2, dj, hd, lb, lc⟩ := joint_iff jt
    obtain ⟨qs, a0, a, l, nq, kq⟩ := hp
    obtain ⟨qa, qb, qc, qd, rfl⟩ : ∃ qa qb qc qd, qs = [qa, qb, qc, qd] := by
      match qs, l with
      | [x, y, z, u], _ => exact ⟨_, _, _, _, rfl⟩
    have ga : ListN H qa ra := kq 0 qa ra rfl rfl
    have gb : ListN H qb rb := kq 1 qb rb rfl rfl
    have gc : ListN H qc rc := kq 2 qc rc rfl rfl
    have gd : ListN H qd rd := kq 3 qd rd rfl rfl
    have la : ra.length = n := (rowOk_iff ((four_iff ok).2 ra (List.mem_cons_self)).1).1
    refine ⟨_, rfl, p, _, rfl, SqL.of a, rfl, _, _, rfl, _, _, rfl, _, _, rfl, _, _, rfl, rfl, ?_⟩
    refine ⟨_, rfl, qa, _, rfl, .inl (SqL.of ga), _, rfl, ?_⟩
    rw [nI_len]
    refine ⟨by omega, by omega, fun D hD => lc_range (lo := 0) (n := ra.length) (fun j G => Ex H G ∧ ListN G D ((List.range j).filter fun x => decide (rb.getD x 0 ≠ ra.getD x 0))) ⟨Ex.new hD, upd_same⟩ ?_ ?_⟩
    · rintro j G hj ⟨eG, gD⟩
      rw [show (0 : Int) + (j : Int) = (j : Int) from Int.zero_add _]
      refine ⟨rfl, _, rfl, _, rfl, qb, _, _, _, rfl, rfl, SqL.of (eG _ _ gb), atN (by omega), _, rfl, _, rfl, qa, _, _, _, rfl, rfl, SqL.of (eG _ _ ga), atN hj, rfl, _, rfl, ?_⟩
      by_cases c : rb.getD j 0 = ra.getD j 0
      · refine ifF (by rw [c]; simp) ⟨eG, ?_⟩
        rw [range_filt, if_neg (by show ¬ decide _ = true; rw [decide_eq_true_iff]; exact fun h => h c), List.append_nil]
        exact gD
      · refine ifT (by rw [decide_eq_false (fun e => c (by injection e with e; omega))]; rfl) ⟨_, rfl, _, gD, small1000 (by rw [nI_len]; have := List.length_filter_le (fun x => decide (rb.getD x 0 ≠ ra.getD x 0)) (List.range j); rw [List.length_range] at this; omega), fun y o ho => by rw [upd_ne (ne_of_none ho hD)]; exact eG _ _ ho, ?_⟩
        show upd G D _ D = _
        rw [upd_same, range_filt, if_pos (decide_eq_true c), nI_app]
    rintro H1 ⟨e1, g6⟩
    have g6 : ListN H1 D (slotsF ra rb) := g6
    refine ⟨_, rfl, qa, _, rfl, .inl (SqL.of (e1 _ _ ga)), _, rfl, ?_⟩
    rw [nI_len]
    refine ⟨by omega, by omega, fun D2 hD2 => lc_range (lo := 0) (n := ra.length) (fun j G => Ex H1 G ∧ ListN G D2 ((List.range j).filter fun x => decide (rc.getD x 0 ≠ ra.getD x 0))) ⟨Ex.new hD2, upd_same⟩ ?_ ?_⟩
    · rintro j G hj ⟨eG, gD⟩
      rw [show (0 : Int) + (j : Int) = (j : Int) from Int.zero_add _]
      refine ⟨rfl, _, rfl, _, rfl, qc, _, _, _, rfl, rfl, SqL.of (eG _ _ (e1 _ _ gc)), atN (by omega), _, rfl, _, rfl, qa, _, _, _, rfl, rfl, SqL.of (eG _ _ (e1 _ _ ga)), atN hj, rfl, _, rfl, ?_⟩
      by_cases c : rc.getD j 0 = ra.getD j 0
      · refine ifF (by rw [c]; simp) ⟨eG, ?_⟩
        rw [range_filt, if_neg (by show ¬ decide _ = true; rw [decide_eq_true_iff]; exact fun h => h c), List.append_nil]
        exact gD
      · refine ifT (by rw [decide_eq_false (fun e => c (by injection e with e; omega))]; rfl) ⟨_, rfl, _, gD, small1000 (by rw [nI_len]; have := List.length_filter_le (fun x => decide (rc.getD x 0 ≠ ra.getD x 0)) (List.range j); rw [List.length_range] at this; omega), fun y o ho => by rw [upd_ne (ne_of_none ho hD2)]; exact eG _ _ ho, ?_⟩
        show upd G D2 _ D2 = _
        rw [upd_same, range_filt, if_pos (decide_eq_true c), nI_app]
    rintro H2 ⟨e2, g7⟩
    have g7 : ListN H2 D2 (slotsF ra rc) := g7
    have at2 : atI [V.int 2, V.int 3] (if decide ((1 : Int) < (w : Int)) = true then 1 else 0) = some (V.int (safeN w : Int)) := by
      unfold safeN
      by_cases c : 1 < w
      · rw [if_pos (decide_eq_true (by omega)), if_pos c]
        rfl
      · rw [if_neg (by rw [decide_eq_true_iff]; omega), if_neg c]
        rfl
    refine ⟨(by decide +kernel : (2 : Nat) ≤ sizeLine), fun l0 hl0 => ⟨_, rfl, _, _, rfl, rfl, .inr ⟨_, rfl, l0, _, _, _, rfl, rfl, SqL.of upd_same, at2, ?_⟩⟩⟩
    have e3 := (e1.trans e2).trans (Ex.new (o := .lst [V.int 2, V.int 3]) hl0)
    have h6 : ListN (upd H2 l0 (.lst [V.int 2, V.int 3])) D (slotsF ra rb) := Ex.new hl0 _ _ (e2 _ _ g6)
    have h7 : ListN (upd H2 l0 (.lst [V.int 2, V.int 3])) D2 (slotsF ra rc) := Ex.new hl0 _ _ g7
    refine ⟨_, rfl, D, _, rfl, .inl (SqL.of h6), _, rfl, rfl, _, rfl, ?_⟩
    rw [nI_len, s1]
    refine ifF (by rw [decide_eq_true rfl]; rfl) ?_
    refine ⟨_, rfl, D2, _, rfl, .inl (SqL.of h7), _, rfl, rfl, _, rfl, ?_⟩
    rw [nI_len, s2]
    refine ifF (by rw [decide_eq_true rfl]; rfl) ?_
    generalize upd H2 l0 (.lst [V.int 2, V.int 3]) = H4 at e3 h6 h7 ⊢
    refine ⟨_, rfl, qa, _, rfl, .inl (SqL.of (e3 _ _ ga)), fun u hu => ?_⟩
    have gu0 : ListN (upd H4 u (.lst (nI ra))) u (upF ra.length (fun x => ra.getD x 0) (fun x => rb.getD x 0) []) := by
      rw [upF_nil, range_self]
      exact upd_same
    have eu := Ex.new (o := .lst (nI ra)) hu
    refine ⟨_, rfl, D, rfl, ⟨_, SqL.of (eu _ _ h6)⟩, for_list (K := K) (a := D) (xs := nI (slotsF ra rb)) (fun j σ G => ∃ v10, σ = [some (.int (w : Int)), some (.ref p), some (.ref qa), some (.ref qb), some (.ref qc), some (.ref qd), some (.ref D), some (.ref D2), some (.int (safeN w : Int)), some (.ref u), v10] ∧ Ex H4 G ∧ ListN G u (upF ra.length (fun x => ra.getD x 0) (fun x => rb.getD x 0) ((slotsF ra rb).take j))) ⟨_, rfl, eu, gu0⟩ (fun j σ G _ q => by obtain ⟨v, _, eG, _⟩ := q; exact SqL.of (eG _ _ h6)) ?_ ?_⟩
    · rintro j x σ G hx ⟨v10, rfl, eG, gu⟩
      obtain ⟨jl, rfl⟩ := nat_at hx
      have hy := getD_some9 jl
      have tk := take_succ jl
      generalize (slotsF ra rb).getD j 0 = y at hy tk
      have my := List.mem_of_getElem? hy
      have ly := (mem_slots.mp (List.contains_iff_mem.mpr my)).1
      refine ⟨_, rfl, _, rfl, D2, _, rfl, .inl (SqL.of (eG _ _ h7)), rfl, flat_nI _, _, rfl, ifF (by show inV _ _ = false; rw [inV_nI]; exact dj y my) ?_⟩
      refine ⟨_, rfl, _, rfl, qb, _, _, _, rfl, rfl, SqL.of (eG _ _ (e3 _ _ gb)), atN (by omega), _, rfl, _, rfl, u, _, _, y, rfl, rfl, gu, ixN_nat (by rw [nI_len, upF_len]; exact ly), _, rfl, fun z o ho => by rw [upd_ne (ne_of_none ho hu)]; exact eG _ _ ho, ?_⟩
      show upd G u _ u = _
      rw [upd_same, tk, ← upF_set]
    rintro σ G ⟨v10, rfl, eG, gu⟩
    rw [nI_len, List.take_length] at gu
    have gu1 : ListN G u (upF ra.length (fun x => if (slotsF ra rb).contains x then rb.getD x 0 else ra.getD x 0) (fun x => rc.getD x 0) ((slotsF ra rc).take 0)) := gu
    refine ⟨_, rfl, D2, rfl, ⟨_, SqL.of (eG _ _ h7)⟩, for_list (K := K) (a := D2) (xs := nI (slotsF ra rc)) (fun j σ G => ∃ v10, σ = [some (.int (w : Int)), some (.ref p), some (.ref qa), some (.ref qb), some (.ref qc), some (.ref qd), some (.ref D), some (.ref D2), some (.int (safeN w : Int)), some (.ref u), v10] ∧ Ex H4 G ∧ ListN G u (upF ra.length (fun x => if (slotsF ra rb).contains x then rb.getD x 0 else ra.getD x 0) (fun x => rc.getD x 0) ((slotsF ra rc).take j))) ⟨_, rfl, eG, gu1⟩ (fun j σ G _ q => by obtain ⟨v, _, eG, _⟩ := q; exact SqL.of (eG _ _ h7)) ?_ ?_⟩
    · rintro j x σ G hx ⟨v10, rfl, eG, gu⟩
      obtain ⟨jl, rfl⟩ := nat_at hx
      have hy := getD_some9 jl
      have tk := take_succ jl
      generalize (slotsF ra rc).getD j 0 = y at hy tk
      have my := List.mem_of_getElem? hy
      have ly := (mem_slots.mp (List.contains_iff_mem.mpr my)).1
      refine ⟨_, rfl, _, rfl, qc, _, _, _, rfl, rfl, SqL.of (eG _ _ (e3 _ _ gc)), atN (by omega), _, rfl, _, rfl, u, _, _, y, rfl, rfl, gu, ixN_nat (by rw [nI_len, upF_len]; exact ly), _, rfl, fun z o ho => by rw [upd_ne (ne_of_none ho hu)]; exact eG _ _ ho, ?_⟩
      show upd G u _ u = _
      rw [upd_same, tk, ← upF_set]
    rintro σ G ⟨v10, rfl, eG, gu⟩
    rw [nI_len, List.take_length, due_is, ← hd] at gu
    refine ⟨_, rfl, _, rfl, dN rd, dN rd, dp_N (eG _ _ (e3 _ _ gd)), dp_N gu, (lay_N _).shaped (by decide), (lay_N _).shaped (by decide), ?_⟩
    rw [(lay_N rd).refl]
    exact k G (e3.trans eG)

end

section
variable {P : Program} {w : World} {K : PySem.W.Frag} {mg : Str → Option Value} {base : Heap} {A : Ad}
theorem ok_law_comes_up (T : Txt K mg A)   : Okd P w K mg base CX0 1 A.law_comes_up P_law_comes_up spCu := by
  obtain ⟨fd, F⟩ := T.d_law_comes_up

  refine ⟨fd, F.ok sc_law_comes_up (fun vs H Q E h => ?_) (fun cdv A' outer s H vs Q E hr h => ?_), F.binds fun _ _ _ _ _ _ us hl => match us, hl with | [_, _], _ => rfl⟩
  · obtain ⟨H0, i, p, w, n, img, rows, rfl, _⟩ := h
    rfl
  · obtain ⟨H0, i, p, w, n, img, rows, rfl, hi, hp, li, n41, ok, cm, k⟩ := h
    refine ⟨_, (pss_cons (ps_for PassesOwn.never rfl (pi_range1 (by rfl) T.n_range (pa_cons (pe_callB call_len_seq (by rfl) T.n_len PySem.boot_len (pa_cons (pv 0) pa_nil)) pa_nil)) (pg_name (i := 2) sc_law_comes_up.nd rfl (Or.inl rfl)) (pss_one (ps_if (PW.pt (pw_and (pt_cmpR op_ne (pe_ix ix_list (pv 0) (pv 2) (fun _ _ => rfl)) (pe_ix ix_list (pe_ix ix_list (pv 1) pe_int (fun _ _ => rfl)) (pv 2) (fun _ _ => rfl)) (nomark _)) (pw_and1 (pt_cmpR op_ne (pe_ix ix_list (pv 0) (pv 2) (fun _ _ => rfl)) (pe_ix ix_list (pe_ix ix_list (pv 1) pe_int (fun _ _ => rfl)) (pv 2) (fun _ _ => rfl)) (nomark _))))) (pss_one (ps_ret pe_bl)) pss_nil)))
      (pss_one (ps_ret pe_bl))), ?_⟩
    obtain ⟨r4, ro⟩ := four_iff ok
    obtain ⟨qs, a0, a, l, nq, kq⟩ := hp
    have cm := fun x (h : x < img.length) => List.all_eq_true.mp cm x (List.mem_range.mpr h)
    have h0 : rows[0]? = some (rows.getD 0 []) := by rw [List.getD_eq_getElem?_getD, List.getElem?_eq_getElem (by omega)]; rfl
    have h3 : rows[3]? = some (rows.getD 3 []) := by rw [List.getD_eq_getElem?_getD, List.getElem?_eq_getElem (by omega)]; rfl
    have q0 : qs[0]? = some qs[0] := List.getElem?_eq_getElem (by omega)
    have q3 : qs[3]? = some qs[3] := List.getElem?_eq_getElem (by omega)
    have g0 := kq 0 _ _ q0 h0
    have g3 := kq 3 _ _ q3 h3
    have l0 := (rowOk_iff (ro _ (List.mem_of_getElem? h0)).1).1
    have l3 := (rowOk_iff (ro _ (List.mem_of_getElem? h3)).1).1
    generalize rows.getD 0 [] = r0 at cm g0 l0
    generalize rows.getD 3 [] = r3 at cm g3 l3

    refine ⟨_, rfl, i, _, rfl, .inl (SqL.of hi), _, rfl, ?_⟩
    rw [nI_len]
    refine ⟨by omega, by omega, for_range (lo := 0) (n := img.length) (fun j σ G => G = H ∧ ∃ v2, σ = [some (.ref i), some (.ref p), v2]) ⟨rfl, _, rfl⟩ ?_ ?_⟩
    · rintro j σ G hj ⟨rfl, v2, rfl⟩
      have j0 : (0 : Int) + (j : Int) = (j : Int) := Int.zero_add _
      show tIfS _ _ _ _ _ _
      rw [j0]
      have cj := cm j hj
      rw [Bool.or_eq_true] at cj
      refine ⟨_, rfl, _, rfl, i, _, _, _, rfl, rfl, SqL.of hi, atN hj, _, rfl, p, _, _, _, rfl, rfl, SqL.of a, atR (i := 0) q0, _, rfl, _, _, _, _, rfl, rfl, SqL.of g0, atN (by omega), rfl, _, rfl, ?_⟩
      by_cases c : img.getD j 0 = r0.getD j 0
      · refine ifF (by rw [c]; simp) ?_
        exact ifF rfl ⟨rfl, _, rfl⟩
      · have c3 : img.getD j 0 = r3.getD j 0 := by
          rcases cj with h | h
          · exact absurd (of_decide_eq_true h) c
          · exact of_decide_eq_true h
        refine ifT (by rw [decide_eq_false (fun e => c (by injection e with e; omega))]; rfl) ?_
        refine ⟨_, rfl, _, rfl, i, _, _, _, rfl, rfl, SqL.of hi, atN hj, _, rfl, p, _, _, _, rfl, rfl, SqL.of a, atR (i := 3) q3, _, rfl, _, _, _, _, rfl, rfl, SqL.of g3, atN (by omega), rfl, _, rfl, ?_⟩
        exact ifF (by rw [c3]; simp) ⟨rfl, _, rfl⟩
    · rintro σ G ⟨rfl, v2, rfl⟩
      exact k

end

section
variable {P : Program} {w : World} {K : PySem.W.Frag} {mg : Str → Option Value} {base : Heap} {A : Ad}
theorem ok_law_crowds (T : Txt K mg A)  (g_law_row : Okd P w K mg base CX0 1 A.law_row P_law_row spRw) (g_law_four : Okd P w K mg base CX0 3 A.law_four P_law_four spFo) (g_law_joint : Okd P w K mg base CX0 1 A.law_joint P_law_joint spJo) (g_law_comes_up : Okd P w K mg base CX0 1 A.law_comes_up P_law_comes_up spCu) : Okd P w K mg base CX0 4 A.law_crowds P_law_crowds spCr := by
  obtain ⟨fd, F⟩ := T.d_law_crowds
  obtain ⟨fd_law_row, G_law_row, b_law_row⟩ := g_law_row
  obtain ⟨fd_law_four, G_law_four, b_law_four⟩ := g_law_four
  obtain ⟨fd_law_joint, G_law_joint, b_law_joint⟩ := g_law_joint
  obtain ⟨fd_law_comes_up, G_law_comes_up, b_law_comes_up⟩ := g_law_comes_up
  refine ⟨fd, F.ok sc_law_crowds (fun vs H Q E h => ?_) (fun cdv A' outer s H vs Q E hr h => ?_), F.binds fun _ _ _ _ _ _ us hl => match us, hl with | [_, _, _], _ => rfl⟩
  · obtain ⟨H0, t, w, n, c, rfl, _⟩ := h
    rfl
  · obtain ⟨H0, t, w, n, c, rfl, w1, w4, n41, ht, ok, k⟩ := h
    refine ⟨_, (pss_cons (ps_if (PW.pt (pw_or (pt_not (pt_val (pe_callB call_isi (by rfl) T.n_isinstance (by decide +kernel) (pa_cons (pv 2) (pa_cons (pe_bltn (v := .ty "tuple") (u := .type "tuple") (by rfl) T.n_tuple (by decide +kernel) rfl) pa_nil))))) (pw_or (pt_cmpR op_ne (pe_callB call_len_seq (by rfl) T.n_len PySem.boot_len (pa_cons (pv 2) pa_nil)) pe_int (nomark _)) (pw_or1 (pt_not (pt_val (pe_call G_law_row (hr.mono (by decide)) (by rfl) T.g_law_row T.k_law_row b_law_row .nil pass0 (pa_cons (pe_ix ix_tup (pv 2) pe_int (fun _ _ => rfl)) (pa_cons (pv 1) pa_nil))))))))) (pss_one (ps_ret pe_bl)) pss_nil)
      (pss_cons (ps_for PassesOwn.never rfl (pi_tup (pe_slice sl_tup (pv 2) (po_some pe_int) po_none)) (pg_name (i := 3) sc_law_crowds.nd rfl (Or.inl rfl)) (pss_cons (ps_if (PW.pt (pw_or (pt_not (pt_val (pe_call G_law_four (hr.mono (by decide)) (by rfl) T.g_law_four T.k_law_four b_law_four .nil pass0 (pa_cons (pv 0) (pa_cons (pv 1) (pa_cons (pv 3) pa_nil)))))) (pw_or1 (pt_not (pt_val (pe_call G_law_joint (hr.mono (by decide)) (by rfl) T.g_law_joint T.k_law_joint b_law_joint .nil pass0 (pa_cons (pv 0) (pa_cons (pv 3) pa_nil)))))))) (pss_one (ps_ret pe_bl)) pss_nil)
      (pss_one (ps_if (pt_not (pt_val (pe_call G_law_comes_up (hr.mono (by decide)) (by rfl) T.g_law_comes_up T.k_law_comes_up b_law_comes_up .nil pass0 (pa_cons (pe_ix ix_tup (pv 2) pe_int (fun _ _ => rfl)) (pa_cons (pv 3) pa_nil))))) (pss_one (ps_ret pe_bl)) pss_nil))))
      (pss_cons (ps_for PassesOwn.never rfl (pi_list (pe_ix ix_tup (pv 2) pe_int (fun _ _ => rfl))) (pg_name (i := 4) sc_law_crowds.nd rfl (Or.inl rfl)) (pss_one (ps_if (pt_cmpR (op_inD (units65R hr)) (pv 4) (pe_ix ix_tup (pv 2) pe_int (fun _ _ => rfl)) (by with_unfolding_all rfl)) (pss_one (ps_ret pe_bl)) pss_nil)))
      (pss_one (ps_ret pe_bl))))), ?_⟩
    have OK := okc ok
    obtain ⟨i, a, b, gt, i0, hi, hA, hB⟩ := ht
    refine ⟨_, rfl, _, _, _, _, true, rfl, ClsV.ty "tuple", TyX.base (TyOf.tup gt), kit_ty (by decide +kernel), _, rfl, ifF rfl ?_⟩
    refine ⟨_, rfl, t, _, rfl, .inr (SqT.of gt), rfl, _, rfl, ifF rfl ?_⟩
    refine ⟨_, rfl, t, _, _, _, rfl, rfl, SqT.of gt, rfl, _, rfl, i, n, c.1, rfl, hi, OK.r, _, rfl, ifF rfl ?_⟩
    have cv : cutV [V.ref i, V.ref a, V.ref b] (some 1) none = [V.ref a, V.ref b] := cut_dp (k := 1) (by show 1 ≤ 3; decide)
    refine ⟨_, rfl, _, rfl, t, _, rfl, SqT.of gt, (by show ¬ (HT.sIx 3 0 (some 1) = 0 ∧ HT.sIx 3 3 none = 3); decide +kernel), fun p2 hp2 => ?_⟩
    rw [cv]
    have e0 := Ex.new (o := .tup [V.ref a, V.ref b]) hp2
    have g2 : upd H p2 (.tup [V.ref a, V.ref b]) p2 = some (.tup [V.ref a, V.ref b]) := upd_same
    generalize upd H p2 (.tup [V.ref a, V.ref b]) = H2 at e0 g2 ⊢
    refine ⟨p2, rfl, ⟨_, SqT.of g2⟩, for_tup (K := K) (a := p2) (xs := [V.ref a, V.ref b]) (fun j σ G => Ex H2 G ∧ ∃ v3 v4, σ = [some (.int (w : Int)), some (.int (n : Int)), some (.ref t), v3, v4]) ⟨Ex.refl _, _, _, rfl⟩ (fun j σ G _ q => SqT.of (q.1 _ _ g2)) ?_ ?_⟩
    · rintro j x σ G hx ⟨eG, v3, v4, rfl⟩
      obtain ⟨q, rows, rfl, hL, f, jj, cc⟩ : ∃ q rows, x = V.ref q ∧ LL H0 H q rows ∧ fourOk w n rows = true ∧ jointOk w rows = true ∧ comesOk c.1 rows = true := by
        match j, hx with
        | 0, hx => cases hx; exact ⟨a, _, rfl, hA, OK.f1, OK.j1, OK.c1⟩
        | 1, hx => cases hx; exact ⟨b, _, rfl, hB, OK.f2, OK.j2, OK.c2⟩
        | j + 2, hx => cases hx
      have eG1 := e0.trans eG
      refine ⟨_, rfl, _, rfl, _, rfl, H0, q, w, n, rows, rfl, w1, w4, n41, hL.ex eG1, f, fun G2 e2 => ⟨_, rfl, ifF rfl ?_⟩⟩
      have eG2 := eG1.trans e2
      refine ⟨_, rfl, _, rfl, H0, q, w, n, rows, rfl, w1, w4, n41, hL.ex eG2, f, jj, fun G3 e3 => ⟨_, rfl, ifF rfl ?_⟩⟩
      have eG3 := eG2.trans e3
      exact ⟨_, rfl, t, _, _, _, rfl, rfl, SqT.of (eG3 _ _ gt), rfl, _, rfl, H0, i, q, w, n, c.1, rows, rfl, eG3 _ _ hi, hL.ex eG3, (rowOk_iff OK.r).1, n41, f, cc, _, rfl, ifF rfl ⟨(eG.trans e2).trans e3, _, _, rfl⟩⟩
    rintro σ G ⟨eG, v3, v4, rfl⟩
    have eG1 := e0.trans eG
    obtain ⟨qs, b0, ga, l, nq, kq⟩ := id hA
    refine ⟨_, rfl, t, _, _, _, rfl, rfl, SqT.of (eG1 _ _ gt), rfl, a, rfl, ⟨_, SqL.of (eG1 _ _ ga)⟩, for_list (K := K) (a := a) (xs := qs.map V.ref) (fun j σ G' => G' = G ∧ ∃ v3 v4, σ = [some (.int (w : Int)), some (.int (n : Int)), some (.ref t), v3, v4]) ⟨rfl, _, _, rfl⟩ (fun j σ G' _ q => by rw [q.1]; exact SqL.of (eG1 _ _ ga)) ?_ ?_⟩
    · rintro j x σ G' hx ⟨rfl, v3, v4, rfl⟩
      obtain ⟨q, hq, rfl⟩ := ref_at hx
      have jl : j < c.2.1.length := by rw [← l]; exact (List.getElem?_eq_some_iff.mp hq).1
      have hr := List.getElem?_eq_getElem jl
      exact ⟨_, rfl, _, rfl, t, _, _, _, rfl, rfl, SqT.of (eG1 _ _ gt), rfl, dN _, c.2.2.map dN, dp_N (eG1 _ _ (kq j q _ hq hr)), (hB.ex eG1).dp, (lay_N _).shaped (by decide), (lay_R _).shaped (by decide), _, rfl, ifF (by rw [in_R]; exact OK.d _ (List.mem_of_getElem? hr)) ⟨rfl, _, _, rfl⟩⟩
    · rintro σ G' ⟨rfl, v3, v4, rfl⟩
      exact k G' eG1

end

section
variable {P : Program} {w : World} {K : PySem.W.Frag} {mg : Str → Option Value} {base : Heap} {A : Ad}
theorem ok_law_asked (T : Txt K mg A)  (g_c0 : Okd P w K mg base CX0 4 A.m_pair_crowd ["self"] (spCrw A .pair)) (g_c1 : Okd P w K mg base CX0 4 A.m_slot_crowd ["self"] (spCrw A .slot)) (g_c2 : Okd P w K mg base CX0 4 A.m_parity_crowd ["self"] (spCrw A .parity)) (g_c3 : Okd P w K mg base CX0 4 A.m_ring_crowd ["self"] (spCrw A .ring)) (g_law_crowds : Okd P w K mg base CX0 4 A.law_crowds P_law_crowds spCr) : Okd P w K mg base CX0 5 A.law_asked P_law_asked (spAs A) := by
  obtain ⟨fd, F⟩ := T.d_law_asked
  have hC : ∀ i : BK, Okd P w K mg base CX0 4 (crB A i) ["self"] (spCrw A i) := fun i => match i with | .pair => g_c0 | .slot => g_c1 | .parity => g_c2 | .ring => g_c3
  obtain ⟨fdB, hB⟩ := Classical.axiomOfChoice hC
  have F_crowd := fun i => (hB i).1
  have b_crowd := fun i => (hB i).2
  obtain ⟨fd_law_crowds, G_law_crowds, b_law_crowds⟩ := g_law_crowds
  refine ⟨fd, F.ok sc_law_asked (fun vs H Q E h => ?_) (fun cdv A' outer s H vs Q E hr h => ?_), F.binds fun _ _ _ _ _ _ us hl => match us, hl with | [_, _, _], _ => rfl⟩
  · obtain ⟨b, w, n, rfl, _⟩ := h
    rfl
  · obtain ⟨b, w, n, rfl, w5, ln, n41, hb, k⟩ := h
    refine ⟨_, (pss_cons (ps_set (i := 3) sc_law_asked.nd rfl (Or.inl rfl) (BkR.pe_methV (C := clB A) (f := crB A) (sp := spCrw A) (pv 0) (cls_B T) (mt_B T) F_crowd (hr.mono (by decide)) b_crowd (passH0 (fun _ => E0))))
      (pss_cons (ps_if (PW.pt (pw_or (pt_cmpR op_eq (pv 1) pe_int (nomark _)) (pw_or1 (pt_cmpR op_lt (pv 2) (pe_ix ix_list (pe_lst (pa_cons pe_int (pa_cons pe_int pa_nil))) (pe_callTy call_int1 (by rfl) T.n_int (by decide +kernel) (pa_cons (pe_cmpR op_gt (pv 1) pe_int (nomark _)) pa_nil)) (fun _ _ => rfl)) (nomark _))))) (pss_one (ps_ret (pe_cmpR op_isN (pv 3) pe_non (nomark _)))) pss_nil)
      (pss_cons (ps_if (PW.pt (pw_or (pt_cmpR op_isN (pv 3) pe_non (nomark _)) (pw_or1 (pt_not (pt_val (pe_call G_law_crowds (hr.mono (by decide)) (by rfl) T.g_law_crowds T.k_law_crowds b_law_crowds .nil pass0 (pa_cons (pv 1) (pa_cons (pv 2) (pa_cons (pv 3) pa_nil))))))))) (pss_one (ps_ret pe_bl)) pss_nil)
      (pss_cons (ps_asg (pv 3) (pg_tup (by rfl) (pgs_cons (pg_name (i := 4) sc_law_asked.nd rfl (Or.inl rfl)) (pgs_cons (pg_name (i := 5) sc_law_asked.nd rfl (Or.inl rfl)) (pgs_cons (pg_name (i := 6) sc_law_asked.nd rfl (Or.inl rfl)) pgs_nil)))))
      (pss_cons (ps_asg (pe_un un_neg pe_int) (pg_sub (pv 4) pe_int set_list))
      (pss_cons (ps_expr (pe_bm PySem.F.plainAttrs_list PySem.F.slot_list_append PySem.F.type_list_append mt_append (pv 4) (pa_cons pe_int pa_nil)))
      (pss_cons (ps_for PassesOwn.never rfl (pi_list (pv 5)) (pg_name (i := 7) sc_law_asked.nd rfl (Or.inl rfl)) (pss_cons (ps_asg (pe_un un_neg pe_int) (pg_sub (pv 7) (pe_op op_sub (pv 2) pe_int) set_list))
      (pss_one (ps_expr (pe_bm PySem.F.plainAttrs_list PySem.F.slot_list_append PySem.F.type_list_append mt_append (pv 7) (pa_cons pe_int pa_nil))))))
      (pss_cons (ps_for PassesOwn.never rfl (pi_list (pv 6)) (pg_name (i := 7) sc_law_asked.nd rfl (Or.inl rfl)) (pss_cons (ps_asg (pe_un un_neg pe_int) (pg_sub (pv 7) pe_int set_list))
      (pss_one (ps_expr (pe_bm PySem.F.plainAttrs_list PySem.F.slot_list_append PySem.F.type_list_append mt_append (pv 7) (pa_cons pe_int pa_nil))))))
      (pss_cons (ps_expr (pe_bm PySem.F.plainAttrs_list PySem.F.slot_list_append PySem.F.type_list_append mt_append (pv 5) (pa_cons (pe_lst pa_nil) pa_nil)))
      (pss_cons (ps_expr (pe_bm0 PySem.F.plainAttrs_list PySem.F.slot_list_clear PySem.F.type_list_clear mt_clear (pv 6)))
      (pss_one (ps_ret pe_bl)))))))))))), ?_⟩
    obtain ⟨o, ⟨dx, hb⟩, o2, o3⟩ := hb
    have nw := noC_w (n := n) w5
    have at2 : atI [V.int 4, V.int 6] (if decide ((1 : Int) < (w : Int)) = true then 1 else 0) = some (V.int (leastC w : Int)) := by
      unfold leastC
      by_cases c : 1 < w
      · rw [if_pos (decide_eq_true (by omega)), if_pos c]
        rfl
      · rw [if_neg (by rw [decide_eq_true_iff]; omega), if_neg c]
        rfl
    refine ⟨_, rfl, wb w, b, dx, _, rfl, hb, look_crowd (wb w), b, dx, n, o, rfl, hb, n41, fun nc H1 e1 => ?_, fun nc t H1 e1 h1 => ?_⟩
    · refine ⟨_, rfl, rfl, _, rfl, ?_⟩
      by_cases c0 : w = 0
      · exact ifT (decide_eq_true (by rw [c0]; rfl)) (ifT rfl ⟨_, rfl, rfl, k H1 e1⟩)
      refine ifF (decide_eq_false (fun e => by injection e with e; omega)) ?_
      have lt : n < leastC w := by rw [nc, decide_eq_false c0, Bool.false_or] at nw; exact of_decide_eq_true nw.symm
      refine ⟨_, rfl, (by decide +kernel : (2 : Nat) ≤ sizeLine), fun l hl => ⟨_, rfl, _, _, rfl, rfl, .inr ⟨_, rfl, l, _, _, _, rfl, rfl, SqL.of upd_same, at2, _, _, rfl, rfl, _, rfl, ifT (decide_eq_true (by omega)) ⟨_, rfl, rfl, k _ (ex_new e1 hl)⟩⟩⟩⟩
    · rw [nc] at nw
      have nw := nw.symm
      rw [Bool.or_eq_false_iff] at nw
      have c0 := of_decide_eq_false nw.1
      have lt := of_decide_eq_false nw.2
      have w1 : 1 ≤ w := by omega
      have w4 : w ≤ 4 := by omega
      refine ⟨_, rfl, rfl, _, rfl, ifF (decide_eq_false (fun e => by injection e with e; omega)) ?_⟩
      refine ⟨_, rfl, (by decide +kernel : (2 : Nat) ≤ sizeLine), fun l hl => ⟨_, rfl, _, _, rfl, rfl, .inr ⟨_, rfl, l, _, _, _, rfl, rfl, SqL.of upd_same, at2, _, _, rfl, rfl, _, rfl, ifF (decide_eq_false (by omega)) ?_⟩⟩⟩
      have e2 := ex_new (o := .lst [V.int 4, V.int 6]) e1 hl
      have h2 := h1.ex (Ex.new (o := .lst [V.int 4, V.int 6]) hl)
      generalize upd H1 l (.lst [V.int 4, V.int 6]) = H2 at e2 h2 ⊢
      rw [crdB_w c0 w5 o2 o3] at h2
      have okk := crd_ok w1 w4 n41 (by omega : leastC w ≤ n)
      have OK := okc okk
      refine ⟨_, rfl, rfl, _, rfl, ifF (decide_eq_false (fun e => by cases e)) ?_⟩
      refine ⟨_, rfl, _, rfl, _, rfl, H, t, w, n, crdW w n, rfl, w1, w4, n41, h2, okk, fun H3 e3 => ⟨_, rfl, ifF rfl ?_⟩⟩
      have h3 := h2.ex e3
      have e03 := e2.trans e3
      obtain ⟨i, pa, pb, gt, i0, hi, ⟨qa, a0, ga, la, na, ka⟩, ⟨qb, b0, gb, lb, nb, kb⟩⟩ := h3
      refine ⟨_, rfl, t, _, rfl, SqT.of gt, rfl, _, _, rfl, _, _, rfl, _, _, rfl, rfl, ?_⟩
      have n4l : 4 ≤ leastC w := by unfold leastC; split <;> omega
      have n4 : 4 ≤ n := by omega
      have li := (rowOk_iff OK.r).1
      have fa := four_iff OK.f1
      have fb := four_iff OK.f2
      have all : ∀ q ∈ i :: (qa ++ qb), H q = none ∧ q ≠ pa ∧ q ≠ pb ∧ ∃ r, ListN H3 q r ∧ r.length = n := by
        intro q hq
        have fin : ∀ r, ListN H3 q r → r.length = n → H q = none → H q = none ∧ q ≠ pa ∧ q ≠ pb ∧ ∃ r, ListN H3 q r ∧ r.length = n := fun r h1 h2 h0 => ⟨h0, ne_rows h1 (by omega) ga, ne_rows h1 (by omega) gb, r, h1, h2⟩
        rcases List.mem_cons.mp hq with rfl | hq
        · exact fin _ hi li i0
        rcases List.mem_append.mp hq with hq | hq
        · obtain ⟨j, hj⟩ := List.getElem?_of_mem hq
          have jl : j < (crdW w n).2.1.length := by rw [← la]; exact (List.getElem?_eq_some_iff.mp hj).1
          have hr := List.getElem?_eq_getElem jl
          exact fin _ (ka j q _ hj hr) (rowOk_iff (fa.2 _ (List.mem_of_getElem? hr)).1).1 (na q hq).1
        · obtain ⟨j, hj⟩ := List.getElem?_of_mem hq
          have jl : j < (crdW w n).2.2.length := by rw [← lb]; exact (List.getElem?_eq_some_iff.mp hj).1
          have hr := List.getElem?_eq_getElem jl
          exact fin _ (kb j q _ hj hr) (rowOk_iff (fb.2 _ (List.mem_of_getElem? hr)).1).1 (nb q hq).1
      have F0 : FrW H H3 (i :: (qa ++ qb)) pa pb (qa.map V.ref) (qb.map V.ref) n 0 := ⟨e03, ga, gb, fun q hq => by
        obtain ⟨_, _, _, r, h1, h2⟩ := all q hq
        exact ⟨_, h1, by rw [nI_len]; omega, by rw [nI_len]; omega⟩⟩
      have la4 : qa.length = 4 := by rw [la]; exact fa.1
      have lb4 : qb.length = 4 := by rw [lb]; exact fb.1
      obtain ⟨ls, g1, g2, g3⟩ := F0.q i List.mem_cons_self
      obtain ⟨ai, aa, ab, _⟩ := all i List.mem_cons_self
      refine ⟨_, rfl, _, rfl, i, ls, _, 0, rfl, rfl, g1, ixN_nat (j := 0) (by omega), ?_⟩
      refine ⟨_, rfl, .inl ⟨rfl, _, SqL.of upd_same⟩, i, _, _, rfl, rfl, upd_same, small1000 (by rw [List.length_set]; omega), ?_⟩
      have F1 := F0.step (j := 0) (v := V.int (-1)) (u := V.int 0) ai aa ab g2 g3
      revert F1
      generalize upd (upd H3 i (.lst (ls.set 0 (V.int (-1))))) i (.lst (ls.set 0 (V.int (-1)) ++ [V.int 0])) = H5
      intro F1
      refine ⟨_, rfl, pa, rfl, ⟨_, SqL.of F1.a⟩, for_list (K := K) (a := pa) (xs := qa.map V.ref) (fun j σ G => FrW H G (i :: (qa ++ qb)) pa pb (qa.map V.ref) (qb.map V.ref) n (1 + j) ∧ ∃ v7, σ = [some (.ref b), some (.int (w : Int)), some (.int (n : Int)), some (.ref t), some (.ref i), some (.ref pa), some (.ref pb), v7]) ⟨F1, _, rfl⟩ (fun j σ G _ q => SqL.of q.1.a) ?_ ?_⟩
      · rintro j x σ G hx ⟨F, v7, rfl⟩
        obtain ⟨q, hq, rfl⟩ := ref_at hx
        have jl := (List.getElem?_eq_some_iff.mp hq).1
        have mq : q ∈ i :: (qa ++ qb) := List.mem_cons_of_mem _ (List.mem_append_left _ (List.mem_of_getElem? hq))
        obtain ⟨ls, g1, g2, g3⟩ := F.q q mq
        obtain ⟨ai, aa, ab, _⟩ := all q mq
        refine ⟨_, rfl, _, rfl, _, rfl, _, _, rfl, rfl, q, ls, _, n - 1, rfl, rfl, g1, by rw [show ((n : Int) - 1) = ((n - 1 : Nat) : Int) by omega]; exact ixN_nat (by omega), ?_⟩
        refine ⟨_, rfl, .inl ⟨rfl, _, SqL.of upd_same⟩, q, _, _, rfl, rfl, upd_same, small1000 (by rw [List.length_set]; omega), ?_⟩
        exact ⟨F.step ai aa ab g2 g3, _, rfl⟩
      rintro σ G ⟨F2, v7, rfl⟩
      rw [List.length_map, la4] at F2
      refine ⟨_, rfl, pb, rfl, ⟨_, SqL.of F2.b⟩, for_list (K := K) (a := pb) (xs := qb.map V.ref) (fun j σ G => FrW H G (i :: (qa ++ qb)) pa pb (qa.map V.ref) (qb.map V.ref) n (5 + j) ∧ ∃ v7, σ = [some (.ref b), some (.int (w : Int)), some (.int (n : Int)), some (.ref t), some (.ref i), some (.ref pa), some (.ref pb), v7]) ⟨F2, _, rfl⟩ (fun j σ G _ q => SqL.of q.1.b) ?_ ?_⟩
      · rintro j x σ G hx ⟨F, v7, rfl⟩
        obtain ⟨q, hq, rfl⟩ := ref_at hx
        have jl := (List.getElem?_eq_some_iff.mp hq).1
        have mq : q ∈ i :: (qa ++ qb) := List.mem_cons_of_mem _ (List.mem_append_right _ (List.mem_of_getElem? hq))
        obtain ⟨ls, g1, g2, g3⟩ := F.q q mq
        obtain ⟨ai, aa, ab, _⟩ := all q mq
        refine ⟨_, rfl, _, rfl, q, ls, _, 0, rfl, rfl, g1, ixN_nat (j := 0) (by omega), ?_⟩
        refine ⟨_, rfl, .inl ⟨rfl, _, SqL.of upd_same⟩, q, _, _, rfl, rfl, upd_same, small1000 (by rw [List.length_set]; omega), ?_⟩
        exact ⟨F.step ai aa ab g2 g3, _, rfl⟩
      rintro σ G3 ⟨F3, v7, rfl⟩
      refine ⟨_, rfl, .inl ⟨rfl, _, SqL.of F3.a⟩, Nat.zero_le _, fun e he => ⟨pa, _, _, rfl, rfl, Ex.new he _ _ F3.a, small1000 (by rw [List.length_map]; omega), ?_⟩⟩
      have e5 : Ex H (upd (upd G3 e (.lst [])) pa (.lst (qa.map V.ref ++ [V.ref e]))) := fun y o ho => by rw [upd_ne (ne_of_none ho a0)]; exact Ex.new he _ _ (F3.ex _ _ ho)
      obtain ⟨xb, hxb⟩ : ∃ xs, upd (upd G3 e (.lst [])) pa (.lst (qa.map V.ref ++ [V.ref e])) pb = some (.lst xs) := by
        by_cases z : pb = pa
        · rw [z]
          exact ⟨_, upd_same⟩
        · rw [upd_ne z]
          exact ⟨_, Ex.new he _ _ F3.b⟩
      refine ⟨_, rfl, .inl ⟨rfl, _, SqL.of hxb⟩, pb, _, rfl, rfl, hxb, ?_⟩
      exact k _ fun y o ho => by rw [upd_ne (ne_of_none ho b0)]; exact e5 _ _ ho

end

section
variable {P : Program} {w : World} {K : PySem.W.Frag} {mg : Str → Option Value} {base : Heap} {A : Ad}
theorem ok_law {fd : FuncData} (T : Txt K mg A) (F : Fun K "law" "law" s_law A.law fd)  (g_law_box : Okd P w K mg base CX0 1 A.law_box P_law_box (spBox K)) (g_law_draw : Okd P w K mg base CX0 1 A.law_draw P_law_draw spDr) (g_law_size : Okd P w K mg base CX0 2 A.law_size P_law_size spSz) (g_law_book : Okd P w K mg base CX0 7 A.law_book P_law_book (spBk A)) (g_law_asked : Okd P w K mg base CX0 5 A.law_asked P_law_asked (spAs A)) : FnOk P w K mg base CX0 8 A.law fd P_law (spLaw K) := by
  obtain ⟨fd_law_box, G_law_box, b_law_box⟩ := g_law_box
  obtain ⟨fd_law_draw, G_law_draw, b_law_draw⟩ := g_law_draw
  obtain ⟨fd_law_size, G_law_size, b_law_size⟩ := g_law_size
  obtain ⟨fd_law_book, G_law_book, b_law_book⟩ := g_law_book
  obtain ⟨fd_law_asked, G_law_asked, b_law_asked⟩ := g_law_asked
  refine F.ok sc_law (fun vs H Q E h => ?_) (fun cdv A' outer s H vs Q E hr h => ?_)
  · obtain ⟨a, ns, rfl, _⟩ := h
    rfl
  · obtain ⟨a, ns, rfl, ha, n63, k⟩ := h
    refine ⟨_, (pss_cons (ps_set (i := 1) sc_law.nd rfl (Or.inl rfl) (pe_call G_law_box (hr.mono (by decide)) (by rfl) T.g_law_box T.k_law_box b_law_box .nil pass0 (pa_cons (pv 0) pa_nil)))
      (pss_cons (ps_set (i := 2) sc_law.nd rfl (Or.inl rfl) (pe_lst pa_nil))
      (pss_cons (ps_set (i := 3) sc_law.nd rfl (Or.inl rfl) (pe_lst pa_nil))
      (pss_cons (ps_for PassesOwn.never rfl (pi_range1 (by rfl) T.n_range (pa_cons pe_int pa_nil)) (pg_name (i := 4) sc_law.nd rfl (Or.inl rfl)) (pss_cons (ps_set (i := 5) sc_law.nd rfl (Or.inl rfl) (pe_op op_mod (pe_callTy call_int1 (by rfl) T.n_int (by decide +kernel) (pa_cons (pe_op op_add (pe_call G_law_draw (hr.mono (by decide)) (by rfl) T.g_law_draw T.k_law_draw b_law_draw .nil pass0 (pa_cons (pv 1) (pa_cons pe_int pa_nil))) (pe_op op_mul pe_int (pv 4))) pa_nil)) pe_int))
      (pss_cons (ps_set (i := 6) sc_law.nd rfl (Or.inl rfl) (pe_call G_law_size (hr.mono (by decide)) (by rfl) T.g_law_size T.k_law_size b_law_size .nil pass0 (pa_cons (pv 1) (pa_cons (pv 5) pa_nil))))
      (pss_cons (ps_expr (pe_bm PySem.F.plainAttrs_list PySem.F.slot_list_append PySem.F.type_list_append mt_append (pv 2) (pa_cons (pe_call G_law_book (hr.mono (by decide)) (by rfl) T.g_law_book T.k_law_book b_law_book .nil pass0 (pa_cons (pv 5) (pa_cons (pv 6) pa_nil))) pa_nil)))
      (pss_one (ps_expr (pe_bm PySem.F.plainAttrs_list PySem.F.slot_list_append PySem.F.type_list_append mt_append (pv 3) (pa_cons (pe_tup (pa_cons (pv 5) (pa_cons (pv 6) pa_nil))) pa_nil))))))))
      (pss_cons (ps_for PassesOwn.never rfl (pi_range1 (by rfl) T.n_range (pa_cons pe_int pa_nil)) (pg_name (i := 7) sc_law.nd rfl (Or.inl rfl)) (pss_one (ps_for PassesOwn.never rfl (pi_range1 (by rfl) T.n_range (pa_cons pe_int pa_nil)) (pg_name (i := 4) sc_law.nd rfl (Or.inl rfl)) (pss_one (ps_if (pt_not (pt_val (pe_call G_law_asked (hr.mono (by decide)) (by rfl) T.g_law_asked T.k_law_asked b_law_asked .nil pass0 (pa_cons (pe_ix ix_list (pv 2) (pv 4) (fun _ _ => rfl)) (pa_cons (pe_ix ix_tup (pe_ix ix_list (pv 3) (pv 4) (fun _ _ => rfl)) pe_int (fun _ _ => rfl)) (pa_cons (pe_ix ix_tup (pe_ix ix_list (pv 3) (pv 4) (fun _ _ => rfl)) pe_int (fun _ _ => rfl)) pa_nil)))))) (pss_one (ps_ret pe_bl)) pss_nil)))))
      (pss_one (ps_ret pe_bl))))))), ?_⟩
    refine ⟨_, rfl, a, ns, rfl, ha, fun b c H1 hb hc e1 B1 => ?_⟩
    refine ⟨Nat.zero_le _, fun p hp => ⟨Nat.zero_le _, fun q hq => ?_⟩⟩
    have np := B1.ne hp
    have B2 := B1.ex (Ex.new (o := .lst []) hp)
    have nq := B2.ne hq
    have B3 := B2.ex (Ex.new (o := .lst []) hq)
    have qp : q ≠ p := fun z => by rw [z, upd_same] at hq; cases hq
    have gp : upd (upd H1 p (.lst [])) q (.lst []) p = some (.lst []) := by rw [upd_ne qp.symm, upd_same]
    have gq : upd (upd H1 p (.lst [])) q (.lst []) q = some (.lst []) := upd_same
    generalize upd (upd H1 p (.lst [])) q (.lst []) = H3 at B3 gp gq
    refine ⟨_, rfl, by decide, by decide, for_range (lo := 0) (n := 2) (fun j σ G => ∃ v4 v5 v6 v7 bs ts, σ = [some (.ref a), some (.ref b), some (.ref p), some (.ref q), v4, v5, v6, v7] ∧ Bx G b c ∧ G p = some (.lst (bs.map V.ref)) ∧ G q = some (.lst (ts.map V.ref)) ∧ bs.length = j ∧ ts.length = j ∧ ∀ (k : Nat) (x t : Addr), bs[k]? = some x → ts[k]? = some t → Ent A G x t) ⟨_, _, _, _, [], [], rfl, B3, gp, gq, rfl, rfl, fun k x t h _ => by cases h⟩ ?_ ?_⟩
    · rintro j σ G hj ⟨v4, v5, v6, v7, bs, ts, rfl, B, Gp, Gq, lb, lt, en⟩
      rw [show (0 : Int) + (j : Int) = (j : Int) from Int.zero_add _]
      refine ⟨_, rfl, b, c, 5, rfl, by decide, by decide, B, fun d G1 dl B1 M1 => ?_⟩
      have Gp1 := M1 _ _ np.1 Gp
      have Gq1 := M1 _ _ nq.1 Gq
      have em : ((d : Int) + 3 * (j : Int)) % 5 = (((d + 3 * j) % 5 : Nat) : Int) := by omega
      have w5 : (d + 3 * j) % 5 < 5 := Nat.mod_lt _ (by decide)
      refine ⟨_, rfl, _, _, rfl, rfl, (by unfold CMul; omega), _, _, rfl, rfl, .inl ⟨_, rfl, _, _, rfl, rfl, (by show (0 : Int) < 5; decide), ?_⟩⟩
      dsimp only
      rw [em]
      generalize (d + 3 * j) % 5 = w1 at w5
      refine ⟨_, rfl, _, rfl, b, c, w1, rfl, w5, B1, fun n G2 ln n41 B2 M2 => ?_⟩
      have Gp2 := M2 _ _ np.1 Gp1
      have Gq2 := M2 _ _ nq.1 Gq1
      refine ⟨_, rfl, .inl ⟨rfl, _, SqL.of Gp2⟩, _, rfl, _, rfl, w1, n, rfl, w5, ln, n41, fun x G4 hx e4 hbk => ⟨p, _, _, rfl, rfl, e4 _ _ Gp2, small1000 (by rw [List.length_map]; omega), ?_⟩⟩
      have Gp4 := e4 _ _ Gp2
      have Gq4 := e4 _ _ Gq2
      have B4 := B2.ex e4
      have g5p : upd G4 p (.lst (bs.map V.ref ++ [V.ref x])) p = some (.lst (bs.map V.ref ++ [V.ref x])) := upd_same
      have g5q : upd G4 p (.lst (bs.map V.ref ++ [V.ref x])) q = some (.lst (ts.map V.ref)) := by rw [upd_ne qp]; exact Gq4
      have k5 : ∀ y o, y ≠ p → G4 y = some o → upd G4 p (.lst (bs.map V.ref ++ [V.ref x])) y = some o := fun y o h1 h2 => by rw [upd_ne h1]; exact h2
      have B5 : Bx (upd G4 p (.lst (bs.map V.ref ++ [V.ref x]))) b c := B4.keep (fun o => k5 b o np.1.symm) (fun o => k5 c o np.2.symm)
      generalize upd G4 p (.lst (bs.map V.ref ++ [V.ref x])) = G5 at g5p g5q k5 B5
      refine ⟨_, rfl, .inl ⟨rfl, _, SqL.of g5q⟩, _, rfl, _, rfl, (by decide +kernel : (2 : Nat) ≤ sizeLine), fun t ht => ⟨q, _, _, rfl, rfl, Ex.new ht _ _ g5q, small1000 (by rw [List.length_map]; omega), ?_⟩⟩
      have e6 := Ex.new (o := .tup [.int (w1 : Int), .int (n : Int)]) ht
      have g6t : upd G5 t (.tup [.int (w1 : Int), .int (n : Int)]) t = some (.tup [.int (w1 : Int), .int (n : Int)]) := upd_same
      have B6 := B5.ex e6
      have g6p := e6 _ _ g5p
      have g6q := e6 _ _ g5q
      show ∃ _, _
      generalize upd G5 t (.tup [.int (w1 : Int), .int (n : Int)]) = G6 at e6 g6t B6 g6p g6q ⊢
      have k7 : ∀ y o, y ≠ q → G6 y = some o → upd G6 q (.lst (ts.map V.ref ++ [V.ref t])) y = some o := fun y o h1 h2 => by rw [upd_ne h1]; exact h2
      have n6 : Ent A G6 x t := by
        obtain ⟨o, ⟨dx, ex⟩, f⟩ := hbk
        have xp : x ≠ p := fun z => by rw [z, Gp4] at ex; cases ex
        exact ⟨w1, n, g6t, w5, ln, n41, o, ⟨dx, e6 _ _ (k5 _ _ xp ex)⟩, f⟩
      obtain ⟨xb, gb⟩ := B.lst
      obtain ⟨xb1, gb1⟩ := B1.lst
      refine ⟨_, _, _, _, bs ++ [x], ts ++ [t], rfl, B6.keep (fun o => k7 b o nq.1.symm) (fun o => k7 c o nq.2.symm), ?_, ?_, by rw [List.length_append, lb]; rfl, by rw [List.length_append, lt]; rfl, fun k y u h1 h2 => ?_⟩
      · rw [List.map_append]
        exact k7 _ _ qp.symm g6p
      · rw [List.map_append]
        exact upd_same
      · have lk := (List.getElem?_eq_some_iff.mp h1).1
        rw [List.length_append] at lk
        by_cases cc : k < bs.length
        · rw [List.getElem?_append_left cc] at h1
          rw [List.getElem?_append_left (by omega)] at h2
          have E0 := en k y u h1 h2
          have n0 := E0.ne gb
          have E1 := E0.keep (fun o => M1 u o n0.2) (fun o => M1 y o n0.1)
          have n1 := E1.ne gb1
          have E2 := E1.keep (fun o => M2 u o n1.2) (fun o => M2 y o n1.1)
          have E4 := E2.keep (fun o => e4 u o) (fun o => e4 y o)
          have n4 := E4.ne Gp4
          have E5 := E4.keep (fun o => k5 u o n4.2) (fun o => k5 y o n4.1)
          have E6 := E5.keep (fun o => e6 u o) (fun o => e6 y o)
          have n6 := E6.ne g6q
          exact E6.keep (fun o => k7 u o n6.2) (fun o => k7 y o n6.1)
        · have ek : k = bs.length := by have : [x].length = 1 := rfl; omega
          subst ek
          rw [List.getElem?_append_right (Nat.le_refl _), Nat.sub_self] at h1
          rw [List.getElem?_append_right (by omega), show bs.length - ts.length = 0 by omega] at h2
          cases h1
          cases h2
          have n7 := n6.ne g6q
          exact n6.keep (fun o => k7 t o n7.2) (fun o => k7 x o n7.1)
    rintro σ G ⟨v4, v5, v6, v7, bs, ts, rfl, B, Gp, Gq, lb, lt, en⟩
    refine ⟨_, rfl, by decide, by decide, for_range (lo := 0) (n := 2) (fun j σ G' => Ex G G' ∧ ∃ v4 v7, σ = [some (.ref a), some (.ref b), some (.ref p), some (.ref q), v4, v5, v6, v7]) ⟨Ex.refl _, _, _, rfl⟩ ?_ ?_⟩
    · rintro j0 σ G' hj0 ⟨eG, v4, v7, rfl⟩
      refine ⟨_, rfl, by decide, by decide, for_range (lo := 0) (n := 2) (fun j σ G' => Ex G G' ∧ ∃ v4 v7, σ = [some (.ref a), some (.ref b), some (.ref p), some (.ref q), v4, v5, v6, v7]) ⟨eG, _, _, rfl⟩ ?_ ?_⟩
      · rintro j σ G' hj ⟨eG, v4, v7, rfl⟩
        rw [show (0 : Int) + (j : Int) = (j : Int) from Int.zero_add _]
        have hx := List.getElem?_eq_getElem (by omega : j < bs.length)
        have ht := List.getElem?_eq_getElem (by omega : j < ts.length)
        obtain ⟨w1, n, gt, w5, ln, n41, o, ⟨dx, hb⟩, f⟩ := en j _ _ hx ht
        exact ⟨_, rfl, _, rfl, p, _, _, _, rfl, rfl, SqL.of (eG _ _ Gp), atR hx, _, rfl, _, rfl, q, _, _, _, rfl, rfl, SqL.of (eG _ _ Gq), atR ht, _, _, _, _, rfl, rfl, SqT.of (eG _ _ gt), rfl, _, rfl, _, rfl, q, _, _, _, rfl, rfl, SqL.of (eG _ _ Gq), atR ht, _, _, _, _, rfl, rfl, SqT.of (eG _ _ gt), rfl, _, w1, n, rfl, w5, ln, n41, ⟨o, ⟨dx, eG _ _ hb⟩, f⟩, fun G3 e3 => ⟨_, rfl, ifF rfl ⟨eG.trans e3, _, _, rfl⟩⟩⟩
      · rintro σ G' ⟨eG, v4, v7, rfl⟩
        exact ⟨eG, _, _, rfl⟩
    · rintro σ G' ⟨eG, v4, v7, rfl⟩
      exact k G'

end
end Pv
namespace Pv
open PySem L2 Evl
theorem all_mk {l : PySem.W.OpenLaw} {w : World} {K : PySem.W.Frag} {h : Heap} {mg : Str → Option Value} {fa f_circles_of f_is_odd f_with_names_exchanged f_slot_crowd f_ring_crowd f_exchanged f_lengthened f_m_book_init f_m_pair_crowd f_m_slot_crowd f_m_parity_init cdA_m_parity_init ccA_m_parity_init kd_odd f_m_parity_crowd f_m_ring_init cdA_m_ring_init ccA_m_ring_init f_m_ring_crowd f_law_box f_law_draw f_law_book f_law_circles f_law_is_state f_law_size f_law_row f_law_four f_law_joint f_law_comes_up f_law_crowds f_law_asked f_law c_SLOT_CROWD slot_i slot_a slot_a0 slot_a1 slot_a2 slot_a3 slot_b slot_b0 slot_b1 slot_b2 slot_b3 c_RING_CROWD ring_i ring_a ring_a0 ring_a1 ring_a2 ring_a3 ring_b ring_b0 ring_b1 ring_b2 ring_b3 c_MendError N_MendError_ c_InvalidSize N_InvalidSize_ i_InvalidSize c_PairBook c_SlotBook c_ParityBook c_RingBook c_Book : Addr}
    {od_circles_of an_circles_of od_is_odd an_is_odd od_with_names_exchanged an_with_names_exchanged od_slot_crowd an_slot_crowd od_ring_crowd an_ring_crowd od_exchanged an_exchanged od_lengthened an_lengthened od_m_book_init an_m_book_init od_m_pair_crowd an_m_pair_crowd od_m_slot_crowd an_m_slot_crowd od_m_parity_init an_m_parity_init cdd_m_parity_init cld_m_parity_init od_m_parity_crowd an_m_parity_crowd od_m_ring_init an_m_ring_init cdd_m_ring_init cld_m_ring_init od_m_ring_crowd an_m_ring_crowd od_law_box an_law_box od_law_draw an_law_draw od_law_book an_law_book od_law_circles an_law_circles od_law_is_state an_law_is_state od_law_size an_law_size od_law_row an_law_row od_law_four an_law_four od_law_joint an_law_joint od_law_comes_up an_law_comes_up od_law_crowds an_law_crowds od_law_asked an_law_asked od_law an_law odslot_c odslot_i odslot_a odslot_a0 odslot_a1 odslot_a2 odslot_a3 odslot_b odslot_b0 odslot_b1 odslot_b2 odslot_b3 odring_c odring_i odring_a odring_a0 odring_a1 odring_a2 odring_a3 odring_b odring_b0 odring_b1 odring_b2 odring_b3 dd_MendError dd_InvalidSize od_i_InvalidSize an_i_InvalidSize : Option Addr}
    {sl_circles_of sl_is_odd sl_with_names_exchanged sl_slot_crowd sl_ring_crowd sl_exchanged sl_lengthened sl_m_book_init sl_m_pair_crowd sl_m_slot_crowd sl_m_parity_init ccs_m_parity_init csl_m_parity_init sl_m_parity_crowd sl_m_ring_init ccs_m_ring_init csl_m_ring_init sl_m_ring_crowd sl_law_box sl_law_draw sl_law_book sl_law_circles sl_law_is_state sl_law_size sl_law_row sl_law_four sl_law_joint sl_law_comes_up sl_law_crowds sl_law_asked sl_law slslot_c slslot_i slslot_a slslot_a0 slslot_a1 slslot_a2 slslot_a3 slslot_b slslot_b0 slslot_b1 slslot_b2 slslot_b3 slring_c slring_i slring_a slring_a0 slring_a1 slring_a2 slring_a3 slring_b slring_b0 slring_b1 slring_b2 slring_b3 sl_i_InvalidSize : Array (Option Value)}
    {oc_circles_of doc_circles_of pm_circles_of cd_circles_of ct_circles_of kV_circles_of oc_is_odd doc_is_odd pm_is_odd cd_is_odd ct_is_odd kV_is_odd oc_with_names_exchanged doc_with_names_exchanged pm_with_names_exchanged cd_with_names_exchanged ct_with_names_exchanged kV_with_names_exchanged oc_slot_crowd doc_slot_crowd pm_slot_crowd cd_slot_crowd ct_slot_crowd kV_slot_crowd oc_ring_crowd doc_ring_crowd pm_ring_crowd cd_ring_crowd ct_ring_crowd kV_ring_crowd oc_exchanged doc_exchanged pm_exchanged cd_exchanged ct_exchanged kV_exchanged oc_lengthened doc_lengthened pm_lengthened cd_lengthened ct_lengthened kV_lengthened oc_m_book_init doc_m_book_init pm_m_book_init ct_m_book_init cd_m_book_init kV_m_book_init oc_m_pair_crowd doc_m_pair_crowd pm_m_pair_crowd ct_m_pair_crowd cd_m_pair_crowd kV_m_pair_crowd oc_m_slot_crowd doc_m_slot_crowd pm_m_slot_crowd ct_m_slot_crowd cd_m_slot_crowd kV_m_slot_crowd oc_m_parity_init doc_m_parity_init pm_m_parity_init ct_m_parity_init ccl_m_parity_init cl_m_parity_init oc_m_parity_crowd doc_m_parity_crowd pm_m_parity_crowd ct_m_parity_crowd cd_m_parity_crowd kV_m_parity_crowd oc_m_ring_init doc_m_ring_init pm_m_ring_init ct_m_ring_init kV_m_ring_init ccl_m_ring_init cl_m_ring_init oc_m_ring_crowd doc_m_ring_crowd pm_m_ring_crowd ct_m_ring_crowd cd_m_ring_crowd kV_m_ring_crowd oc_law_box doc_law_box pm_law_box cd_law_box ct_law_box kV_law_box oc_law_draw doc_law_draw pm_law_draw cd_law_draw ct_law_draw kV_law_draw oc_law_book doc_law_book pm_law_book cd_law_book ct_law_book kV_law_book oc_law_circles doc_law_circles pm_law_circles cd_law_circles ct_law_circles kV_law_circles oc_law_is_state doc_law_is_state pm_law_is_state cd_law_is_state ct_law_is_state kV_law_is_state oc_law_size doc_law_size pm_law_size cd_law_size ct_law_size kV_law_size oc_law_row doc_law_row pm_law_row cd_law_row ct_law_row kV_law_row oc_law_four doc_law_four pm_law_four cd_law_four ct_law_four kV_law_four oc_law_joint doc_law_joint pm_law_joint cd_law_joint ct_law_joint kV_law_joint oc_law_comes_up doc_law_comes_up pm_law_comes_up cd_law_comes_up ct_law_comes_up kV_law_comes_up oc_law_crowds doc_law_crowds pm_law_crowds cd_law_crowds ct_law_crowds kV_law_crowds oc_law_asked doc_law_asked pm_law_asked cd_law_asked ct_law_asked kV_law_asked oc_law doc_law pm_law cd_law ct_law kV_law oc_i_InvalidSize kV_i_InvalidSize doc_i_InvalidSize pm_i_InvalidSize cd_i_InvalidSize ct_i_InvalidSize : Value}
    {vs_m_parity_init vs_m_ring_init : Array Value}
    {file_m_parity_init file_m_ring_init nm_MendError q_MendError nm_InvalidSize q_InvalidSize : Str}
    {tf_m_parity_init tf_m_ring_init tslot_i_0 tslot_i_1 tslot_i_2 tslot_i_3 tslot_a0_0 tslot_a0_1 tslot_a0_2 tslot_a0_3 tslot_a1_0 tslot_a1_1 tslot_a1_2 tslot_a1_3 tslot_a2_0 tslot_a2_1 tslot_a2_2 tslot_a2_3 tslot_a3_0 tslot_a3_1 tslot_a3_2 tslot_a3_3 tslot_b0_0 tslot_b0_1 tslot_b0_2 tslot_b0_3 tslot_b1_0 tslot_b1_1 tslot_b1_2 tslot_b1_3 tslot_b2_0 tslot_b2_1 tslot_b2_2 tslot_b2_3 tslot_b3_0 tslot_b3_1 tslot_b3_2 tslot_b3_3 tring_i_0 tring_i_1 tring_i_2 tring_i_3 tring_i_4 tring_i_5 tring_a0_0 tring_a0_1 tring_a0_2 tring_a0_3 tring_a0_4 tring_a0_5 tring_a1_0 tring_a1_1 tring_a1_2 tring_a1_3 tring_a1_4 tring_a1_5 tring_a2_0 tring_a2_1 tring_a2_2 tring_a2_3 tring_a2_4 tring_a2_5 tring_a3_0 tring_a3_1 tring_a3_2 tring_a3_3 tring_a3_4 tring_a3_5 tring_b0_0 tring_b0_1 tring_b0_2 tring_b0_3 tring_b0_4 tring_b0_5 tring_b1_0 tring_b1_1 tring_b1_2 tring_b1_3 tring_b1_4 tring_b1_5 tring_b2_0 tring_b2_1 tring_b2_2 tring_b2_3 tring_b2_4 tring_b2_5 tring_b3_0 tring_b3_1 tring_b3_2 tring_b3_3 tring_b3_4 tring_b3_5 lt_PairBook lt_SlotBook lt_ParityBook lt_RingBook : Tok}
    {nslot_c nslot_i nslot_a nslot_a0 nslot_a1 nslot_a2 nslot_a3 nslot_b nslot_b0 nslot_b1 nslot_b2 nslot_b3 nring_c nring_i nring_a nring_a0 nring_a1 nring_a2 nring_a3 nring_b nring_b0 nring_b1 nring_b2 nring_b3 : Nat}
    {bs_MendError sub_MendError bm_MendError bs_InvalidSize sub_InvalidSize : List Value}
    {sn_MendError sn_InvalidSize : List Str}
    {ab_MendError ab_InvalidSize : Bool}
    {col_MendError col_InvalidSize : Option Bool}
    {k0_MendError k1_MendError k2_MendError k3_MendError k5_MendError k0_InvalidSize k1_InvalidSize k2_InvalidSize k3_InvalidSize k5_InvalidSize : Option Value}
    (X : K.In h) (G : h.Ns mainGlobals mg) (hfa : mg "law" = some (.ref fa))
    (a_PairBook : PySem.W.nsIn K mainGlobals "PairBook" = some (some (.ref c_PairBook)))
    (a_SlotBook : PySem.W.nsIn K mainGlobals "SlotBook" = some (some (.ref c_SlotBook)))
    (a_ParityBook : PySem.W.nsIn K mainGlobals "ParityBook" = some (some (.ref c_ParityBook)))
    (a_RingBook : PySem.W.nsIn K mainGlobals "RingBook" = some (some (.ref c_RingBook)))
    (rm2_PairBook : PySem.W.findIn K (.ref c_PairBook) "__init__" = some (some (.ref f_m_book_init)))
    (me_PairBook : PySem.W.findIn K (.ref c_PairBook) "crowd" = some (some (.ref f_m_pair_crowd)))
    (rm2_SlotBook : PySem.W.findIn K (.ref c_SlotBook) "__init__" = some (some (.ref f_m_book_init)))
    (me_SlotBook : PySem.W.findIn K (.ref c_SlotBook) "crowd" = some (some (.ref f_m_slot_crowd)))
    (rm2_ParityBook : PySem.W.findIn K (.ref c_ParityBook) "__init__" = some (some (.ref f_m_parity_init)))
    (me_ParityBook : PySem.W.findIn K (.ref c_ParityBook) "crowd" = some (some (.ref f_m_parity_crowd)))
    (rm2_RingBook : PySem.W.findIn K (.ref c_RingBook) "__init__" = some (some (.ref f_m_ring_init)))
    (me_RingBook : PySem.W.findIn K (.ref c_RingBook) "crowd" = some (some (.ref f_m_ring_crowd)))
    (l_m_parity_init : K.lookup f_m_parity_init = some ⟨oc_m_parity_init, od_m_parity_init, .func (PySem.W.ksFn "__init__" "ParityBook.__init__" (defArgs s_m_parity_init) (defBody s_m_parity_init) (defScope s_m_parity_init) .none (.ref kd_odd) doc_m_parity_init pm_m_parity_init an_m_parity_init (.ref cdA_m_parity_init) ct_m_parity_init ccA_m_parity_init), sl_m_parity_init⟩)
    (l_m_ring_init : K.lookup f_m_ring_init = some ⟨oc_m_ring_init, od_m_ring_init, .func (PySem.W.ksFn "__init__" "RingBook.__init__" (defArgs s_m_ring_init) (defBody s_m_ring_init) (defScope s_m_ring_init) .none kV_m_ring_init doc_m_ring_init pm_m_ring_init an_m_ring_init (.ref cdA_m_ring_init) ct_m_ring_init ccA_m_ring_init), sl_m_ring_init⟩)
    (sf1_m_parity_init : K.lookup cdA_m_parity_init = some ⟨ccl_m_parity_init, cdd_m_parity_init, .fields vs_m_parity_init, ccs_m_parity_init⟩)
    (sf1_m_ring_init : K.lookup cdA_m_ring_init = some ⟨ccl_m_ring_init, cdd_m_ring_init, .fields vs_m_ring_init, ccs_m_ring_init⟩)
    (a_circles_of : PySem.W.nsIn K mainGlobals "circles_of" = some (some (.ref f_circles_of)))
    (l_circles_of : K.lookup f_circles_of = some ⟨oc_circles_of, od_circles_of, .func (PySem.W.fnOf "circles_of" "circles_of" (defArgs s_circles_of) (defBody s_circles_of) (defScope s_circles_of) .none kV_circles_of doc_circles_of pm_circles_of an_circles_of cd_circles_of ct_circles_of), sl_circles_of⟩)
    (cdis_circles_of : PySem.W.codeIn K cd_circles_of "circles_of" = true)
    (k_circles_of : PySem.W.keepIn K (.ref f_circles_of) = true)
    (a_is_odd : PySem.W.nsIn K mainGlobals "is_odd" = some (some (.ref f_is_odd)))
    (l_is_odd : K.lookup f_is_odd = some ⟨oc_is_odd, od_is_odd, .func (PySem.W.fnOf "is_odd" "is_odd" (defArgs s_is_odd) (defBody s_is_odd) (defScope s_is_odd) .none kV_is_odd doc_is_odd pm_is_odd an_is_odd cd_is_odd ct_is_odd), sl_is_odd⟩)
    (cdis_is_odd : PySem.W.codeIn K cd_is_odd "is_odd" = true)
    (k_is_odd : PySem.W.keepIn K (.ref f_is_odd) = true)
    (a_with_names_exchanged : PySem.W.nsIn K mainGlobals "with_names_exchanged" = some (some (.ref f_with_names_exchanged)))
    (l_with_names_exchanged : K.lookup f_with_names_exchanged = some ⟨oc_with_names_exchanged, od_with_names_exchanged, .func (PySem.W.fnOf "with_names_exchanged" "with_names_exchanged" (defArgs s_with_names_exchanged) (defBody s_with_names_exchanged) (defScope s_with_names_exchanged) .none kV_with_names_exchanged doc_with_names_exchanged pm_with_names_exchanged an_with_names_exchanged cd_with_names_exchanged ct_with_names_exchanged), sl_with_names_exchanged⟩)
    (cdis_with_names_exchanged : PySem.W.codeIn K cd_with_names_exchanged "with_names_exchanged" = true)
    (k_with_names_exchanged : PySem.W.keepIn K (.ref f_with_names_exchanged) = true)
    (a_slot_crowd : PySem.W.nsIn K mainGlobals "slot_crowd" = some (some (.ref f_slot_crowd)))
    (l_slot_crowd : K.lookup f_slot_crowd = some ⟨oc_slot_crowd, od_slot_crowd, .func (PySem.W.fnOf "slot_crowd" "slot_crowd" (defArgs s_slot_crowd) (defBody s_slot_crowd) (defScope s_slot_crowd) .none kV_slot_crowd doc_slot_crowd pm_slot_crowd an_slot_crowd cd_slot_crowd ct_slot_crowd), sl_slot_crowd⟩)
    (cdis_slot_crowd : PySem.W.codeIn K cd_slot_crowd "slot_crowd" = true)
    (k_slot_crowd : PySem.W.keepIn K (.ref f_slot_crowd) = true)
    (a_ring_crowd : PySem.W.nsIn K mainGlobals "ring_crowd" = some (some (.ref f_ring_crowd)))
    (l_ring_crowd : K.lookup f_ring_crowd = some ⟨oc_ring_crowd, od_ring_crowd, .func (PySem.W.fnOf "ring_crowd" "ring_crowd" (defArgs s_ring_crowd) (defBody s_ring_crowd) (defScope s_ring_crowd) .none kV_ring_crowd doc_ring_crowd pm_ring_crowd an_ring_crowd cd_ring_crowd ct_ring_crowd), sl_ring_crowd⟩)
    (cdis_ring_crowd : PySem.W.codeIn K cd_ring_crowd "ring_crowd" = true)
    (k_ring_crowd : PySem.W.keepIn K (.ref f_ring_crowd) = true)
    (a_exchanged : PySem.W.nsIn K mainGlobals "_exchanged" = some (some (.ref f_exchanged)))
    (l_exchanged : K.lookup f_exchanged = some ⟨oc_exchanged, od_exchanged, .func (PySem.W.fnOf "_exchanged" "_exchanged" (defArgs s_exchanged) (defBody s_exchanged) (defScope s_exchanged) .none kV_exchanged doc_exchanged pm_exchanged an_exchanged cd_exchanged ct_exchanged), sl_exchanged⟩)
    (cdis_exchanged : PySem.W.codeIn K cd_exchanged "_exchanged" = true)
    (k_exchanged : PySem.W.keepIn K (.ref f_exchanged) = true)
    (a_lengthened : PySem.W.nsIn K mainGlobals "_lengthened" = some (some (.ref f_lengthened)))
    (l_lengthened : K.lookup f_lengthened = some ⟨oc_lengthened, od_lengthened, .func (PySem.W.fnOf "_lengthened" "_lengthened" (defArgs s_lengthened) (defBody s_lengthened) (defScope s_lengthened) .none kV_lengthened doc_lengthened pm_lengthened an_lengthened cd_lengthened ct_lengthened), sl_lengthened⟩)
    (cdis_lengthened : PySem.W.codeIn K cd_lengthened "_lengthened" = true)
    (k_lengthened : PySem.W.keepIn K (.ref f_lengthened) = true)
    (l_m_book_init : K.lookup f_m_book_init = some ⟨oc_m_book_init, od_m_book_init, .func (PySem.W.fnOf "__init__" "Book.__init__" (defArgs s_m_book_init) (defBody s_m_book_init) (defScope s_m_book_init) .none kV_m_book_init doc_m_book_init pm_m_book_init an_m_book_init cd_m_book_init ct_m_book_init), sl_m_book_init⟩)
    (cd_is_m_book_init : PySem.W.codeIn K cd_m_book_init "Book.__init__" = true)
    (k_m_book_init : PySem.W.keepIn K (.ref f_m_book_init) = true)
    (l_m_pair_crowd : K.lookup f_m_pair_crowd = some ⟨oc_m_pair_crowd, od_m_pair_crowd, .func (PySem.W.fnOf "crowd" "PairBook.crowd" (defArgs s_m_pair_crowd) (defBody s_m_pair_crowd) (defScope s_m_pair_crowd) .none kV_m_pair_crowd doc_m_pair_crowd pm_m_pair_crowd an_m_pair_crowd cd_m_pair_crowd ct_m_pair_crowd), sl_m_pair_crowd⟩)
    (cd_is_m_pair_crowd : PySem.W.codeIn K cd_m_pair_crowd "PairBook.crowd" = true)
    (k_m_pair_crowd : PySem.W.keepIn K (.ref f_m_pair_crowd) = true)
    (l_m_slot_crowd : K.lookup f_m_slot_crowd = some ⟨oc_m_slot_crowd, od_m_slot_crowd, .func (PySem.W.fnOf "crowd" "SlotBook.crowd" (defArgs s_m_slot_crowd) (defBody s_m_slot_crowd) (defScope s_m_slot_crowd) .none kV_m_slot_crowd doc_m_slot_crowd pm_m_slot_crowd an_m_slot_crowd cd_m_slot_crowd ct_m_slot_crowd), sl_m_slot_crowd⟩)
    (cd_is_m_slot_crowd : PySem.W.codeIn K cd_m_slot_crowd "SlotBook.crowd" = true)
    (k_m_slot_crowd : PySem.W.keepIn K (.ref f_m_slot_crowd) = true)
    (cd_is_m_parity_init : PySem.W.codeIn K (.ref cdA_m_parity_init) "ParityBook.__init__" = true)
    (sf2_m_parity_init : vs_m_parity_init[2]? = some (.str file_m_parity_init tf_m_parity_init))
    (sf3_m_parity_init : (l.prog.main.file == file_m_parity_init) = true)
    (sf4_m_parity_init : K.lookup ccA_m_parity_init = some ⟨cl_m_parity_init, cld_m_parity_init, .cell (some (.ref c_ParityBook)), csl_m_parity_init⟩)
    (l_m_parity_crowd : K.lookup f_m_parity_crowd = some ⟨oc_m_parity_crowd, od_m_parity_crowd, .func (PySem.W.fnOf "crowd" "ParityBook.crowd" (defArgs s_m_parity_crowd) (defBody s_m_parity_crowd) (defScope s_m_parity_crowd) .none kV_m_parity_crowd doc_m_parity_crowd pm_m_parity_crowd an_m_parity_crowd cd_m_parity_crowd ct_m_parity_crowd), sl_m_parity_crowd⟩)
    (cd_is_m_parity_crowd : PySem.W.codeIn K cd_m_parity_crowd "ParityBook.crowd" = true)
    (k_m_parity_crowd : PySem.W.keepIn K (.ref f_m_parity_crowd) = true)
    (cd_is_m_ring_init : PySem.W.codeIn K (.ref cdA_m_ring_init) "RingBook.__init__" = true)
    (sf2_m_ring_init : vs_m_ring_init[2]? = some (.str file_m_ring_init tf_m_ring_init))
    (sf3_m_ring_init : (l.prog.main.file == file_m_ring_init) = true)
    (sf4_m_ring_init : K.lookup ccA_m_ring_init = some ⟨cl_m_ring_init, cld_m_ring_init, .cell (some (.ref c_RingBook)), csl_m_ring_init⟩)
    (l_m_ring_crowd : K.lookup f_m_ring_crowd = some ⟨oc_m_ring_crowd, od_m_ring_crowd, .func (PySem.W.fnOf "crowd" "RingBook.crowd" (defArgs s_m_ring_crowd) (defBody s_m_ring_crowd) (defScope s_m_ring_crowd) .none kV_m_ring_crowd doc_m_ring_crowd pm_m_ring_crowd an_m_ring_crowd cd_m_ring_crowd ct_m_ring_crowd), sl_m_ring_crowd⟩)
    (cd_is_m_ring_crowd : PySem.W.codeIn K cd_m_ring_crowd "RingBook.crowd" = true)
    (k_m_ring_crowd : PySem.W.keepIn K (.ref f_m_ring_crowd) = true)
    (a_law_box : PySem.W.nsIn K mainGlobals "_law_box" = some (some (.ref f_law_box)))
    (l_law_box : K.lookup f_law_box = some ⟨oc_law_box, od_law_box, .func (PySem.W.fnOf "_law_box" "_law_box" (defArgs s_law_box) (defBody s_law_box) (defScope s_law_box) .none kV_law_box doc_law_box pm_law_box an_law_box cd_law_box ct_law_box), sl_law_box⟩)
    (cdis_law_box : PySem.W.codeIn K cd_law_box "_law_box" = true)
    (k_law_box : PySem.W.keepIn K (.ref f_law_box) = true)
    (a_law_draw : PySem.W.nsIn K mainGlobals "_law_draw" = some (some (.ref f_law_draw)))
    (l_law_draw : K.lookup f_law_draw = some ⟨oc_law_draw, od_law_draw, .func (PySem.W.fnOf "_law_draw" "_law_draw" (defArgs s_law_draw) (defBody s_law_draw) (defScope s_law_draw) .none kV_law_draw doc_law_draw pm_law_draw an_law_draw cd_law_draw ct_law_draw), sl_law_draw⟩)
    (cdis_law_draw : PySem.W.codeIn K cd_law_draw "_law_draw" = true)
    (k_law_draw : PySem.W.keepIn K (.ref f_law_draw) = true)
    (a_law_book : PySem.W.nsIn K mainGlobals "_law_book" = some (some (.ref f_law_book)))
    (l_law_book : K.lookup f_law_book = some ⟨oc_law_book, od_law_book, .func (PySem.W.fnOf "_law_book" "_law_book" (defArgs s_law_book) (defBody s_law_book) (defScope s_law_book) .none kV_law_book doc_law_book pm_law_book an_law_book cd_law_book ct_law_book), sl_law_book⟩)
    (cdis_law_book : PySem.W.codeIn K cd_law_book "_law_book" = true)
    (k_law_book : PySem.W.keepIn K (.ref f_law_book) = true)
    (a_law_circles : PySem.W.nsIn K mainGlobals "_law_circles" = some (some (.ref f_law_circles)))
    (l_law_circles : K.lookup f_law_circles = some ⟨oc_law_circles, od_law_circles, .func (PySem.W.fnOf "_law_circles" "_law_circles" (defArgs s_law_circles) (defBody s_law_circles) (defScope s_law_circles) .none kV_law_circles doc_law_circles pm_law_circles an_law_circles cd_law_circles ct_law_circles), sl_law_circles⟩)
    (cdis_law_circles : PySem.W.codeIn K cd_law_circles "_law_circles" = true)
    (k_law_circles : PySem.W.keepIn K (.ref f_law_circles) = true)
    (a_law_is_state : PySem.W.nsIn K mainGlobals "_law_is_state" = some (some (.ref f_law_is_state)))
    (l_law_is_state : K.lookup f_law_is_state = some ⟨oc_law_is_state, od_law_is_state, .func (PySem.W.fnOf "_law_is_state" "_law_is_state" (defArgs s_law_is_state) (defBody s_law_is_state) (defScope s_law_is_state) .none kV_law_is_state doc_law_is_state pm_law_is_state an_law_is_state cd_law_is_state ct_law_is_state), sl_law_is_state⟩)
    (cdis_law_is_state : PySem.W.codeIn K cd_law_is_state "_law_is_state" = true)
    (k_law_is_state : PySem.W.keepIn K (.ref f_law_is_state) = true)
    (a_law_size : PySem.W.nsIn K mainGlobals "_law_size" = some (some (.ref f_law_size)))
    (l_law_size : K.lookup f_law_size = some ⟨oc_law_size, od_law_size, .func (PySem.W.fnOf "_law_size" "_law_size" (defArgs s_law_size) (defBody s_law_size) (defScope s_law_size) .none kV_law_size doc_law_size pm_law_size an_law_size cd_law_size ct_law_size), sl_law_size⟩)
    (cdis_law_size : PySem.W.codeIn K cd_law_size "_law_size" = true)
    (k_law_size : PySem.W.keepIn K (.ref f_law_size) = true)
    (a_law_row : PySem.W.nsIn K mainGlobals "_law_row" = some (some (.ref f_law_row)))
    (l_law_row : K.lookup f_law_row = some ⟨oc_law_row, od_law_row, .func (PySem.W.fnOf "_law_row" "_law_row" (defArgs s_law_row) (defBody s_law_row) (defScope s_law_row) .none kV_law_row doc_law_row pm_law_row an_law_row cd_law_row ct_law_row), sl_law_row⟩)
    (cdis_law_row : PySem.W.codeIn K cd_law_row "_law_row" = true)
    (k_law_row : PySem.W.keepIn K (.ref f_law_row) = true)
    (a_law_four : PySem.W.nsIn K mainGlobals "_law_four" = some (some (.ref f_law_four)))
    (l_law_four : K.lookup f_law_four = some ⟨oc_law_four, od_law_four, .func (PySem.W.fnOf "_law_four" "_law_four" (defArgs s_law_four) (defBody s_law_four) (defScope s_law_four) .none kV_law_four doc_law_four pm_law_four an_law_four cd_law_four ct_law_four), sl_law_four⟩)
    (cdis_law_four : PySem.W.codeIn K cd_law_four "_law_four" = true)
    (k_law_four : PySem.W.keepIn K (.ref f_law_four) = true)
    (a_law_joint : PySem.W.nsIn K mainGlobals "_law_joint" = some (some (.ref f_law_joint)))
    (l_law_joint : K.lookup f_law_joint = some ⟨oc_law_joint, od_law_joint, .func (PySem.W.fnOf "_law_joint" "_law_joint" (defArgs s_law_joint) (defBody s_law_joint) (defScope s_law_joint) .none kV_law_joint doc_law_joint pm_law_joint an_law_joint cd_law_joint ct_law_joint), sl_law_joint⟩)
    (cdis_law_joint : PySem.W.codeIn K cd_law_joint "_law_joint" = true)
    (k_law_joint : PySem.W.keepIn K (.ref f_law_joint) = true)
    (a_law_comes_up : PySem.W.nsIn K mainGlobals "_law_comes_up" = some (some (.ref f_law_comes_up)))
    (l_law_comes_up : K.lookup f_law_comes_up = some ⟨oc_law_comes_up, od_law_comes_up, .func (PySem.W.fnOf "_law_comes_up" "_law_comes_up" (defArgs s_law_comes_up) (defBody s_law_comes_up) (defScope s_law_comes_up) .none kV_law_comes_up doc_law_comes_up pm_law_comes_up an_law_comes_up cd_law_comes_up ct_law_comes_up), sl_law_comes_up⟩)
    (cdis_law_comes_up : PySem.W.codeIn K cd_law_comes_up "_law_comes_up" = true)
    (k_law_comes_up : PySem.W.keepIn K (.ref f_law_comes_up) = true)
    (a_law_crowds : PySem.W.nsIn K mainGlobals "_law_crowds" = some (some (.ref f_law_crowds)))
    (l_law_crowds : K.lookup f_law_crowds = some ⟨oc_law_crowds, od_law_crowds, .func (PySem.W.fnOf "_law_crowds" "_law_crowds" (defArgs s_law_crowds) (defBody s_law_crowds) (defScope s_law_crowds) .none kV_law_crowds doc_law_crowds pm_law_crowds an_law_crowds cd_law_crowds ct_law_crowds), sl_law_crowds⟩)
    (cdis_law_crowds : PySem.W.codeIn K cd_law_crowds "_law_crowds" = true)
    (k_law_crowds : PySem.W.keepIn K (.ref f_law_crowds) = true)
    (a_law_asked : PySem.W.nsIn K mainGlobals "_law_asked" = some (some (.ref f_law_asked)))
    (l_law_asked : K.lookup f_law_asked = some ⟨oc_law_asked, od_law_asked, .func (PySem.W.fnOf "_law_asked" "_law_asked" (defArgs s_law_asked) (defBody s_law_asked) (defScope s_law_asked) .none kV_law_asked doc_law_asked pm_law_asked an_law_asked cd_law_asked ct_law_asked), sl_law_asked⟩)
    (cdis_law_asked : PySem.W.codeIn K cd_law_asked "_law_asked" = true)
    (k_law_asked : PySem.W.keepIn K (.ref f_law_asked) = true)
    (a_law : PySem.W.nsIn K mainGlobals "law" = some (some (.ref f_law)))
    (l_law : K.lookup f_law = some ⟨oc_law, od_law, .func (PySem.W.fnOf "law" "law" (defArgs s_law) (defBody s_law) (defScope s_law) .none kV_law doc_law pm_law an_law cd_law ct_law), sl_law⟩)
    (cdis_law : PySem.W.codeIn K cd_law "law" = true)
    (k_law : PySem.W.keepIn K (.ref f_law) = true)
    (a_SLOT_CROWD : PySem.W.nsIn K mainGlobals "_SLOT_CROWD" = some (some (.ref c_SLOT_CROWD)))
    (l_slot_c : K.lookup c_SLOT_CROWD = some ⟨.type "tuple", odslot_c, .seq #[.ref slot_i, .ref slot_a, .ref slot_b] nslot_c, slslot_c⟩)
    (l_slot_i : K.lookup slot_i = some ⟨.type "tuple", odslot_i, .seq #[.int 0 tslot_i_0, .int 0 tslot_i_1, .int 2 tslot_i_2, .int 2 tslot_i_3] nslot_i, slslot_i⟩)
    (l_slot_a : K.lookup slot_a = some ⟨.type "tuple", odslot_a, .seq #[.ref slot_a0, .ref slot_a1, .ref slot_a2, .ref slot_a3] nslot_a, slslot_a⟩)
    (l_slot_a0 : K.lookup slot_a0 = some ⟨.type "tuple", odslot_a0, .seq #[.int 0 tslot_a0_0, .int 1 tslot_a0_1, .int 2 tslot_a0_2, .int 3 tslot_a0_3] nslot_a0, slslot_a0⟩)
    (l_slot_a1 : K.lookup slot_a1 = some ⟨.type "tuple", odslot_a1, .seq #[.int 1 tslot_a1_0, .int 0 tslot_a1_1, .int 2 tslot_a1_2, .int 3 tslot_a1_3] nslot_a1, slslot_a1⟩)
    (l_slot_a2 : K.lookup slot_a2 = some ⟨.type "tuple", odslot_a2, .seq #[.int 0 tslot_a2_0, .int 1 tslot_a2_1, .int 3 tslot_a2_2, .int 2 tslot_a2_3] nslot_a2, slslot_a2⟩)
    (l_slot_a3 : K.lookup slot_a3 = some ⟨.type "tuple", odslot_a3, .seq #[.int 1 tslot_a3_0, .int 0 tslot_a3_1, .int 3 tslot_a3_2, .int 2 tslot_a3_3] nslot_a3, slslot_a3⟩)
    (l_slot_b : K.lookup slot_b = some ⟨.type "tuple", odslot_b, .seq #[.ref slot_b0, .ref slot_b1, .ref slot_b2, .ref slot_b3] nslot_b, slslot_b⟩)
    (l_slot_b0 : K.lookup slot_b0 = some ⟨.type "tuple", odslot_b0, .seq #[.int 0 tslot_b0_0, .int 3 tslot_b0_1, .int 2 tslot_b0_2, .int 1 tslot_b0_3] nslot_b0, slslot_b0⟩)
    (l_slot_b1 : K.lookup slot_b1 = some ⟨.type "tuple", odslot_b1, .seq #[.int 3 tslot_b1_0, .int 0 tslot_b1_1, .int 2 tslot_b1_2, .int 1 tslot_b1_3] nslot_b1, slslot_b1⟩)
    (l_slot_b2 : K.lookup slot_b2 = some ⟨.type "tuple", odslot_b2, .seq #[.int 0 tslot_b2_0, .int 3 tslot_b2_1, .int 1 tslot_b2_2, .int 2 tslot_b2_3] nslot_b2, slslot_b2⟩)
    (l_slot_b3 : K.lookup slot_b3 = some ⟨.type "tuple", odslot_b3, .seq #[.int 3 tslot_b3_0, .int 0 tslot_b3_1, .int 1 tslot_b3_2, .int 2 tslot_b3_3] nslot_b3, slslot_b3⟩)
    (a_RING_CROWD : PySem.W.nsIn K mainGlobals "_RING_CROWD" = some (some (.ref c_RING_CROWD)))
    (l_ring_c : K.lookup c_RING_CROWD = some ⟨.type "tuple", odring_c, .seq #[.ref ring_i, .ref ring_a, .ref ring_b] nring_c, slring_c⟩)
    (l_ring_i : K.lookup ring_i = some ⟨.type "tuple", odring_i, .seq #[.int 1 tring_i_0, .int 0 tring_i_1, .int 0 tring_i_2, .int 2 tring_i_3, .int 3 tring_i_4, .int 3 tring_i_5] nring_i, slring_i⟩)
    (l_ring_a : K.lookup ring_a = some ⟨.type "tuple", odring_a, .seq #[.ref ring_a0, .ref ring_a1, .ref ring_a2, .ref ring_a3] nring_a, slring_a⟩)
    (l_ring_a0 : K.lookup ring_a0 = some ⟨.type "tuple", odring_a0, .seq #[.int 1 tring_a0_0, .int 4 tring_a0_1, .int 0 tring_a0_2, .int 5 tring_a0_3, .int 3 tring_a0_4, .int 2 tring_a0_5] nring_a0, slring_a0⟩)
    (l_ring_a1 : K.lookup ring_a1 = some ⟨.type "tuple", odring_a1, .seq #[.int 4 tring_a1_0, .int 0 tring_a1_1, .int 1 tring_a1_2, .int 5 tring_a1_3, .int 3 tring_a1_4, .int 2 tring_a1_5] nring_a1, slring_a1⟩)
    (l_ring_a2 : K.lookup ring_a2 = some ⟨.type "tuple", odring_a2, .seq #[.int 1 tring_a2_0, .int 4 tring_a2_1, .int 0 tring_a2_2, .int 2 tring_a2_3, .int 5 tring_a2_4, .int 3 tring_a2_5] nring_a2, slring_a2⟩)
    (l_ring_a3 : K.lookup ring_a3 = some ⟨.type "tuple", odring_a3, .seq #[.int 4 tring_a3_0, .int 0 tring_a3_1, .int 1 tring_a3_2, .int 2 tring_a3_3, .int 5 tring_a3_4, .int 3 tring_a3_5] nring_a3, slring_a3⟩)
    (l_ring_b : K.lookup ring_b = some ⟨.type "tuple", odring_b, .seq #[.ref ring_b0, .ref ring_b1, .ref ring_b2, .ref ring_b3] nring_b, slring_b⟩)
    (l_ring_b0 : K.lookup ring_b0 = some ⟨.type "tuple", odring_b0, .seq #[.int 1 tring_b0_0, .int 5 tring_b0_1, .int 0 tring_b0_2, .int 4 tring_b0_3, .int 2 tring_b0_4, .int 3 tring_b0_5] nring_b0, slring_b0⟩)
    (l_ring_b1 : K.lookup ring_b1 = some ⟨.type "tuple", odring_b1, .seq #[.int 5 tring_b1_0, .int 0 tring_b1_1, .int 1 tring_b1_2, .int 4 tring_b1_3, .int 2 tring_b1_4, .int 3 tring_b1_5] nring_b1, slring_b1⟩)
    (l_ring_b2 : K.lookup ring_b2 = some ⟨.type "tuple", odring_b2, .seq #[.int 1 tring_b2_0, .int 5 tring_b2_1, .int 0 tring_b2_2, .int 2 tring_b2_3, .int 3 tring_b2_4, .int 4 tring_b2_5] nring_b2, slring_b2⟩)
    (l_ring_b3 : K.lookup ring_b3 = some ⟨.type "tuple", odring_b3, .seq #[.int 5 tring_b3_0, .int 0 tring_b3_1, .int 1 tring_b3_2, .int 2 tring_b3_3, .int 3 tring_b3_4, .int 4 tring_b3_5] nring_b3, slring_b3⟩)
    (a_MendError : PySem.W.nsIn K mainGlobals "MendError" = some (some (.ref c_MendError)))
    (x_MendError : K.lookup c_MendError = some (excClassObj nm_MendError q_MendError c_MendError N_MendError_ bs_MendError bm_MendError true sn_MendError sub_MendError ab_MendError col_MendError dd_MendError k0_MendError k1_MendError k2_MendError k3_MendError k5_MendError "ValueError.__new__"))
    (a_InvalidSize : PySem.W.nsIn K mainGlobals "InvalidSize" = some (some (.ref c_InvalidSize)))
    (x_InvalidSize : K.lookup c_InvalidSize = some (excClassObj nm_InvalidSize q_InvalidSize c_InvalidSize N_InvalidSize_ bs_InvalidSize [.ref c_MendError, .type "ValueError", .type "Exception", .type "BaseException", .type "object"] true sn_InvalidSize sub_InvalidSize ab_InvalidSize col_InvalidSize dd_InvalidSize k0_InvalidSize k1_InvalidSize k2_InvalidSize k3_InvalidSize k5_InvalidSize "ValueError.__new__"))
    (kc_InvalidSize : PySem.W.keepIn K (.ref c_InvalidSize) = true)
    (sa_InvalidSize : PySem.W.findIn K (.ref c_InvalidSize) "__setattr__" = some (some (.builtin "object.__setattr__")))
    (ga_InvalidSize : PySem.W.findIn K (.ref c_InvalidSize) "__getattribute__" = some (some (.builtin "BaseException.__getattribute__")))
    (gg_InvalidSize : PySem.W.findIn K (.ref c_InvalidSize) "__getattr__" = some none)
    (ca_InvalidSize : PySem.W.findIn K (.ref c_InvalidSize) "__class__" = some (some (.builtin "object.__class__")))
    (i_is_InvalidSize : PySem.W.findIn K (.ref c_InvalidSize) "__init__" = some (some (.ref i_InvalidSize)))
    (t_InvalidSize : PySem.W.typeIn K (.ref i_InvalidSize) = some (.type "function"))
    (nf_InvalidSize : PySem.W.findIn K (.ref c_InvalidSize) "size" = some none)
    (l_i_InvalidSize : K.lookup i_InvalidSize = some ⟨oc_i_InvalidSize, od_i_InvalidSize, .func (PySem.W.fnOf "__init__" "InvalidSize.__init__" (defArgs s_InvalidSize) (defBody s_InvalidSize) (defScope s_InvalidSize) .none kV_i_InvalidSize doc_i_InvalidSize pm_i_InvalidSize an_i_InvalidSize cd_i_InvalidSize ct_i_InvalidSize), sl_i_InvalidSize⟩)
    (cdis_i_InvalidSize : PySem.W.codeIn K cd_i_InvalidSize "InvalidSize.__init__" = true)
    (k_i_InvalidSize : PySem.W.keepIn K (.ref i_InvalidSize) = true)
    (cn : PySem.W.specialIn K (.builtin "object.__class__") "__get__" = some (some (.builtin "getset_descriptor.__get__")))
    (ct : PySem.W.takesIn K (.builtin "object.__class__") = some true)
    (nd : [c_MendError, c_InvalidSize].Nodup)
    (rc1_PairBook : PySem.W.plainGet K c_PairBook Str.empty = true)
    (rc2_PairBook : PySem.W.hasDictIn K c_PairBook = true)
    (rc3_PairBook : PySem.W.plainOver K c_PairBook = true)
    (rc4_PairBook : PySem.W.findIn K (.ref c_PairBook) "__setattr__" = some (some (.builtin "object.__setattr__")))
    (rm1_PairBook : PySem.W.makesIn K c_PairBook = true)
    (rm3_PairBook : PySem.W.isFn K (.ref f_m_book_init) = true)
    (rm4_PairBook : PySem.W.keepIn K (.ref c_PairBook) = true)
    (mf_PairBook : PySem.W.isFn K (.ref f_m_pair_crowd) = true)
    (cl_PairBook : PySem.W.findIn K (.ref c_PairBook) "LEAST" = some (some (.int 1 lt_PairBook)))
    (cg_PairBook : PySem.W.specialIn K (.int 1 lt_PairBook) "__get__" = some none)
    (nsize_PairBook : PySem.W.findIn K (.ref c_PairBook) "size" = some none)
    (nodd_PairBook : PySem.W.findIn K (.ref c_PairBook) "odd" = some none)
    (rc1_SlotBook : PySem.W.plainGet K c_SlotBook Str.empty = true)
    (rc2_SlotBook : PySem.W.hasDictIn K c_SlotBook = true)
    (rc3_SlotBook : PySem.W.plainOver K c_SlotBook = true)
    (rc4_SlotBook : PySem.W.findIn K (.ref c_SlotBook) "__setattr__" = some (some (.builtin "object.__setattr__")))
    (rm1_SlotBook : PySem.W.makesIn K c_SlotBook = true)
    (rm3_SlotBook : PySem.W.isFn K (.ref f_m_book_init) = true)
    (rm4_SlotBook : PySem.W.keepIn K (.ref c_SlotBook) = true)
    (mf_SlotBook : PySem.W.isFn K (.ref f_m_slot_crowd) = true)
    (cl_SlotBook : PySem.W.findIn K (.ref c_SlotBook) "LEAST" = some (some (.int 1 lt_SlotBook)))
    (cg_SlotBook : PySem.W.specialIn K (.int 1 lt_SlotBook) "__get__" = some none)
    (nsize_SlotBook : PySem.W.findIn K (.ref c_SlotBook) "size" = some none)
    (nodd_SlotBook : PySem.W.findIn K (.ref c_SlotBook) "odd" = some none)
    (rc1_ParityBook : PySem.W.plainGet K c_ParityBook Str.empty = true)
    (rc2_ParityBook : PySem.W.hasDictIn K c_ParityBook = true)
    (rc3_ParityBook : PySem.W.plainOver K c_ParityBook = true)
    (rc4_ParityBook : PySem.W.findIn K (.ref c_ParityBook) "__setattr__" = some (some (.builtin "object.__setattr__")))
    (rm1_ParityBook : PySem.W.makesIn K c_ParityBook = true)
    (rm3_ParityBook : PySem.W.isFn K (.ref f_m_parity_init) = true)
    (rm4_ParityBook : PySem.W.keepIn K (.ref c_ParityBook) = true)
    (mf_ParityBook : PySem.W.isFn K (.ref f_m_parity_crowd) = true)
    (cl_ParityBook : PySem.W.findIn K (.ref c_ParityBook) "LEAST" = some (some (.int 3 lt_ParityBook)))
    (cg_ParityBook : PySem.W.specialIn K (.int 3 lt_ParityBook) "__get__" = some none)
    (nsize_ParityBook : PySem.W.findIn K (.ref c_ParityBook) "size" = some none)
    (nodd_ParityBook : PySem.W.findIn K (.ref c_ParityBook) "odd" = some none)
    (rc1_RingBook : PySem.W.plainGet K c_RingBook Str.empty = true)
    (rc2_RingBook : PySem.W.hasDictIn K c_RingBook = true)
    (rc3_RingBook : PySem.W.plainOver K c_RingBook = true)
    (rc4_RingBook : PySem.W.findIn K (.ref c_RingBook) "__setattr__" = some (some (.builtin "object.__setattr__")))
    (rm1_RingBook : PySem.W.makesIn K c_RingBook = true)
    (rm3_RingBook : PySem.W.isFn K (.ref f_m_ring_init) = true)
    (rm4_RingBook : PySem.W.keepIn K (.ref c_RingBook) = true)
    (mf_RingBook : PySem.W.isFn K (.ref f_m_ring_crowd) = true)
    (cl_RingBook : PySem.W.findIn K (.ref c_RingBook) "LEAST" = some (some (.int 3 lt_RingBook)))
    (cg_RingBook : PySem.W.specialIn K (.int 3 lt_RingBook) "__get__" = some none)
    (nsize_RingBook : PySem.W.findIn K (.ref c_RingBook) "size" = some none)
    (nodd_RingBook : PySem.W.findIn K (.ref c_RingBook) "odd" = some none)
    (a_Book : PySem.W.nsIn K mainGlobals "Book" = some (some (.ref c_Book)))
    (tp : PySem.W.nsIn K cStatics "thirdparty.any" = some none)
    (kd_odd_is : PySem.W.nsIn K kd_odd "odd" = some (some (.bool false)))
    (ci_ParityBook : (PySem.W.clsIn K c_ParityBook).isSome = true)
    (ci_RingBook : (PySem.W.clsIn K c_RingBook).isSome = true)
    (p_mro1 : PySem.W.mroIn K c_ParityBook (.ref c_ParityBook) = some true)
    (p_mro2 : PySem.W.mroIn K c_RingBook (.ref c_ParityBook) = some true)
    (r_mro : PySem.W.mroIn K c_RingBook (.ref c_RingBook) = some true)
    (p_si1 : PySem.W.ks_superIn K c_ParityBook c_ParityBook "__init__" = some (some (.ref f_m_book_init)))
    (p_si2 : PySem.W.ks_superIn K c_RingBook c_ParityBook "__init__" = some (some (.ref f_m_book_init)))
    (r_si : PySem.W.ks_superIn K c_RingBook c_RingBook "__init__" = some (some (.ref f_m_parity_init)))
    (b_fi : PySem.W.fnIn K f_m_book_init = true)
    (b_ty : PySem.W.typeIn K (.ref f_m_book_init) = some (.type "function"))
    (q_fi : PySem.W.fnIn K f_m_parity_init = true)
    (q_ty : PySem.W.typeIn K (.ref f_m_parity_init) = some (.type "function"))
    (nosup : (List.lookup ("super" : Str) l.prog.main.scope.names).isSome = false)
    (z_ValueError : PySem.W.nsIn K mainGlobals "ValueError" = some none)
    (z_int : PySem.W.nsIn K mainGlobals "int" = some none)
    (z_bool : PySem.W.nsIn K mainGlobals "bool" = some none)
    (z_str : PySem.W.nsIn K mainGlobals "str" = some none)
    (z_list : PySem.W.nsIn K mainGlobals "list" = some none)
    (z_tuple : PySem.W.nsIn K mainGlobals "tuple" = some none)
    (z_len : PySem.W.nsIn K mainGlobals "len" = some none)
    (z_range : PySem.W.nsIn K mainGlobals "range" = some none)
    (z_enumerate : PySem.W.nsIn K mainGlobals "enumerate" = some none)
    (z_isinstance : PySem.W.nsIn K mainGlobals "isinstance" = some none)
    (z_min : PySem.W.nsIn K mainGlobals "min" = some none)
    (z_abs : PySem.W.nsIn K mainGlobals "abs" = some none)
    (z_sorted : PySem.W.nsIn K mainGlobals "sorted" = some none)
    (z_all : PySem.W.nsIn K mainGlobals "all" = some none)
    (z_any : PySem.W.nsIn K mainGlobals "any" = some none)
    (z_sum : PySem.W.nsIn K mainGlobals "sum" = some none)
    (z_zip : PySem.W.nsIn K mainGlobals "zip" = some none)
    (z_reversed : PySem.W.nsIn K mainGlobals "reversed" = some none)
    (z_max : PySem.W.nsIn K mainGlobals "max" = some none)
    (z_set : PySem.W.nsIn K mainGlobals "set" = some none)
    (z_super : PySem.W.nsIn K mainGlobals "super" = some none)
    : ∃ fd : FuncData, (∀ (s : Shared) (v : Value), BindsTo s fd ⟨[v], []⟩ [("script", v)]) ∧ ∀ base : Heap, K.In base → base.Ns mainGlobals mg → FnOk l.prog w K mg base CX0 8 fa fd ["script"] (spLaw K) := by
  have e := hfa.symm.trans (PySem.W.mg_of X G a_law)
  cases e
  obtain ⟨A, hA⟩ : ∃ A : Ad, A = ⟨f_circles_of, f_is_odd, f_with_names_exchanged, f_slot_crowd, f_ring_crowd, f_exchanged, f_lengthened, f_m_book_init, f_m_pair_crowd, f_m_slot_crowd, f_m_parity_init, f_m_parity_crowd, f_m_ring_init, f_m_ring_crowd, f_law_box, f_law_draw, f_law_book, f_law_circles, f_law_is_state, f_law_size, f_law_row, f_law_four, f_law_joint, f_law_comes_up, f_law_crowds, f_law_asked, fa, c_SLOT_CROWD, c_RING_CROWD, c_MendError, c_InvalidSize, i_InvalidSize, c_Book, c_PairBook, c_SlotBook, c_ParityBook, c_RingBook, ccA_m_parity_init, cdA_m_parity_init, ccA_m_ring_init, cdA_m_ring_init⟩ := ⟨_, rfl⟩
  have T : Txt K mg A := {
    g_circles_of := by rw [hA]; exact PySem.W.mg_of X G a_circles_of,
    k_circles_of := by rw [hA]; exact k_circles_of,
    d_circles_of := by rw [hA]; exact ⟨_, fun_mk (st := s_circles_of) l_circles_of cdis_circles_of k_circles_of⟩,
    g_is_odd := by rw [hA]; exact PySem.W.mg_of X G a_is_odd,
    k_is_odd := by rw [hA]; exact k_is_odd,
    d_is_odd := by rw [hA]; exact ⟨_, fun_mk (st := s_is_odd) l_is_odd cdis_is_odd k_is_odd⟩,
    g_with_names_exchanged := by rw [hA]; exact PySem.W.mg_of X G a_with_names_exchanged,
    k_with_names_exchanged := by rw [hA]; exact k_with_names_exchanged,
    d_with_names_exchanged := by rw [hA]; exact ⟨_, fun_mk (st := s_with_names_exchanged) l_with_names_exchanged cdis_with_names_exchanged k_with_names_exchanged⟩,
    g_slot_crowd := by rw [hA]; exact PySem.W.mg_of X G a_slot_crowd,
    k_slot_crowd := by rw [hA]; exact k_slot_crowd,
    d_slot_crowd := by rw [hA]; exact ⟨_, fun_mk (st := s_slot_crowd) l_slot_crowd cdis_slot_crowd k_slot_crowd⟩,
    g_ring_crowd := by rw [hA]; exact PySem.W.mg_of X G a_ring_crowd,
    k_ring_crowd := by rw [hA]; exact k_ring_crowd,
    d_ring_crowd := by rw [hA]; exact ⟨_, fun_mk (st := s_ring_crowd) l_ring_crowd cdis_ring_crowd k_ring_crowd⟩,
    g_exchanged := by rw [hA]; exact PySem.W.mg_of X G a_exchanged,
    k_exchanged := by rw [hA]; exact k_exchanged,
    d_exchanged := by rw [hA]; exact ⟨_, fun_mk (st := s_exchanged) l_exchanged cdis_exchanged k_exchanged⟩,
    g_lengthened := by rw [hA]; exact PySem.W.mg_of X G a_lengthened,
    k_lengthened := by rw [hA]; exact k_lengthened,
    d_lengthened := by rw [hA]; exact ⟨_, fun_mk (st := s_lengthened) l_lengthened cdis_lengthened k_lengthened⟩,
    d_m_book_init := by rw [hA]; exact ⟨_, fun_mk (st := s_m_book_init) l_m_book_init cd_is_m_book_init k_m_book_init⟩,
    d_m_pair_crowd := by rw [hA]; exact ⟨_, fun_mk (st := s_m_pair_crowd) l_m_pair_crowd cd_is_m_pair_crowd k_m_pair_crowd⟩,
    d_m_slot_crowd := by rw [hA]; exact ⟨_, fun_mk (st := s_m_slot_crowd) l_m_slot_crowd cd_is_m_slot_crowd k_m_slot_crowd⟩,
    d_m_parity_crowd := by rw [hA]; exact ⟨_, fun_mk (st := s_m_parity_crowd) l_m_parity_crowd cd_is_m_parity_crowd k_m_parity_crowd⟩,
    d_m_ring_crowd := by rw [hA]; exact ⟨_, fun_mk (st := s_m_ring_crowd) l_m_ring_crowd cd_is_m_ring_crowd k_m_ring_crowd⟩,
    g_law_box := by rw [hA]; exact PySem.W.mg_of X G a_law_box,
    k_law_box := by rw [hA]; exact k_law_box,
    d_law_box := by rw [hA]; exact ⟨_, fun_mk (st := s_law_box) l_law_box cdis_law_box k_law_box⟩,
    g_law_draw := by rw [hA]; exact PySem.W.mg_of X G a_law_draw,
    k_law_draw := by rw [hA]; exact k_law_draw,
    d_law_draw := by rw [hA]; exact ⟨_, fun_mk (st := s_law_draw) l_law_draw cdis_law_draw k_law_draw⟩,
    g_law_book := by rw [hA]; exact PySem.W.mg_of X G a_law_book,
    k_law_book := by rw [hA]; exact k_law_book,
    d_law_book := by rw [hA]; exact ⟨_, fun_mk (st := s_law_book) l_law_book cdis_law_book k_law_book⟩,
    g_law_circles := by rw [hA]; exact PySem.W.mg_of X G a_law_circles,
    k_law_circles := by rw [hA]; exact k_law_circles,
    d_law_circles := by rw [hA]; exact ⟨_, fun_mk (st := s_law_circles) l_law_circles cdis_law_circles k_law_circles⟩,
    g_law_is_state := by rw [hA]; exact PySem.W.mg_of X G a_law_is_state,
    k_law_is_state := by rw [hA]; exact k_law_is_state,
    d_law_is_state := by rw [hA]; exact ⟨_, fun_mk (st := s_law_is_state) l_law_is_state cdis_law_is_state k_law_is_state⟩,
    g_law_size := by rw [hA]; exact PySem.W.mg_of X G a_law_size,
    k_law_size := by rw [hA]; exact k_law_size,
    d_law_size := by rw [hA]; exact ⟨_, fun_mk (st := s_law_size) l_law_size cdis_law_size k_law_size⟩,
    g_law_row := by rw [hA]; exact PySem.W.mg_of X G a_law_row,
    k_law_row := by rw [hA]; exact k_law_row,
    d_law_row := by rw [hA]; exact ⟨_, fun_mk (st := s_law_row) l_law_row cdis_law_row k_law_row⟩,
    g_law_four := by rw [hA]; exact PySem.W.mg_of X G a_law_four,
    k_law_four := by rw [hA]; exact k_law_four,
    d_law_four := by rw [hA]; exact ⟨_, fun_mk (st := s_law_four) l_law_four cdis_law_four k_law_four⟩,
    g_law_joint := by rw [hA]; exact PySem.W.mg_of X G a_law_joint,
    k_law_joint := by rw [hA]; exact k_law_joint,
    d_law_joint := by rw [hA]; exact ⟨_, fun_mk (st := s_law_joint) l_law_joint cdis_law_joint k_law_joint⟩,
    g_law_comes_up := by rw [hA]; exact PySem.W.mg_of X G a_law_comes_up,
    k_law_comes_up := by rw [hA]; exact k_law_comes_up,
    d_law_comes_up := by rw [hA]; exact ⟨_, fun_mk (st := s_law_comes_up) l_law_comes_up cdis_law_comes_up k_law_comes_up⟩,
    g_law_crowds := by rw [hA]; exact PySem.W.mg_of X G a_law_crowds,
    k_law_crowds := by rw [hA]; exact k_law_crowds,
    d_law_crowds := by rw [hA]; exact ⟨_, fun_mk (st := s_law_crowds) l_law_crowds cdis_law_crowds k_law_crowds⟩,
    g_law_asked := by rw [hA]; exact PySem.W.mg_of X G a_law_asked,
    k_law_asked := by rw [hA]; exact k_law_asked,
    d_law_asked := by rw [hA]; exact ⟨_, fun_mk (st := s_law_asked) l_law_asked cdis_law_asked k_law_asked⟩,
    g_law := by rw [hA]; exact PySem.W.mg_of X G a_law,
    k_law := by rw [hA]; exact k_law,
    d_law := by rw [hA]; exact ⟨_, fun_mk (st := s_law) l_law cdis_law k_law⟩,
    g_SLOT_CROWD := by rw [hA]; exact PySem.W.mg_of X G a_SLOT_CROWD,
    w_SLOT_CROWD := by rw [hA]; exact crd_slot l_slot_c l_slot_i l_slot_a l_slot_a0 l_slot_a1 l_slot_a2 l_slot_a3 l_slot_b l_slot_b0 l_slot_b1 l_slot_b2 l_slot_b3,
    g_RING_CROWD := by rw [hA]; exact PySem.W.mg_of X G a_RING_CROWD,
    w_RING_CROWD := by rw [hA]; exact crd_ring l_ring_c l_ring_i l_ring_a l_ring_a0 l_ring_a1 l_ring_a2 l_ring_a3 l_ring_b l_ring_b0 l_ring_b1 l_ring_b2 l_ring_b3,
    e_MendError := by rw [hA]; exact ⟨PySem.W.mg_of X G a_MendError, ⟨_, _, _, _, _, _, _, _, _, _, _, _, _, _, _, x_MendError⟩⟩,
    e_InvalidSize := by rw [hA]; exact ⟨PySem.W.mg_of X G a_InvalidSize, kc_InvalidSize, ⟨_, _, _, _, _, _, _, _, _, _, _, _, _, _, x_InvalidSize⟩, sa_InvalidSize, ga_InvalidSize, gg_InvalidSize, ca_InvalidSize⟩,
    f_InvalidSize := by rw [hA]; exact ⟨i_is_InvalidSize, t_InvalidSize, nf_InvalidSize, ⟨_, fun_mk (st := s_InvalidSize) l_i_InvalidSize cdis_i_InvalidSize k_i_InvalidSize⟩⟩,
    cn := cn,
    ct := ct,
    nd := by rw [hA]; exact nd,
    nsize_PairBook := by rw [hA]; exact nsize_PairBook,
    nodd_PairBook := by rw [hA]; exact nodd_PairBook,
    g_PairBook := by rw [hA]; exact PySem.W.mg_of X G a_PairBook,
    c_PairBook := by rw [hA]; exact ⟨rc1_PairBook, rc2_PairBook, rc3_PairBook, rc4_PairBook⟩,
    mk_PairBook := by rw [hA]; exact ⟨rm1_PairBook, rm2_PairBook, rm3_PairBook, rm4_PairBook⟩,
    mt_PairBook := by rw [hA]; exact ⟨me_PairBook, mf_PairBook, k_m_pair_crowd⟩,
    co_PairBook := by rw [hA]; exact ⟨_, cl_PairBook, ⟨_, rfl⟩, cg_PairBook, rfl⟩,
    nsize_SlotBook := by rw [hA]; exact nsize_SlotBook,
    nodd_SlotBook := by rw [hA]; exact nodd_SlotBook,
    g_SlotBook := by rw [hA]; exact PySem.W.mg_of X G a_SlotBook,
    c_SlotBook := by rw [hA]; exact ⟨rc1_SlotBook, rc2_SlotBook, rc3_SlotBook, rc4_SlotBook⟩,
    mk_SlotBook := by rw [hA]; exact ⟨rm1_SlotBook, rm2_SlotBook, rm3_SlotBook, rm4_SlotBook⟩,
    mt_SlotBook := by rw [hA]; exact ⟨me_SlotBook, mf_SlotBook, k_m_slot_crowd⟩,
    co_SlotBook := by rw [hA]; exact ⟨_, cl_SlotBook, ⟨_, rfl⟩, cg_SlotBook, rfl⟩,
    nsize_ParityBook := by rw [hA]; exact nsize_ParityBook,
    nodd_ParityBook := by rw [hA]; exact nodd_ParityBook,
    g_ParityBook := by rw [hA]; exact PySem.W.mg_of X G a_ParityBook,
    c_ParityBook := by rw [hA]; exact ⟨rc1_ParityBook, rc2_ParityBook, rc3_ParityBook, rc4_ParityBook⟩,
    mk_ParityBook := by rw [hA]; exact ⟨rm1_ParityBook, rm2_ParityBook, rm3_ParityBook, rm4_ParityBook⟩,
    mt_ParityBook := by rw [hA]; exact ⟨me_ParityBook, mf_ParityBook, k_m_parity_crowd⟩,
    co_ParityBook := by rw [hA]; exact ⟨_, cl_ParityBook, ⟨_, rfl⟩, cg_ParityBook, rfl⟩,
    nsize_RingBook := by rw [hA]; exact nsize_RingBook,
    nodd_RingBook := by rw [hA]; exact nodd_RingBook,
    g_RingBook := by rw [hA]; exact PySem.W.mg_of X G a_RingBook,
    c_RingBook := by rw [hA]; exact ⟨rc1_RingBook, rc2_RingBook, rc3_RingBook, rc4_RingBook⟩,
    mk_RingBook := by rw [hA]; exact ⟨rm1_RingBook, rm2_RingBook, rm3_RingBook, rm4_RingBook⟩,
    mt_RingBook := by rw [hA]; exact ⟨me_RingBook, mf_RingBook, k_m_ring_crowd⟩,
    co_RingBook := by rw [hA]; exact ⟨_, cl_RingBook, ⟨_, rfl⟩, cg_RingBook, rfl⟩,
    n_ValueError := PySem.W.mg_none_of X G z_ValueError,
    n_int := PySem.W.mg_none_of X G z_int,
    n_bool := PySem.W.mg_none_of X G z_bool,
    n_str := PySem.W.mg_none_of X G z_str,
    n_list := PySem.W.mg_none_of X G z_list,
    n_tuple := PySem.W.mg_none_of X G z_tuple,
    n_len := PySem.W.mg_none_of X G z_len,
    n_range := PySem.W.mg_none_of X G z_range,
    n_enumerate := PySem.W.mg_none_of X G z_enumerate,
    n_isinstance := PySem.W.mg_none_of X G z_isinstance,
    n_min := PySem.W.mg_none_of X G z_min,
    n_abs := PySem.W.mg_none_of X G z_abs,
    n_sorted := PySem.W.mg_none_of X G z_sorted,
    n_all := PySem.W.mg_none_of X G z_all,
    n_any := PySem.W.mg_none_of X G z_any,
    n_sum := PySem.W.mg_none_of X G z_sum,
    n_zip := PySem.W.mg_none_of X G z_zip,
    n_reversed := PySem.W.mg_none_of X G z_reversed,
    n_max := PySem.W.mg_none_of X G z_max,
    n_set := PySem.W.mg_none_of X G z_set,
    n_super := PySem.W.mg_none_of X G z_super }
  have hS : SupD l.prog K A := by rw [hA]; exact ⟨tp, ⟨_, _, _, _, _, _, _, _, l_m_parity_init, Or.inr ⟨kd_odd, rfl, fun q hq => by rw [List.mem_singleton.1 hq]; exact ⟨_, kd_odd_is, rfl⟩⟩⟩, cd_is_m_parity_init, ⟨⟨_, _, _, _, _, _, sf1_m_parity_init, sf2_m_parity_init, sf3_m_parity_init⟩, ⟨_, _, _, sf4_m_parity_init⟩, Option.isSome_iff_exists.mp ci_ParityBook, nosup⟩, p_mro1, p_mro2, p_si1, p_si2, b_fi, b_ty, ⟨_, _, _, _, _, _, _, _, l_m_ring_init⟩, cd_is_m_ring_init, ⟨⟨_, _, _, _, _, _, sf1_m_ring_init, sf2_m_ring_init, sf3_m_ring_init⟩, ⟨_, _, _, sf4_m_ring_init⟩, Option.isSome_iff_exists.mp ci_RingBook, nosup⟩, r_mro, r_si, q_fi, q_ty⟩
  have FL := fun_mk (st := s_law) l_law cdis_law k_law
  have eL : A.law = fa := by rw [hA]
  refine ⟨PySem.W.fnOf "law" "law" (defArgs s_law) (defBody s_law) (defScope s_law) .none kV_law doc_law pm_law an_law cd_law ct_law, fun s v => .of_eq rfl, fun base _ _ => ?_⟩
  rw [← eL] at FL ⊢
  have g_law_box := ok_law_box (P := l.prog) (w := w) (base := base) T 
  have g_law_draw := ok_law_draw (P := l.prog) (w := w) (base := base) T 
  have g_InvalidSize := ok_InvalidSize (P := l.prog) (w := w) (base := base) T 
  have g_m_book_init := ok_m_book_init (P := l.prog) (w := w) (base := base) T g_InvalidSize
  have g_m_parity_init := ok_m_parity_init (P := l.prog) (w := w) (base := base) T hS g_m_book_init
  have g_m_ring_init := ok_m_ring_init (P := l.prog) (w := w) (base := base) T hS g_m_parity_init 
  have g_exchanged := ok_exchanged (P := l.prog) (w := w) (base := base) T 
  have g_with_names_exchanged := ok_with_names_exchanged (P := l.prog) (w := w) (base := base) T g_exchanged
  have g_circles_of := ok_circles_of (P := l.prog) (w := w) (base := base) T 
  have g_is_odd := ok_is_odd (P := l.prog) (w := w) (base := base) T g_circles_of
  have g_lengthened := ok_lengthened (P := l.prog) (w := w) (base := base) T 
  have g_slot_crowd := ok_slot_crowd (P := l.prog) (w := w) (base := base) T 
  have g_ring_crowd := ok_ring_crowd (P := l.prog) (w := w) (base := base) T g_lengthened
  have g_m_pair_crowd := ok_m_pair_crowd (P := l.prog) (w := w) (base := base) T 
  have g_m_slot_crowd := ok_m_slot_crowd (P := l.prog) (w := w) (base := base) T g_slot_crowd
  have g_m_parity_crowd := ok_m_parity_crowd (P := l.prog) (w := w) (base := base) T g_ring_crowd g_is_odd g_with_names_exchanged
  have g_m_ring_crowd := ok_m_ring_crowd (P := l.prog) (w := w) (base := base) T g_ring_crowd
  have g_law_book := ok_law_book (P := l.prog) (w := w) (base := base) T g_m_book_init g_m_parity_init g_m_ring_init
  have g_law_circles := ok_law_circles (P := l.prog) (w := w) (base := base) T 
  have g_law_is_state := ok_law_is_state (P := l.prog) (w := w) (base := base) T g_law_circles
  have g_law_size := ok_law_size (P := l.prog) (w := w) (base := base) T g_law_draw
  have g_law_row := ok_law_row (P := l.prog) (w := w) (base := base) T 
  have g_law_four := ok_law_four (P := l.prog) (w := w) (base := base) T g_law_row g_law_is_state
  have g_law_joint := ok_law_joint (P := l.prog) (w := w) (base := base) T 
  have g_law_comes_up := ok_law_comes_up (P := l.prog) (w := w) (base := base) T 
  have g_law_crowds := ok_law_crowds (P := l.prog) (w := w) (base := base) T g_law_row g_law_four g_law_joint g_law_comes_up
  have g_law_asked := ok_law_asked (P := l.prog) (w := w) (base := base) T g_m_pair_crowd g_m_slot_crowd g_m_parity_crowd g_m_ring_crowd g_law_crowds
  exact ok_law T FL g_law_box g_law_draw g_law_size g_law_book g_law_asked
theorem walk {l : PySem.W.OpenLaw} {q : Program} {loose : List Str} {XP : (Str → Option Value) → Heap → Prop} {YP : World → Heap → Prop} {d : DefRec} {K : Params → PySem.W.Frag} (hn : l.most = some 63) (hdf : d.params.defaults = [])
    (hY : ∀ (w : World) (h : Heap), YP w h → (K w.params).In h)
    (F : ∀ (w : World) (mg : Str → Option Value) (fa : Addr) (h : Heap), (K w.params).In h → h.Ns mainGlobals mg → mg d.name = some (.ref fa) →
      ∃ fd : FuncData, (∀ (s : Shared) (u : Value), BindsTo s fd ⟨[u], []⟩ [("script", u)]) ∧ ∀ base : Heap, (K w.params).In base → base.Ns mainGlobals mg → FnOk l.prog w (K w.params) mg base CX0 8 fa fd ["script"] (spLaw (K w.params))) :
    PySem.W.WalkO q loose XP YP l.row.toRowW d [] (fun f vs => PySem.call f vs) :=
  L2.walk_of (n := 63) (k := 8) (x := "script") (CX := fun _ => CX0) (sp := fun w => spLaw (K w.params)) hn (by decide) hdf ⟨rfl, by decide, by decide⟩ hY F (fun _ _ a ns hl _ hS => ⟨a, ns, rfl, hS, hl, fun _ => rfl⟩) fun _ _ _ _ _ z => z
end Pv

open PySem PySem.W PyProof.Rows
set_option maxRecDepth 100000 in
set_option maxHeartbeats 0 in
theorem PySem.Challenge.cw_peermend_k47_two_writers_are_too_many_holds : PySem.Challenge.rw_peermend_k47_two_writers_are_too_many.Holds := by
  w_on; o_law; k_head; (case hw => w_witness2)
  k_fill
  refine Pv.walk (l := PySem.Challenge.rw_peermend_k47_two_writers_are_too_many) rfl rfl (fun w h Y => PySem.W.kIn_of Y) ?F
  case F =>
    intro w mg fa h KX G hmg
    refine' Pv.all_mk KX G hmg ?qa_PairBook ?qa_SlotBook ?qa_ParityBook ?qa_RingBook ?qrm2_PairBook ?qme_PairBook ?qrm2_SlotBook ?qme_SlotBook ?qrm2_ParityBook ?qme_ParityBook ?qrm2_RingBook ?qme_RingBook ?ql_m_parity_init ?ql_m_ring_init ?qsf1_m_parity_init ?qsf1_m_ring_init ?qa_circles_of ?ql_circles_of ?qcdis_circles_of ?qk_circles_of ?qa_is_odd ?ql_is_odd ?qcdis_is_odd ?qk_is_odd ?qa_with_names_exchanged ?ql_with_names_exchanged ?qcdis_with_names_exchanged ?qk_with_names_exchanged ?qa_slot_crowd ?ql_slot_crowd ?qcdis_slot_crowd ?qk_slot_crowd ?qa_ring_crowd ?ql_ring_crowd ?qcdis_ring_crowd ?qk_ring_crowd ?qa_exchanged ?ql_exchanged ?qcdis_exchanged ?qk_exchanged ?qa_lengthened ?ql_lengthened ?qcdis_lengthened ?qk_lengthened ?ql_m_book_init ?qcd_is_m_book_init ?qk_m_book_init ?ql_m_pair_crowd ?qcd_is_m_pair_crowd ?qk_m_pair_crowd ?ql_m_slot_crowd ?qcd_is_m_slot_crowd ?qk_m_slot_crowd ?qcd_is_m_parity_init ?qsf2_m_parity_init ?qsf3_m_parity_init ?qsf4_m_parity_init ?ql_m_parity_crowd ?qcd_is_m_parity_crowd ?qk_m_parity_crowd ?qcd_is_m_ring_init ?qsf2_m_ring_init ?qsf3_m_ring_init ?qsf4_m_ring_init ?ql_m_ring_crowd ?qcd_is_m_ring_crowd ?qk_m_ring_crowd ?qa_law_box ?ql_law_box ?qcdis_law_box ?qk_law_box ?qa_law_draw ?ql_law_draw ?qcdis_law_draw ?qk_law_draw ?qa_law_book ?ql_law_book ?qcdis_law_book ?qk_law_book ?qa_law_circles ?ql_law_circles ?qcdis_law_circles ?qk_law_circles ?qa_law_is_state ?ql_law_is_state ?qcdis_law_is_state ?qk_law_is_state ?qa_law_size ?ql_law_size ?qcdis_law_size ?qk_law_size ?qa_law_row ?ql_law_row ?qcdis_law_row ?qk_law_row ?qa_law_four ?ql_law_four ?qcdis_law_four ?qk_law_four ?qa_law_joint ?ql_law_joint ?qcdis_law_joint ?qk_law_joint ?qa_law_comes_up ?ql_law_comes_up ?qcdis_law_comes_up ?qk_law_comes_up ?qa_law_crowds ?ql_law_crowds ?qcdis_law_crowds ?qk_law_crowds ?qa_law_asked ?ql_law_asked ?qcdis_law_asked ?qk_law_asked ?qa_law ?ql_law ?qcdis_law ?qk_law ?qa_SLOT_CROWD ?ql_slot_c ?ql_slot_i ?ql_slot_a ?ql_slot_a0 ?ql_slot_a1 ?ql_slot_a2 ?ql_slot_a3 ?ql_slot_b ?ql_slot_b0 ?ql_slot_b1 ?ql_slot_b2 ?ql_slot_b3 ?qa_RING_CROWD ?ql_ring_c ?ql_ring_i ?ql_ring_a ?ql_ring_a0 ?ql_ring_a1 ?ql_ring_a2 ?ql_ring_a3 ?ql_ring_b ?ql_ring_b0 ?ql_ring_b1 ?ql_ring_b2 ?ql_ring_b3 ?qa_MendError ?qx_MendError ?qa_InvalidSize ?qx_InvalidSize ?qkc_InvalidSize ?qsa_InvalidSize ?qga_InvalidSize ?qgg_InvalidSize ?qca_InvalidSize ?qi_is_InvalidSize ?qt_InvalidSize ?qnf_InvalidSize ?ql_i_InvalidSize ?qcdis_i_InvalidSize ?qk_i_InvalidSize ?qcn ?qct ?qnd ?qrc1_PairBook ?qrc2_PairBook ?qrc3_PairBook ?qrc4_PairBook ?qrm1_PairBook ?qrm3_PairBook ?qrm4_PairBook ?qmf_PairBook ?qcl_PairBook ?qcg_PairBook ?qnsize_PairBook ?qnodd_PairBook ?qrc1_SlotBook ?qrc2_SlotBook ?qrc3_SlotBook ?qrc4_SlotBook ?qrm1_SlotBook ?qrm3_SlotBook ?qrm4_SlotBook ?qmf_SlotBook ?qcl_SlotBook ?qcg_SlotBook ?qnsize_SlotBook ?qnodd_SlotBook ?qrc1_ParityBook ?qrc2_ParityBook ?qrc3_ParityBook ?qrc4_ParityBook ?qrm1_ParityBook ?qrm3_ParityBook ?qrm4_ParityBook ?qmf_ParityBook ?qcl_ParityBook ?qcg_ParityBook ?qnsize_ParityBook ?qnodd_ParityBook ?qrc1_RingBook ?qrc2_RingBook ?qrc3_RingBook ?qrc4_RingBook ?qrm1_RingBook ?qrm3_RingBook ?qrm4_RingBook ?qmf_RingBook ?qcl_RingBook ?qcg_RingBook ?qnsize_RingBook ?qnodd_RingBook ?qa_Book ?qtp ?qkd_odd_is ?qci_ParityBook ?qci_RingBook ?qp_mro1 ?qp_mro2 ?qr_mro ?qp_si1 ?qp_si2 ?qr_si ?qb_fi ?qb_ty ?qq_fi ?qq_ty ?qnosup ?qz_ValueError ?qz_int ?qz_bool ?qz_str ?qz_list ?qz_tuple ?qz_len ?qz_range ?qz_enumerate ?qz_isinstance ?qz_min ?qz_abs ?qz_sorted ?qz_all ?qz_any ?qz_sum ?qz_zip ?qz_reversed ?qz_max ?qz_set ?qz_super
    (case qa_PairBook => k_is)
    (case qa_SlotBook => k_is)
    (case qa_ParityBook => k_is)
    (case qa_RingBook => k_is)
    (case qrm2_PairBook => k_is)
    (case qme_PairBook => k_is)
    (case qrm2_SlotBook => k_is)
    (case qme_SlotBook => k_is)
    (case qrm2_ParityBook => k_is)
    (case qme_ParityBook => k_is)
    (case qrm2_RingBook => k_is)
    (case qme_RingBook => k_is)
    (case ql_m_parity_init => k_is)
    (case ql_m_ring_init => k_is)
    (case qsf1_m_parity_init => k_is)
    (case qsf1_m_ring_init => k_is)
    (case qa_circles_of => k_is)
    (case ql_circles_of => k_is)
    (case qcdis_circles_of => k_is)
    (case qk_circles_of => k_is)
    (case qa_is_odd => k_is)
    (case ql_is_odd => k_is)
    (case qcdis_is_odd => k_is)
    (case qk_is_odd => k_is)
    (case qa_with_names_exchanged => k_is)
    (case ql_with_names_exchanged => k_is)
    (case qcdis_with_names_exchanged => k_is)
    (case qk_with_names_exchanged => k_is)
    (case qa_slot_crowd => k_is)
    (case ql_slot_crowd => k_is)
    (case qcdis_slot_crowd => k_is)
    (case qk_slot_crowd => k_is)
    (case qa_ring_crowd => k_is)
    (case ql_ring_crowd => k_is)
    (case qcdis_ring_crowd => k_is)
    (case qk_ring_crowd => k_is)
    (case qa_exchanged => k_is)
    (case ql_exchanged => k_is)
    (case qcdis_exchanged => k_is)
    (case qk_exchanged => k_is)
    (case qa_lengthened => k_is)
    (case ql_lengthened => k_is)
    (case qcdis_lengthened => k_is)
    (case qk_lengthened => k_is)
    (case ql_m_book_init => k_is)
    (case qcd_is_m_book_init => k_is)
    (case qk_m_book_init => k_is)
    (case ql_m_pair_crowd => k_is)
    (case qcd_is_m_pair_crowd => k_is)
    (case qk_m_pair_crowd => k_is)
    (case ql_m_slot_crowd => k_is)
    (case qcd_is_m_slot_crowd => k_is)
    (case qk_m_slot_crowd => k_is)
    (case qcd_is_m_parity_init => k_is)
    (case qsf2_m_parity_init => first | rfl | k_is)
    (case qsf3_m_parity_init => first | rfl | decide | decide +kernel)
    (case qsf4_m_parity_init => k_is)
    (case ql_m_parity_crowd => k_is)
    (case qcd_is_m_parity_crowd => k_is)
    (case qk_m_parity_crowd => k_is)
    (case qcd_is_m_ring_init => k_is)
    (case qsf2_m_ring_init => first | rfl | k_is)
    (case qsf3_m_ring_init => first | rfl | decide | decide +kernel)
    (case qsf4_m_ring_init => k_is)
    (case ql_m_ring_crowd => k_is)
    (case qcd_is_m_ring_crowd => k_is)
    (case qk_m_ring_crowd => k_is)
    (case qa_law_box => k_is)
    (case ql_law_box => k_is)
    (case qcdis_law_box => k_is)
    (case qk_law_box => k_is)
    (case qa_law_draw => k_is)
    (case ql_law_draw => k_is)
    (case qcdis_law_draw => k_is)
    (case qk_law_draw => k_is)
    (case qa_law_book => k_is)
    (case ql_law_book => k_is)
    (case qcdis_law_book => k_is)
    (case qk_law_book => k_is)
    (case qa_law_circles => k_is)
    (case ql_law_circles => k_is)
    (case qcdis_law_circles => k_is)
    (case qk_law_circles => k_is)
    (case qa_law_is_state => k_is)
    (case ql_law_is_state => k_is)
    (case qcdis_law_is_state => k_is)
    (case qk_law_is_state => k_is)
    (case qa_law_size => k_is)
    (case ql_law_size => k_is)
    (case qcdis_law_size => k_is)
    (case qk_law_size => k_is)
    (case qa_law_row => k_is)
    (case ql_law_row => k_is)
    (case qcdis_law_row => k_is)
    (case qk_law_row => k_is)
    (case qa_law_four => k_is)
    (case ql_law_four => k_is)
    (case qcdis_law_four => k_is)
    (case qk_law_four => k_is)
    (case qa_law_joint => k_is)
    (case ql_law_joint => k_is)
    (case qcdis_law_joint => k_is)
    (case qk_law_joint => k_is)
    (case qa_law_comes_up => k_is)
    (case ql_law_comes_up => k_is)
    (case qcdis_law_comes_up => k_is)
    (case qk_law_comes_up => k_is)
    (case qa_law_crowds => k_is)
    (case ql_law_crowds => k_is)
    (case qcdis_law_crowds => k_is)
    (case qk_law_crowds => k_is)
    (case qa_law_asked => k_is)
    (case ql_law_asked => k_is)
    (case qcdis_law_asked => k_is)
    (case qk_law_asked => k_is)
    (case qa_law => k_is)
    (case ql_law => k_is)
    (case qcdis_law => k_is)
    (case qk_law => k_is)
    (case qa_SLOT_CROWD => k_is)
    (case ql_slot_c => k_is)
    (case ql_slot_i => k_is)
    (case ql_slot_a => k_is)
    (case ql_slot_a0 => k_is)
    (case ql_slot_a1 => k_is)
    (case ql_slot_a2 => k_is)
    (case ql_slot_a3 => k_is)
    (case ql_slot_b => k_is)
    (case ql_slot_b0 => k_is)
    (case ql_slot_b1 => k_is)
    (case ql_slot_b2 => k_is)
    (case ql_slot_b3 => k_is)
    (case qa_RING_CROWD => k_is)
    (case ql_ring_c => k_is)
    (case ql_ring_i => k_is)
    (case ql_ring_a => k_is)
    (case ql_ring_a0 => k_is)
    (case ql_ring_a1 => k_is)
    (case ql_ring_a2 => k_is)
    (case ql_ring_a3 => k_is)
    (case ql_ring_b => k_is)
    (case ql_ring_b0 => k_is)
    (case ql_ring_b1 => k_is)
    (case ql_ring_b2 => k_is)
    (case ql_ring_b3 => k_is)
    (case qa_MendError => k_is)
    (case qx_MendError => k_is)
    (case qa_InvalidSize => k_is)
    (case qx_InvalidSize => k_is)
    (case qkc_InvalidSize => k_is)
    (case qsa_InvalidSize => k_is)
    (case qga_InvalidSize => k_is)
    (case qgg_InvalidSize => k_is)
    (case qca_InvalidSize => k_is)
    (case qi_is_InvalidSize => k_is)
    (case qt_InvalidSize => k_is)
    (case qnf_InvalidSize => k_is)
    (case ql_i_InvalidSize => k_is)
    (case qcdis_i_InvalidSize => k_is)
    (case qk_i_InvalidSize => k_is)
    (case qcn => k_is)
    (case qct => k_is)
    (case qnd => decide)
    (case qrc1_PairBook => k_is)
    (case qrc2_PairBook => k_is)
    (case qrc3_PairBook => k_is)
    (case qrc4_PairBook => k_is)
    (case qrm1_PairBook => k_is)
    (case qrm3_PairBook => k_is)
    (case qrm4_PairBook => k_is)
    (case qmf_PairBook => k_is)
    (case qcl_PairBook => k_is)
    (case qcg_PairBook => k_is)
    (case qnsize_PairBook => k_is)
    (case qnodd_PairBook => k_is)
    (case qrc1_SlotBook => k_is)
    (case qrc2_SlotBook => k_is)
    (case qrc3_SlotBook => k_is)
    (case qrc4_SlotBook => k_is)
    (case qrm1_SlotBook => k_is)
    (case qrm3_SlotBook => k_is)
    (case qrm4_SlotBook => k_is)
    (case qmf_SlotBook => k_is)
    (case qcl_SlotBook => k_is)
    (case qcg_SlotBook => k_is)
    (case qnsize_SlotBook => k_is)
    (case qnodd_SlotBook => k_is)
    (case qrc1_ParityBook => k_is)
    (case qrc2_ParityBook => k_is)
    (case qrc3_ParityBook => k_is)
    (case qrc4_ParityBook => k_is)
    (case qrm1_ParityBook => k_is)
    (case qrm3_ParityBook => k_is)
    (case qrm4_ParityBook => k_is)
    (case qmf_ParityBook => k_is)
    (case qcl_ParityBook => k_is)
    (case qcg_ParityBook => k_is)
    (case qnsize_ParityBook => k_is)
    (case qnodd_ParityBook => k_is)
    (case qrc1_RingBook => k_is)
    (case qrc2_RingBook => k_is)
    (case qrc3_RingBook => k_is)
    (case qrc4_RingBook => k_is)
    (case qrm1_RingBook => k_is)
    (case qrm3_RingBook => k_is)
    (case qrm4_RingBook => k_is)
    (case qmf_RingBook => k_is)
    (case qcl_RingBook => k_is)
    (case qcg_RingBook => k_is)
    (case qnsize_RingBook => k_is)
    (case qnodd_RingBook => k_is)
    (case qa_Book => k_is)
    (case qtp => k_is)
    (case qkd_odd_is => k_is)
    (case qci_ParityBook => first | k_is | rfl | decide)
    (case qci_RingBook => first | k_is | rfl | decide)
    (case qp_mro1 => k_is)
    (case qp_mro2 => k_is)
    (case qr_mro => k_is)
    (case qp_si1 => first | k_is | rfl | decide)
    (case qp_si2 => first | k_is | rfl | decide)
    (case qr_si => first | k_is | rfl | decide)
    (case qb_fi => k_is)
    (case qb_ty => k_is)
    (case qq_fi => k_is)
    (case qq_ty => k_is)
    (case qnosup => first | rfl | decide | decide +kernel)
    (case qz_ValueError => k_is)
    (case qz_int => k_is)
    (case qz_bool => k_is)
    (case qz_str => k_is)
    (case qz_list => k_is)
    (case qz_tuple => k_is)
    (case qz_len => k_is)
    (case qz_range => k_is)
    (case qz_enumerate => k_is)
    (case qz_isinstance => k_is)
    (case qz_min => k_is)
    (case qz_abs => k_is)
    (case qz_sorted => k_is)
    (case qz_all => k_is)
    (case qz_any => k_is)
    (case qz_sum => k_is)
    (case qz_zip => k_is)
    (case qz_reversed => k_is)
    (case qz_max => k_is)
    (case qz_set => k_is)
    (case qz_super => k_is)
