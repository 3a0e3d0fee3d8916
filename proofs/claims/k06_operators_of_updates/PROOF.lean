import PyProof.Rows.All
import Wide.All
import OpenK.AllK
import Wide.FinOn
import KE.KIsAll
import KE.KExcIs
import HandS.ForMost
import HandS.ForExc
import HandS.TryMany
import HandS.ExcInit
import HandS.ExcValue
import HandS.ExcField
import HandS.IsInst
import HandS.ExcIs
import HandS.Small
import HandS.Wide
import HandS.Flow
import HandS.Evl
import HandS.Conv
import HandS.Walk
import KE.KDictKeyed
import KE.KDictList
import KE.KDictDisplayH
import HandS.SetKeys
import HandS.DictComp
import HandS.NoneIn
import HandS.SortInts
import HandS.SortOrd
import HandS.TupAny
import HandS.ListItems
import HandS.SortRule
import HandS.ExcCtx
import HandS.HotCalls
import HandS.ExcInitHot
import HandS.TupSets
import HandS.SetFor
import HandS.Deep
import PyProof.WalkInts
import PyProof.WalksMore
import KE.GoesMore
import HandS.Zip
import HandS.Style
import HandS.HeadHook3
import HandS.Star
import HandS.MakeKwOnly
import HandS.CallLocal
import HandS.ClsMeth
import HandS.ExcOwn
import HandS.Property
import HandS.More
import HandS.SlotsOwn
import HandS.FStr
import HandS.Ends
import PyProof.Rows.ReprR
import PyProof.Rows.NestShow
import HandS.Words
import HandS.List
import KE.KRevSl
import KE.SortData
import KE.DataCmp
import PyProof.TupleOfSeq
import KE.KTryMore
import KE.DataEq
import PyProof.ReprBulk
import HandS.Defaults
import PySem.Challenge.RW_peermend_k06_operators_of_updates
set_option Elab.async false
set_option linter.all false
set_option maxRecDepth 100000
set_option maxHeartbeats 4000000
namespace L2
open PySem PySem.Spec PyProof.Rows

/-- an error object held as a value: without a dict, or with one that holds fields -/
def ErrT (H : Hp) (a C : Addr) : Prop := H a = some (ExO (.ref C) a) ∨ ∃ (dx : Addr) (fs : List (Str × V)), H a = some (exo a C (some dx)) ∧ H dx = some (exd dx fs)
/-- isinstance of such a value -/
def rIsX (K : PySem.W.Frag) : List V → Hp → VK → Prop := fun xs H Q => ∃ (a C : Addr) (c : V) (u : Value) (b : Bool), xs = [.ref a, c] ∧ ErrT H a C ∧ ExcC K C ∧ ClsV c u ∧ PySem.W.kitOne K (.ref C) u = some b ∧ Q (.bl b) H
theorem clsIn_some {K : PySem.W.Frag} {C : Addr} (h : PySem.W.hasDictIn K C = true) : (PySem.W.clsIn K C).isSome = true := by
  obtain ⟨cd, hc, _⟩ := PySem.W.any_some h
  rw [hc]
  rfl
theorem kitX_err {K : PySem.W.Frag} {C a : Addr} {oe : Obj} {od : Option Obj} (D : ExcC K C) : PySem.W.KitX K (.ref a) (.ref C) (fun h => PySem.W.InstAt h a oe C od) :=
  PySem.W.kitx_exc (clsIn_some D.hd) D.hg D.hk D.hs D.ha D.hn D.ht D.hm
theorem call_isX {X : Cx} : CallR X (.builtin "isinstance") (rIsX X.K) := by
  intro pins s σ H xs us Q I r h
  obtain ⟨a, C, c, u, b, rfl, T, D, k, e, q⟩ := h
  obtain ⟨u1, u2, rfl, r1, r2⟩ := vals2 r
  have e2 := k.eq r2
  subst e2
  cases (show u1 = Value.ref a from r1)
  rcases T with ea | ⟨dx, fs, ea, ed⟩
  · have x : ObjOk X.prog X.w H s.heap a (ExO (.ref C) a) := I.hok a _ ea
    obtain ⟨⟨oe, vs, ho, hz, hd, _⟩, _, _⟩ := x
    obtain ⟨oc, odi, oda, osl⟩ := oe
    obtain ⟨h1, h2⟩ := hz
    dsimp only at h1 h2 hd
    subst h1 h2 hd
    exact PySem.W.kia_one (kitX_err (od := none) D) I.kIn ⟨ho, rfl, rfl, trivial⟩ e (fun z => nomatch z) fun tk => ⟨.bl b, H, I.tok tk, rfl, q⟩
  · obtain ⟨t1, ho⟩ := exo_at I.hok ea
    obtain ⟨mA, hns, _⟩ := exd_at I.hok ed
    obtain ⟨od, ho2, _⟩ := lookIn_ns hns
    exact PySem.W.kia_one (kitX_err (od := some od) D) I.kIn ⟨ho, rfl, rfl, ho2⟩ e (fun z => nomatch z) fun tk => ⟨.bl b, H, I.tok tk, rfl, q⟩
/-- isinstance(e, c), e the exception that the suite holds, with its dict -/
def rIsS (K : PySem.W.Frag) (a : Addr) (cls : Value) (d : Option Addr) : List V → Hp → VK → Prop := fun xs H Q => ∃ (C dd : Addr) (fs : List (Str × V)) (c : V) (u : Value) (b : Bool), xs = [.ref a, c] ∧ cls = .ref C ∧ d = some dd ∧ H dd = some (.xd fs) ∧
  ExcC K C ∧ ClsV c u ∧ PySem.W.kitOne K (.ref C) u = some b ∧ Q (.bl b) H
theorem call_isS {X : Cx} {K : PySem.W.Frag} {a : Addr} {cls : Value} {d : Option Addr} {oe : Obj} {pn : List (Addr × Obj)} (hK : X.K = K) (hz : Zc cls d oe) (hf : ∃ vs, oe.data = .fields vs) : CallR (X.suite a ((a, oe) :: pn)) (.builtin "isinstance") (rIsS K a cls d) := by
  subst hK
  intro pins s σ H xs us Q I r h
  obtain ⟨C, dd, fs, c, u, b, rfl, rfl, rfl, ea, D, k, e, q⟩ := h
  obtain ⟨u1, u2, rfl, r1, r2⟩ := vals2 r
  have e2 := k.eq r2
  subst e2
  cases (show u1 = Value.ref a from r1)
  obtain ⟨hget, _⟩ := I.pin (a, oe) (List.mem_append.mpr (.inl List.mem_cons_self))
  obtain ⟨vs, hv⟩ := hf
  have hx : ObjOk X.prog X.w H s.heap dd (.xd fs) := I.hok dd _ ea
  obtain ⟨mA, hns, hr⟩ := hx
  obtain ⟨od, ho, hl⟩ := lookIn_ns hns
  have J : PySem.W.InstAt s.heap a oe C (some od) := ⟨hget, hz.1, by unfold PySem.W.notCls; rw [hv] <;> rfl, by rw [hz.2]; exact ho⟩
  exact PySem.W.kia_one (kitX_err D) I.kIn J e (fun z => nomatch z) fun tk => ⟨.bl b, H, I.kept (t' := tk) fun _ _ z => z, rfl, q⟩

section
variable {X : Cx} {C : Addr} {bmB : List Value} {B newId initId : String} {x : Str} {p pos : Pos}
/-- X(), raised: an own exception class without own __init__ -/
theorem pmk_own0 (F : ExcBaseFacts B newId initId bmB) (q : PySem.W.excIn X.K C bmB newId = true) (gC : X.mg x = some (.ref C)) (kC : PySem.W.keepIn X.K (.ref C) = true) (r : Raises X (.ref C)) (hg : Gl X x)
    (hdb : (x == ("__debug__" : Str)) = false := by decide) : PMk X (.Call (.Name x p) [] [] pos) (fun _ H Q => Q (.ref C) none H) := by
  intro pins s σ H Q I h
  refine wpAny_Call_Name_kw (ld_glob I hg gC ?_ hdb)
  refine PySem.W.callWith_K0 I.kIn kC ?_
  obtain ⟨bm, N, nm, qn, bs, hdct, sn, sub, ab, col, dd, k0, k1, k2, k3, k5, mN, hC, hN, hni, T⟩ := exc_obj I.kIn q
  refine wpAny_call_exc_subT F T hC hN hni (fun h' e hm => ?_) (Nat.zero_le _)
  exact mk_of I hm r h (I.hok.gone hm.new)
/-- X(), as a value -/
theorem pe_exc0 (F : ExcBaseFacts B newId initId bmB) (q : PySem.W.excIn X.K C bmB newId = true) (gC : X.mg x = some (.ref C)) (kC : PySem.W.keepIn X.K (.ref C) = true) (hg : Gl X x)
    (hdb : (x == ("__debug__" : Str)) = false := by decide) : PE X (.Call (.Name x p) [] [] pos) (fun _ H Q => ∀ a, H a = none → Q (.ref a) (upd H a (ExO (.ref C) a))) := by
  refine ⟨fun pins s σ H Q I h => ?_⟩
  refine wpAny_Call_Name_kw (ld_glob I hg gC ?_ hdb)
  refine PySem.W.callWith_K0 I.kIn kC ?_
  obtain ⟨bm, N, nm, qn, bs, hdct, sn, sub, ab, col, dd, k0, k1, k2, k3, k5, mN, hC, hN, hni, T⟩ := exc_obj I.kIn q
  refine wpAny_call_exc_subT F T hC hN hni (fun h' a hm => ?_) (Nat.zero_le _)
  have hn : H a = none := I.hok.gone hm.new
  obtain ⟨t, ht, _, _⟩ := hm.there
  exact ⟨.ref a, upd H a (ExO (.ref C) a), I.laidN hm.keeps hm.new hn (exO_ok ht ⟨rfl, rfl⟩ rfl rfl rfl (show 4 < 6 by decide)), rfl, h a hn⟩
end
/-- X(e, ..) as a value, its own __init__ keeping sp -/
def tMkV (C : Addr) (sp : Sp) (ta : TA) : TE := fun σ H Q => ta σ H fun vs H1 => vs.length ≤ 1000 ∧ ∀ a, H1 a = none → sp (.ref a :: vs) (upd H1 a (exo a C none)) (fun v H2 => v = .non ∧ Q (.ref a) H2) (fun _ _ _ => False)
section
variable {X : Cx} {e : Expr} {es : List Expr} {ta : TA} {p pos : Pos}
theorem pe_oexV {CX : CXT} {x : Str} {C fI : Addr} {k : Nat} {fd : FuncData} {ps : List Str} {sp : Sp} (T : OexC X.K C) (iC : PySem.W.findIn X.K (.ref C) "__init__" = some (some (.ref fI))) (tI : PySem.W.typeIn X.K (.ref fI) = some (.type "function"))
    (F1 : FnOk X.prog X.w X.K X.mg X.base CX k fI fd ps sp) (hr : Room (k + 1) X.A) (hb : Binds X.K fd ps []) (hx : Passes CX X (fun _ _ _ => False)) (hg : Gl X x) (hm : X.mg x = some (.ref C)) (ha : PA X (e :: es) ta)
    (hdb : (x == ("__debug__" : Str)) = false := by decide) (he : starEach (e :: es) X.env = (false, eval e X.env) :: starEach es X.env := by rfl) (hpl : (backTo pos (starEach es X.env)).any (·.1) = false := by rfl) :
    PE X (.Call (.Name x p) (e :: es) [] pos) (tMkV C sp ta) := by
  refine ⟨fun pins s σ H Q I h => ?_⟩
  obtain ⟨nm, q, N, bs, bm, sn, sub, ab, col, dd, k0, k1, k2, k3, k5, hC, hmro⟩ := T.cls
  refine wpAny_Call_Name_kw (ld_glob I hg hm ?_ hdb)
  refine PySem.W.callWith_K (h₀ := X.base) I.ok.mod.kin T.kC (thn (ha.run pos pins s σ H _ I h) fun us s1 ⟨vs, H1, I1, r1, hz, q1⟩ => ⟨I1.kIn, ?_⟩) he hpl
  show wpAny _ _ (call (.ref C) us) _ _ _
  obtain ⟨hh, g, dw, tc, ow⟩ := s1
  have hgt : hh.objs.size ≤ hh.objs.size + 1 := Nat.le_succ _
  have fr1 : H1 (hh.objs.size + 1) = none := I1.hok.fresh hgt
  have pr1 := q1 (hh.objs.size + 1) fr1
  have kp1 : ∀ b o, hh.get? b = some o → ((hh.push (PySem.W.kdv_tup us)).push (PySem.HandSPX.excO C hh.objs.size)).get? b = some o := fun b o e => Heap.get?_push_of_some _ (Heap.get?_push_of_some _ e)
  have ob1 : ((hh.push (PySem.W.kdv_tup us)).push (PySem.HandSPX.excO C hh.objs.size)).get? (hh.objs.size + 1) = some (PySem.HandSPX.excO C hh.objs.size) := by heap_get
  have Iv2 : Inv X pins σ (upd H1 (hh.objs.size + 1) (exo (hh.objs.size + 1) C none)) ⟨(hh.push (PySem.W.kdv_tup us)).push (PySem.HandSPX.excO C hh.objs.size), g, dw, tc, ow⟩ :=
    I1.laid (t' := tc) (a := hh.objs.size + 1) (o := exo (hh.objs.size + 1) C none) (h' := (hh.push (PySem.W.kdv_tup us)).push (PySem.HandSPX.excO C hh.objs.size)) kp1 hgt (exo_ok ob1)
  have rl2 : Vals (V.ref (hh.objs.size + 1) :: vs) (Value.ref (hh.objs.size + 1) :: us) := .cons rfl r1
  have ln1 : (Value.ref (hh.objs.size + 1) :: us).length = ps.length := by
    have e := rl2.length
    rw [F1.len _ _ _ _ pr1] at e
    exact e.symm
  have ln2 : us.length ≤ sizeLine := by
    rw [← Paired.length r1, sizeLine_eq]
    omega
  have b0 := hb ⟨(hh.push (PySem.W.kdv_tup us)).push (PySem.HandSPX.excO C hh.objs.size), g, dw, tc, ow⟩ (Value.ref (hh.objs.size + 1) :: us) Iv2.kIn (by rw [List.append_nil]; exact ln1)
  rw [List.append_nil] at b0
  refine wpAny_call (PySem.HandSPX.call_own F.excBase_ValueError (fun Y => PySem.HandSPX.refsVE_contains Y bm hmro) (I1.kIn _ _ hC) (PySem.W.looks_findIn I1.kIn iC) (fun self => PySem.W.bind_fn I1.kIn self tI) ln2
    (codeAny_mono (F1.run _ X.stack _ _ ⟨Value.ref (hh.objs.size + 1) :: us, []⟩ (Value.ref (hh.objs.size + 1) :: us) _ _ (fun _ _ _ => False) (hr.make C us []) (Iv2.env0.make C us []) b0 rl2 pr1) fun r s' hq' => ?_))
  cases r with
  | error er => exact hx pins σ _ _ er s' Iv2 hq'
  | ok fl =>
    cases fl with
    | ret u =>
      obtain ⟨v, H2, os2, bare2, un2, hok2, rv, ev, q2⟩ := hq'
      subst ev
      exact ⟨rv, .ref (hh.objs.size + 1), H2, Iv2.call' (ch := []) os2 un2 hok2 bare2 (fun b z => absurd z (by simp)), rfl, q2⟩
    | next => exact False.elim hq'
    | brk => exact False.elim hq'
    | cont => exact False.elim hq'
/-- err.f, err an error held as a value -/
def tXa (K : PySem.W.Frag) (f : Str) (te : TE) : TE := fun σ H Q => te σ H fun x H1 => ∃ (a C dx : Addr) (fs : List (Str × V)) (v : V), x = .ref a ∧ H1 a = some (exo a C (some dx)) ∧ H1 dx = some (exd dx fs) ∧ XfC K C ∧ PySem.W.findIn K (.ref C) f = some none ∧ fs.lookup f = some v ∧ Q v H1
theorem pe_xa {te : TE} {n : Str} (he : PE X e te) (hb : attributeBase e n X.env (eval e X.env) = eval e X.env := by rfl) : PE X (.Attribute e n pos) (tXa X.K n te) := by
  refine ⟨fun pins s σ H Q I h => ?_⟩
  refine attr_of hb (thn (he.run pins s σ H _ I h) fun u s1 hh => ?_)
  obtain ⟨x, H1, I1, rx, a, C, dx, fs, v, ex, ea, ed, T, hno, l, q⟩ := hh
  subst ex
  obtain rfl : u = Value.ref a := rx
  obtain ⟨t1, ho⟩ := exo_at I1.hok ea
  obtain ⟨mA, hns, hr⟩ := exd_at I1.hok ed
  obtain ⟨od, ho2, ln1⟩ := lookIn_ns hns
  obtain ⟨u, hu, ru⟩ := RelO.some_of (v := v) (o := mA n) (by rw [← l]; exact hr n)
  have J : PySem.W.InstAt s1.heap a _ C (some od) := ⟨ho, rfl, rfl, ho2⟩
  exact HandSPX.exc_get I1.kIn J T.ga T.gg T.exC (PySem.W.findObj_own T.hdC hno rfl (by rw [ln1, hu])) (handed_of ru) ⟨v, H1, I1.tok _, ru, q⟩
end
theorem ix_listK {X : Cx} {K : PySem.W.Frag} (h : X.K = K) : IxR X (rIxL K) := by
  subst h
  exact ix_list
theorem ix_tupK {X : Cx} {K : PySem.W.Frag} (h : X.K = K) : IxR X (rIxT K) := by
  subst h
  exact ix_tup
/-! several except clauses, some with names -/
/-- what is behind a suite with (slot i) or without a name -/
def goneD (oi : Option Nat) (D : Ends) : Ends := match oi with
  | none => D
  | some i => { nx := fun σ' H' => D.nx (σ'.set i none) H', rt := D.rt, bk := fun σ' H' => D.bk (σ'.set i none) H', ct := fun σ' H' => D.ct (σ'.set i none) H' }
def hadS (oi : Option Nat) (a : Addr) (σ : St) : St := match oi with
  | none => σ
  | some i => σ.set i (some (.ref a))
def wManyN (K : PySem.W.Frag) (Wout : WX) (D : Ends) : List (Value × Option Nat × (Addr → Value → Option Addr → TS)) → WX
  | [] => Wout
  | (c, oi, ts) :: r => fun cls d σ H => ∃ b, PySem.W.exmOne K cls c = some b ∧ (b = true → ∀ a, H a = none → ts a cls d (goneD oi D) (hadS oi a σ) H) ∧ (b = false → wManyN K Wout D r cls d σ H)
inductive HdsN (X : Cx) : List ExceptHandler → List (Value × Option Nat × (Addr → Value → Option Addr → TS)) → Prop
  | nil : HdsN X [] []
  | cons {x : Str} {c : Value} {ts : Addr → Value → Option Addr → TS} {b₀ : Stmt} {suite : List Stmt} {np pos' : Pos} {hds : List ExceptHandler} {l : List (Value × Option Nat × (Addr → Value → Option Addr → TS))} (hc : Names X x c)
      (hsu : ∀ (a : Addr) (oe : Obj) (cls : Value) (d : Option Addr) (pn : List (Addr × Obj)), Zc cls d oe → (∃ vs, oe.data = .fields vs) → PSs (X.suite a ((a, oe) :: pn)) (b₀ :: suite) (ts a cls d)) (r : HdsN X hds l) :
      HdsN X (.ExceptHandler (some (.Name x np)) none (b₀ :: suite) pos' :: hds) ((c, none, ts) :: l)
  | consN {x n : Str} {i : Nat} {c : Value} {ts : Addr → Value → Option Addr → TS} {b₀ : Stmt} {suite : List Stmt} {np pos' : Pos} {hds : List ExceptHandler} {l : List (Value × Option Nat × (Addr → Value → Option Addr → TS))} (hN : X.N.Nodup) (hi : X.N[i]? = some n) (hln : X.env.kindOf n = some .local) (hc : Names X x c)
      (hsu : ∀ (a : Addr) (oe : Obj) (cls : Value) (d : Option Addr) (pn : List (Addr × Obj)), Zc cls d oe → (∃ vs, oe.data = .fields vs) → PSs (X.suite a ((a, oe) :: pn)) (b₀ :: suite) (ts a cls d)) (r : HdsN X hds l) :
      HdsN X (.ExceptHandler (some (.Name x np)) (some n) (b₀ :: suite) pos' :: hds) ((c, some i, ts) :: l)
section
variable {X : Cx} {body : List Stmt} {h₀ : ExceptHandler} {hds : List ExceptHandler} {l : List (Value × Option Nat × (Addr → Value → Option Addr → TS))} {pos : Pos} {tb : WX → TS} {Wout : WX}
theorem ps_try_manyN (hs : X.stack = X.env :: X.outer) (hf : X.env.frame = some X.env.locals) (tk : Takes X Wout)
    (hb : ∀ (W : WX) (pn : List (Addr × Obj)) (xe : Value → Shared → Prop), Takes (X.tr pn xe) W → PassesOwn (model X.prog X.w) X.A X.env xe → PSs (X.tr pn xe) body (tb W))
    (hh : HdsN X (h₀ :: hds) l) : PS X (.Try body (h₀ :: hds) [] [] pos) (fun D σ H => tb (wManyN X.K Wout D l) D σ H) := by
  refine ⟨fun pins s σ H D I h => ?_⟩
  have ok := I.ok
  have frA : X.A.frames = some (X.env :: X.outer) := by rw [ok.frames, hs]
  refine wpAny_Try_except ?_
  refine wpAny_mono ((hb (wManyN X.K Wout D l) (X.pn ++ pins) (fun e s₁ => wpAny (model X.prog X.w) X.A (noteFrame e X.env) (fun _ s₂ => wpAny (model X.prog X.w) X.A (setFlight e none) (fun _ s₃ =>
    wpAny (model X.prog X.w) X.A (handleBy e X.env (h₀ :: hds)) (SP X pins D) X.xe s₃) X.xe s₂) X.xe s₁) (fun u s' xx => ?_) PassesOwn.looking).run [] s σ H D (I.toTry _) h) (fun f s1 back => ?_) (fun e s1 he => he)
  · -- the catch
    obtain ⟨a, B, sI, pins', σ', H', cls, d, rfl, J', nb, up, sky, na, os, ag, w⟩ := xx
    have J : Inv X pins σ' H' sI := J'.ofTry ok
    have skyE : Sky B (X.env :: X.outer) a (Zc cls d) X.env.locals s'.heap := by rw [← hs]; exact sky
    show wpAny (model X.prog X.w) X.A (noteFrame (.ref a) X.env) _ _ _
    refine Sky.land Zc.steady frA hf skyE fun h3 fz3 ut3 => ?_
    have Jn3 : Inv X pins σ' H' { s' with heap := h3 } := J.landed nb fz3.1 (up.trans ut3) os ag
    obtain ⟨ox3, xs3, ob3, zc3, dt3⟩ := fz3.there
    have aside : ∀ {h : Heap} {o : Obj} {vs : Array Value}, h.FunFrames B (X.env :: X.outer) → h.get? a = some o → o.data = .fields vs → a ∉ frs (X.env :: X.outer) := fun {h o vs} ff e dd hm => by
      obtain ⟨_, o', e', hnf⟩ := ff.mem hm
      rw [e] at e'; cases e'
      exact hnf _ dd
    have offF := aside fz3.2.2.1 ob3 dt3
    have offL : a ≠ X.env.locals := fun z => offF (List.mem_filterMap.mpr ⟨X.env, List.mem_cons_self, by rw [hf, z]⟩)
    have offS : a ∉ X.fs := fun hm => by
      obtain ⟨e, he, q⟩ := List.mem_filterMap.mp hm
      exact offF (List.mem_filterMap.mpr ⟨e, List.mem_cons_of_mem _ he, q⟩)
    have In3 := Jn3.suite ob3 dt3 na offL offS
    have go : ∀ {hds' : List ExceptHandler} {l' : List (Value × Option Nat × (Addr → Value → Option Addr → TS))}, HdsN X hds' l' → wManyN X.K Wout D l' cls d σ' H' →
        wpAny (model X.prog X.w) X.A (handleBy (.ref a) X.env hds') (SP X pins D) X.xe { s' with heap := h3 } := by
      intro hds' l' hk
      induction hk with
      | nil =>
        intro w
        refine wpAny_handleBy_nil ?_
        obtain ⟨k1, k2, k3, oe, vs, T, oT, ts', he, hz, hd, h1, hr⟩ := id fz3
        unfold PySem.passOn
        refine wpAny_bind (wpAny_field he hd h1 ?_)
        rw [if_neg (show ¬ ((Value.ref T == Value.none) = true) from by simp)]
        have fin : wpAny (model X.prog X.w) X.A (setFlight (.ref a) X.env.frame) (fun _ s4 => wpAny (model X.prog X.w) X.A (throw (.ref a) : Sem Flow) (SP X pins D) X.xe s4) X.xe { s' with heap := h3 } := by
          rw [hf]
          refine HandSPX.setFlight_upZ fz3 fun h4 hh4 ut4 => wpAny_throw (tk _ _ ?_)
          exact ⟨a, B, sI, pins, σ', H', cls, d, rfl, J, nb, (up.trans ut3).trans ut4, .inr (.inr (by rw [hs]; exact hh4)), na, os, ag, w⟩
        first
          | exact wpAny_bind (wpAny_pure (wpAny_bind fin))
          | exact wpAny_bind fin
      | @cons x c ts b₀ suite np pos' hds2 l2 hc hsu r ih =>
        intro w
        obtain ⟨b, hx1, yes, nay⟩ := w
        refine wpAny_handleBy_cons (codeAny_handlers_test ?_) (by intro q; cases q)
        have lkT : PySem.W.Looks (model X.prog X.w) h3 (typeOf (.ref a)) cls := fun A Q E s k q => wpAny_typeOf_ref (k _ _ ob3) (by rw [zc3.1]; exact q)
        have lkM := PySem.W.exm_one (M := model X.prog X.w) (Jn3.kIn) lkT hx1
        have test : ∀ {Q : Value → Shared → Prop} {E : Value → Shared → Prop}, Q c { s' with heap := h3 } → wpAny (model X.prog X.w) (X.A.mark (some (.ref a))) (eval (.Name x np) X.env) Q E { s' with heap := h3 } := fun {Q E} q => by
          obtain ⟨hg, hdbg, hm | ⟨hm, hv, hnn⟩⟩ := hc
          · exact ld_glob (X := X.suite a ((a, ox3) :: (X.pn ++ pins))) In3 hg hm q hdbg
          · exact ld_blt (X := X.suite a ((a, ox3) :: (X.pn ++ pins))) In3 hg hm hv q hnn hdbg
        refine test (lkM.here ?_)
        cases b with
        | true =>
          refine codeAny_handlers_suite ?_
          refine HandSPX.lands_againZ fz3 fun h4 fz4 ut4 => ?_
          have Jn4 : Inv X pins σ' H' { s' with heap := h4 } := J.landed nb fz4.1 ((up.trans ut3).trans ut4) os ag
          obtain ⟨ox4, xs4, ob4, zc4, dt4⟩ := fz4.there
          have In4 := Jn4.suite ob4 dt4 na offL offS
          refine wpAny_mono ((hsu a ox4 cls d (X.pn ++ pins) zc4 ⟨_, dt4⟩).run [] _ _ H' _ In4 (yes rfl a na)) (fun f t6 back => ?_) (fun _ _ z => False.elim z)
          cases f with
          | next =>
            obtain ⟨σb, Hb, Inb, qb⟩ := back
            exact ⟨_, _, Inb.unsuite ok, qb⟩
          | brk =>
            obtain ⟨σb, Hb, Inb, qb⟩ := back
            exact ⟨_, _, Inb.unsuite ok, qb⟩
          | cont =>
            obtain ⟨σb, Hb, Inb, qb⟩ := back
            exact ⟨_, _, Inb.unsuite ok, qb⟩
          | ret u =>
            obtain ⟨vb, σb, Hb, Inb, rb, qb⟩ := back
            exact ⟨_, _, _, Inb.unsuite ok, rb, qb⟩
        | false =>
          show wpAny _ X.A (handleBy (.ref a) X.env hds2) _ _ _
          exact ih (nay rfl)
      | @consN x n i c ts b₀ suite np pos' hds2 l2 hN hi hln hc hsu r ih =>
        intro w
        obtain ⟨b, hx1, yes, nay⟩ := w
        have hloc : Loc X.env.scope n := .inl hln
        refine wpAny_handleBy_cons (codeAny_handlers_test ?_) (by intro q; cases q)
        have lkT : PySem.W.Looks (model X.prog X.w) h3 (typeOf (.ref a)) cls := fun A Q E s k q => wpAny_typeOf_ref (k _ _ ob3) (by rw [zc3.1]; exact q)
        have lkM := PySem.W.exm_one (M := model X.prog X.w) (Jn3.kIn) lkT hx1
        have test : ∀ {Q : Value → Shared → Prop} {E : Value → Shared → Prop}, Q c { s' with heap := h3 } → wpAny (model X.prog X.w) (X.A.mark (some (.ref a))) (eval (.Name x np) X.env) Q E { s' with heap := h3 } := fun {Q E} q => by
          obtain ⟨hg, hdbg, hm | ⟨hm, hv, hnn⟩⟩ := hc
          · exact ld_glob (X := X.suite a ((a, ox3) :: (X.pn ++ pins))) In3 hg hm q hdbg
          · exact ld_blt (X := X.suite a ((a, ox3) :: (X.pn ++ pins))) In3 hg hm hv q hnn hdbg
        refine test (lkM.here ?_)
        cases b with
        | true =>
          refine codeAny_handlers_suite_as ?_
          refine HandSPX.lands_againZ fz3 fun h4 fz4 ut4 => ?_
          have Jn4 : Inv X pins σ' H' { s' with heap := h4 } := J.landed nb fz4.1 ((up.trans ut3).trans ut4) os ag
          obtain ⟨ox4, xs4, ob4, zc4, dt4⟩ := fz4.there
          have In4 := Jn4.suite ob4 dt4 na offL offS
          refine store_ok (X := X.suite a ((a, ox4) :: (X.pn ++ pins))) (v := .ref a) In4 hN hi hloc rfl (fun t5 In5 => ?_) (.inr hln)
          refine wpAny_mono ((hsu a ox4 cls d (X.pn ++ pins) zc4 ⟨_, dt4⟩).run [] t5 _ H' _ In5 (yes rfl a na)) (fun f t6 back => ?_) (fun _ _ z => False.elim z)
          have gone : ∀ {σb : St} {Hb : Hp} {Q : Shared → Prop}, Inv (X.suite a ((a, ox4) :: (X.pn ++ pins))) [] σb Hb t6 → (∀ s7, Inv X pins (σb.set i none) Hb s7 → Q s7) →
              wpAny (model X.prog X.w) X.A (do bindName X.env n .none; unbindBehindTheSuite X.env n pos') (fun _ s7 => Q s7) X.xe t6 := fun {σb Hb Q} Inb hq => gone_ok (Inb.unsuite ok) hN hi hln hq
          cases f with
          | next =>
            obtain ⟨σb, Hb, Inb, qb⟩ := back
            exact gone Inb fun s7 J7 => ⟨_, _, J7, qb⟩
          | brk =>
            obtain ⟨σb, Hb, Inb, qb⟩ := back
            exact gone Inb fun s7 J7 => ⟨_, _, J7, qb⟩
          | cont =>
            obtain ⟨σb, Hb, Inb, qb⟩ := back
            exact gone Inb fun s7 J7 => ⟨_, _, J7, qb⟩
          | ret u =>
            obtain ⟨vb, σb, Hb, Inb, rb, qb⟩ := back
            exact gone Inb fun s7 J7 => ⟨_, _, _, J7, rb, qb⟩
        | false =>
          show wpAny _ X.A (handleBy (.ref a) X.env hds2) _ _ _
          exact ih (nay rfl)
    exact go hh w
  · cases f with
    | next =>
      obtain ⟨σ', H', J', q⟩ := back
      exact wpAny_execs_nil ⟨σ', H', J'.ofTry ok, q⟩
    | brk =>
      obtain ⟨σ', H', J', q⟩ := back
      exact ⟨σ', H', J'.ofTry ok, q⟩
    | cont =>
      obtain ⟨σ', H', J', q⟩ := back
      exact ⟨σ', H', J'.ofTry ok, q⟩
    | ret u =>
      obtain ⟨v, σ', H', J', r, q⟩ := back
      exact ⟨v, σ', H', J'.ofTry ok, r, q⟩
end
end L2

namespace Pm
/-! ### forms and blocks -/
def form : Nat → List Nat
  | 0 => [0] | 1 => [1, 0] | 2 => [1, 1] | 3 => [1, 2, 1] | 4 => [1, 2, 2] | 5 => [1, 2, 1, 2] | 6 => [1, 2, 3, 2] | _ => [1, 2, 3, 0]
abbrev Bk := Nat × List Nat
structure Blk (ys : List Nat) (b : Bk) : Prop where
  w : b.1 < 8
  len : b.2.length = (form b.1).length
  sh : ∀ k, k < b.2.length → ys.getD (b.2.getD k 0) 0 = b.2.getD ((form b.1).getD k 0) 0
structure Built (ys : List Nat) (bs : List Bk) : Prop where
  blk : ∀ b ∈ bs, Blk ys b
  perm : (bs.flatMap (·.2)).Perm (List.range ys.length)
theorem form_len (w : Nat) : 0 < (form w).length := by
  unfold form
  split <;> decide
theorem form_lt (w k : Nat) (h : k < (form w).length) : (form w).getD k 0 < (form w).length := by
  unfold form at h ⊢
  split at h <;> (simp at h ⊢; rcases k with _ | _ | _ | _ | k <;> simp at h ⊢ <;> omega)
/-- the least of a list -/
def mn : List Nat → Nat
  | [] => 0
  | [a] => a
  | a :: b :: l => min a (mn (b :: l))
theorem mn_mem : ∀ {l : List Nat}, l ≠ [] → mn l ∈ l
  | [], h => absurd rfl h
  | [a], _ => by simp [mn]
  | a :: b :: l, _ => by
    have ih := mn_mem (l := b :: l) (by simp)
    unfold mn
    by_cases h : a ≤ mn (b :: l)
    · rw [Nat.min_eq_left h]; exact List.mem_cons_self ..
    · rw [Nat.min_eq_right (by omega)]; exact List.mem_cons_of_mem _ ih
theorem mn_le : ∀ {l : List Nat} {x : Nat}, x ∈ l → mn l ≤ x
  | [a], x, h => by
    rw [List.mem_singleton.mp h]
    exact Nat.le_refl _
  | a :: b :: l, x, h => by
    unfold mn
    rcases List.mem_cons.mp h with e | h
    · rw [e]; exact Nat.min_le_left _ _
    · exact Nat.le_trans (Nat.min_le_right _ _) (mn_le h)
theorem uniq : ∀ {bs : List Bk} {b c : Bk} {x : Nat}, (bs.flatMap (·.2)).Nodup → b ∈ bs → c ∈ bs → x ∈ b.2 → x ∈ c.2 → b = c
  | a :: bs, b, c, x, nd, hb, hc, xb, xc => by
    rw [List.flatMap_cons, List.nodup_append] at nd
    rcases List.mem_cons.mp hb with e1 | hb
    · rcases List.mem_cons.mp hc with e2 | hc
      · rw [e1, e2]
      · exact absurd rfl (nd.2.2 x (e1 ▸ xb) x (List.mem_flatMap.mpr ⟨c, hc, xc⟩))
    · rcases List.mem_cons.mp hc with e2 | hc
      · exact absurd rfl (nd.2.2 x (e2 ▸ xc) x (List.mem_flatMap.mpr ⟨b, hb, xb⟩))
      · exact uniq nd.2.1 hb hc xb xc
theorem nd_of : ∀ {bs : List Bk} {b : Bk}, (bs.flatMap (·.2)).Nodup → b ∈ bs → b.2.Nodup
  | a :: bs, b, nd, hb => by
    rw [List.flatMap_cons, List.nodup_append] at nd
    rcases List.mem_cons.mp hb with e1 | hb
    · rw [e1]; exact nd.1
    · exact nd_of nd.2.1 hb
def beta (bs : List Bk) (x : Nat) : Nat := match bs.find? (fun b => b.2.contains x) with
  | some b => mn b.2
  | none => x
section
variable {ys : List Nat} {bs : List Bk}
theorem Built.nd (B : Built ys bs) : (bs.flatMap (·.2)).Nodup := B.perm.nodup_iff.mpr List.nodup_range
theorem Built.lt (B : Built ys bs) {b : Bk} (hb : b ∈ bs) {x : Nat} (hx : x ∈ b.2) : x < ys.length :=
  List.mem_range.mp (B.perm.mem_iff.mp (List.mem_flatMap.mpr ⟨b, hb, hx⟩))
theorem Built.of (B : Built ys bs) {x : Nat} (hx : x < ys.length) : ∃ b ∈ bs, x ∈ b.2 := by
  obtain ⟨b, hb, h⟩ := List.mem_flatMap.mp (B.perm.mem_iff.mpr (List.mem_range.mpr hx))
  exact ⟨b, hb, h⟩
theorem Built.beta_of (B : Built ys bs) {b : Bk} (hb : b ∈ bs) {x : Nat} (hx : x ∈ b.2) : beta bs x = mn b.2 := by
  unfold beta
  cases h : bs.find? (fun b => b.2.contains x) with
  | none =>
    have := List.find?_eq_none.mp h b hb
    simp [hx] at this
  | some c =>
    have h1 := List.mem_of_find?_eq_some h
    have h2 := List.find?_some h
    have h3 : x ∈ c.2 := by simpa using h2
    rw [uniq B.nd hb h1 hx h3]
theorem Built.ne (B : Built ys bs) {b : Bk} (hb : b ∈ bs) : b.2 ≠ [] := fun z => by
  have h := (B.blk b hb).len
  have := form_len b.1
  rw [z] at h
  simp at h
  omega
theorem Built.mn_beta (B : Built ys bs) {b : Bk} (hb : b ∈ bs) : beta bs (mn b.2) = mn b.2 := B.beta_of hb (mn_mem (B.ne hb))
theorem Built.beta_le (B : Built ys bs) {x : Nat} (hx : x < ys.length) : beta bs x ≤ x := by
  obtain ⟨b, hb, h⟩ := B.of hx
  rw [B.beta_of hb h]
  exact mn_le h
theorem getD_mem {l : List Nat} {k : Nat} (h : k < l.length) : l.getD k 0 ∈ l := by
  rw [List.getD_eq_getElem?_getD, List.getElem?_eq_getElem h]
  exact List.getElem_mem h
theorem mem_getD {l : List Nat} {x : Nat} (h : x ∈ l) : ∃ k, k < l.length ∧ l.getD k 0 = x := by
  obtain ⟨k, hk, e⟩ := List.getElem_of_mem h
  exact ⟨k, hk, by rw [List.getD_eq_getElem?_getD, List.getElem?_eq_getElem hk]; exact e⟩
/-- what a record shows is of its block -/
theorem Built.shown (B : Built ys bs) {b : Bk} (hb : b ∈ bs) {x : Nat} (hx : x ∈ b.2) : ys.getD x 0 ∈ b.2 := by
  obtain ⟨k, hk, rfl⟩ := mem_getD hx
  have Q := B.blk b hb
  rw [Q.sh k hk]
  exact getD_mem (by rw [Q.len]; exact form_lt _ _ (by rw [← Q.len]; exact hk))
theorem Built.edge (B : Built ys bs) {x : Nat} (hx : x < ys.length) : ys.getD x 0 < ys.length ∧ beta bs (ys.getD x 0) = beta bs x := by
  obtain ⟨b, hb, h⟩ := B.of hx
  have h2 := B.shown hb h
  exact ⟨B.lt hb h2, by rw [B.beta_of hb h, B.beta_of hb h2]⟩
end
/-! ### the labels -/
def stepL (L : List Nat) (r nm : Nat) : List Nat := if min (L.getD r 0) (L.getD nm 0) = max (L.getD r 0) (L.getD nm 0) then L else L.map fun o => if o = max (L.getD r 0) (L.getD nm 0) then min (L.getD r 0) (L.getD nm 0) else o
def lab (ys : List Nat) : Nat → List Nat
  | 0 => List.range ys.length
  | i + 1 => stepL (lab ys i) i (ys.getD i 0)
structure Lab (ys : List Nat) (bs : List Bk) (i : Nat) (L : List Nat) : Prop where
  len : L.length = ys.length
  le : ∀ x, x < ys.length → L.getD x 0 ≤ x
  fx : ∀ x, x < ys.length → L.getD (L.getD x 0) 0 = L.getD x 0
  bl : ∀ x, x < ys.length → beta bs (L.getD x 0) = beta bs x
  ed : ∀ r, r < i → r < ys.length → L.getD r 0 = L.getD (ys.getD r 0) 0
theorem getD_map {L : List Nat} {f : Nat → Nat} {x : Nat} (h : x < L.length) : (L.map f).getD x 0 = f (L.getD x 0) := by
  rw [List.getD_eq_getElem?_getD, List.getElem?_map, List.getD_eq_getElem?_getD, List.getElem?_eq_getElem h]
  rfl
theorem getD_range {n x : Nat} (h : x < n) : (List.range n).getD x 0 = x := by
  rw [List.getD_eq_getElem?_getD, List.getElem?_range h]
  rfl
theorem lab_ok {ys : List Nat} {bs : List Bk} (B : Built ys bs) : ∀ i, i ≤ ys.length → Lab ys bs i (lab ys i)
  | 0, _ => ⟨List.length_range, fun x hx => by show (List.range _).getD x 0 ≤ x; rw [getD_range hx]; exact Nat.le_refl _,
      fun x hx => by show (List.range _).getD ((List.range _).getD x 0) 0 = (List.range _).getD x 0; rw [getD_range hx, getD_range hx],
      fun x hx => by show beta bs ((List.range _).getD x 0) = _; rw [getD_range hx], fun r h => absurd h (Nat.not_lt_zero _)⟩
  | i + 1, hi => by
    have ih := lab_ok B i (by omega)
    have hin : i < ys.length := by omega
    obtain ⟨hnm, hbe⟩ := B.edge hin
    show Lab ys bs (i + 1) (stepL (lab ys i) i (ys.getD i 0))
    generalize lab ys i = L at ih
    generalize hnmE : ys.getD i 0 = nm at hnm hbe
    unfold stepL
    have a1 := ih.fx i hin
    have b1 := ih.fx nm hnm
    have a2 := ih.le i hin
    have b2 := ih.le nm hnm
    have a3 := ih.bl i hin
    have b3 := ih.bl nm hnm
    generalize ha : L.getD i 0 = a at *
    generalize hb : L.getD nm 0 = b at *
    by_cases heq : min a b = max a b
    · rw [if_pos heq]
      refine ⟨ih.len, ih.le, ih.fx, ih.bl, fun r hr hrn => ?_⟩
      by_cases h : r = i
      · rw [h, ha, hnmE, hb]
        omega
      · exact ih.ed r (by omega) hrn
    · rw [if_neg heq]
      have hlow : L.getD (min a b) 0 = min a b := by
        by_cases h : a ≤ b
        · rw [Nat.min_eq_left h]; exact a1
        · rw [Nat.min_eq_right (by omega)]; exact b1
      have hbl : beta bs (min a b) = beta bs (max a b) := by
        by_cases h : a ≤ b
        · rw [Nat.min_eq_left h, Nat.max_eq_right h, a3, b3, hbe]
        · rw [Nat.min_eq_right (by omega), Nat.max_eq_left (by omega), a3, b3, hbe]
      have at_ : ∀ x, x < ys.length → (L.map fun o => if o = max a b then min a b else o).getD x 0 = if L.getD x 0 = max a b then min a b else L.getD x 0 := fun x hx => getD_map (by rw [ih.len]; exact hx)
      have hminlt : min a b < ys.length := by omega
      refine ⟨by rw [List.length_map]; exact ih.len, fun x hx => ?_, fun x hx => ?_, fun x hx => ?_, fun r hr hrn => ?_⟩
      · rw [at_ x hx]
        have := ih.le x hx
        split <;> omega
      · rw [at_ x hx]
        by_cases h : L.getD x 0 = max a b
        · rw [if_pos h, at_ _ hminlt, hlow, if_neg heq]
        · rw [if_neg h]
          have hl := ih.le x hx
          rw [at_ _ (by omega), ih.fx x hx, if_neg h]
      · rw [at_ x hx]
        by_cases h : L.getD x 0 = max a b
        · rw [if_pos h, hbl, ← h]; exact ih.bl x hx
        · rw [if_neg h]; exact ih.bl x hx
      · rw [at_ r hrn, at_ _ (B.edge hrn).1]
        by_cases h : r = i
        · rw [h, ha, hnmE, hb]
          by_cases hab : a ≤ b
          · rw [Nat.min_eq_left hab, Nat.max_eq_right hab]
            by_cases hq : a = b <;> simp [hq]
          · rw [Nat.min_eq_right (by omega), Nat.max_eq_left (by omega)]
            by_cases hq : b = a <;> simp [hq]
        · rw [ih.ed r (by omega) hrn]
theorem conn {w : Nat} {ms : List Nat} {f : Nat → Nat} (hl : ms.length = (form w).length) (h : ∀ k, k < ms.length → f (ms.getD k 0) = f (ms.getD ((form w).getD k 0) 0)) : ∀ k, k < ms.length → f (ms.getD k 0) = f (ms.getD 0 0) := by
  unfold form at hl h
  split at hl
  all_goals (simp only [List.length_cons, List.length_nil] at hl; intro k hk)
  all_goals (have h0 := h 0 (by omega); try have h1 := h 1 (by omega))
  all_goals (try have h2 := h 2 (by omega))
  all_goals (try have h3 := h 3 (by omega))
  all_goals (rcases k with _ | _ | _ | _ | k)
  all_goals first | omega | rfl | (simp at h0 h1 h2 h3 ⊢; omega) | (simp at h0 h1 h2 ⊢; omega) | (simp at h0 h1 ⊢; omega) | (simp at h0 ⊢; omega)
end Pm

namespace Pm
inductive Cs (g : Nat → Nat) : Nat → List Nat → Prop
  | free (a) : g a = a → Cs g 0 [a]
  | pair (a b) : g a = b → g b = a → Cs g 1 [a, b]
  | claim (a b) : g a = b → g b = b → Cs g 2 [a, b]
  | hook (c a b) : g c = a → g a = b → g b = a → Cs g 3 [c, a, b]
  | relay (c a b) : g c = a → g a = b → g b = b → Cs g 4 [c, a, b]
  | clamp (d a b c) : g d = a → g a = b → g b = a → g c = b → Cs g 5 [d, a, b, c]
  | trail (d c a b) : g d = c → g c = a → g a = b → g b = a → Cs g 6 [d, c, a, b]
  | wheel (a b c d) : g a = b → g b = c → g c = d → g d = a → Cs g 7 [a, b, c, d]
theorem Blk.cs {ys : List Nat} {b : Bk} (Q : Blk ys b) : Cs (fun x => ys.getD x 0) b.1 b.2 := by
  obtain ⟨w, ms⟩ := b
  obtain ⟨hw, hl, h⟩ := Q
  dsimp only at hw hl h
  match w, hw with
  | 0, _ => match ms, hl with | [a], _ => exact .free a (by simpa [form] using h 0 (by simp))
  | 1, _ => match ms, hl with | [a, b], _ => exact .pair a b (by simpa [form] using h 0 (by simp)) (by simpa [form] using h 1 (by simp))
  | 2, _ => match ms, hl with | [a, b], _ => exact .claim a b (by simpa [form] using h 0 (by simp)) (by simpa [form] using h 1 (by simp))
  | 3, _ => match ms, hl with | [a, b, c], _ => exact .hook a b c (by simpa [form] using h 0 (by simp)) (by simpa [form] using h 1 (by simp)) (by simpa [form] using h 2 (by simp))
  | 4, _ => match ms, hl with | [a, b, c], _ => exact .relay a b c (by simpa [form] using h 0 (by simp)) (by simpa [form] using h 1 (by simp)) (by simpa [form] using h 2 (by simp))
  | 5, _ => match ms, hl with | [a, b, c, d], _ => exact .clamp a b c d (by simpa [form] using h 0 (by simp)) (by simpa [form] using h 1 (by simp)) (by simpa [form] using h 2 (by simp)) (by simpa [form] using h 3 (by simp))
  | 6, _ => match ms, hl with | [a, b, c, d], _ => exact .trail a b c d (by simpa [form] using h 0 (by simp)) (by simpa [form] using h 1 (by simp)) (by simpa [form] using h 2 (by simp)) (by simpa [form] using h 3 (by simp))
  | 7, _ => match ms, hl with | [a, b, c, d], _ => exact .wheel a b c d (by simpa [form] using h 0 (by simp)) (by simpa [form] using h 1 (by simp)) (by simpa [form] using h 2 (by simp)) (by simpa [form] using h 3 (by simp))
structure Canon (b : Bk) : Prop where
  pair : b.1 = 1 → b.2.getD 0 0 < b.2.getD 1 0
  clamp : b.1 = 5 → b.2.getD 0 0 < b.2.getD 3 0
  wheel : b.1 = 7 → b.2.getD 0 0 = mn b.2
section
variable {ys : List Nat} {bs : List Bk}
theorem lab_end (B : Built ys bs) {x : Nat} (hx : x < ys.length) : (lab ys ys.length).getD x 0 = beta bs x := by
  have Q := lab_ok B ys.length (Nat.le_refl _)
  generalize lab ys ys.length = L at Q ⊢
  obtain ⟨b, hb, hxb⟩ := B.of hx
  have P := B.blk b hb
  have cn := conn (f := fun x => L.getD x 0) P.len fun k hk => by
    show L.getD (b.2.getD k 0) 0 = _
    have hm := B.lt hb (getD_mem hk)
    rw [Q.ed _ hm hm, P.sh k hk]
  have h0 : 0 < b.2.length := List.length_pos_iff.mpr (B.ne hb)
  have same : ∀ y, y ∈ b.2 → L.getD y 0 = L.getD (b.2.getD 0 0) 0 := fun y hy => by
    obtain ⟨k, hk, rfl⟩ := mem_getD hy
    exact cn k hk
  have hmn := mn_mem (B.ne hb)
  have e1 : L.getD x 0 = L.getD (mn b.2) 0 := by rw [same x hxb, same _ hmn]
  have h1 := Q.le (mn b.2) (B.lt hb hmn)
  have h2 := Q.bl x hx
  have h3 := Q.le x hx
  have h4 := B.beta_le (x := L.getD x 0) (by omega)
  have h5 := B.beta_of hb hxb
  omega
def grp (bs : List Bk) (n m : Nat) : List Nat := (List.range n).filter fun x => decide (beta bs x = m)
def roots (bs : List Bk) (n : Nat) : List Nat := (List.range n).filter fun x => decide (beta bs x = x)
theorem nodup_filter {l : List Nat} (p : Nat → Bool) (h : l.Nodup) : (l.filter p).Nodup := h.sublist List.filter_sublist
theorem grp_nd {n m : Nat} : (grp bs n m).Nodup := nodup_filter _ List.nodup_range
theorem grp_lt {n m : Nat} : (grp bs n m).Pairwise (· < ·) := List.Pairwise.filter _ List.pairwise_lt_range
theorem Built.mem_grp (B : Built ys bs) {b : Bk} (hb : b ∈ bs) {x : Nat} : x ∈ grp bs ys.length (mn b.2) ↔ x ∈ b.2 := by
  unfold grp
  rw [List.mem_filter, List.mem_range, decide_eq_true_eq]
  constructor
  · rintro ⟨h1, h2⟩
    obtain ⟨c, hc, hx⟩ := B.of h1
    rw [B.beta_of hc hx] at h2
    have e := uniq B.nd hc hb (x := mn b.2) (by rw [← h2]; exact mn_mem (B.ne hc)) (mn_mem (B.ne hb))
    exact e ▸ hx
  · exact fun h => ⟨B.lt hb h, B.beta_of hb h⟩
theorem Built.grp_perm (B : Built ys bs) {b : Bk} (hb : b ∈ bs) : (grp bs ys.length (mn b.2)).Perm b.2 :=
  (List.perm_ext_iff_of_nodup grp_nd (nd_of B.nd hb)).mpr fun x => B.mem_grp hb
theorem Built.roots_eq (B : Built ys bs) (hs : bs.Pairwise fun a b => mn a.2 < mn b.2) : roots bs ys.length = bs.map fun b => mn b.2 := by
  have s1 : (roots bs ys.length).Pairwise (· < ·) := List.Pairwise.filter _ List.pairwise_lt_range
  have s2 : (bs.map fun b => mn b.2).Pairwise (· < ·) := List.pairwise_map.mpr hs
  refine List.Perm.eq_of_pairwise (le := (· < ·)) (fun a b _ _ h1 h2 => by omega) s1 s2 ?_
  refine (List.perm_ext_iff_of_nodup (s1.imp fun h => by omega) (s2.imp fun h => by omega)).mpr fun x => ?_
  unfold roots
  rw [List.mem_filter, List.mem_range, decide_eq_true_eq, List.mem_map]
  constructor
  · rintro ⟨h1, h2⟩
    obtain ⟨b, hb, hx⟩ := B.of h1
    exact ⟨b, hb, by rw [← h2, B.beta_of hb hx]⟩
  · rintro ⟨b, hb, rfl⟩
    exact ⟨B.lt hb (mn_mem (B.ne hb)), B.mn_beta hb⟩
/-! ### one group's row -/
def path (b : Bk) : List Nat := if b.1 = 5 then b.2.take 3 else b.2
theorem filter_one {l : List Nat} {q : Nat → Bool} {x : Nat} (nd : l.Nodup) (hx : x ∈ l) (h1 : q x = true) (h2 : ∀ y ∈ l, q y = true → y = x) : l.filter q = [x] := by
  have nd2 := nodup_filter q nd
  have m : ∀ y, y ∈ l.filter q ↔ y = x := fun y => by
    rw [List.mem_filter]
    exact ⟨fun h => h2 y h.1 h.2, fun h => by rw [h]; exact ⟨hx, h1⟩⟩
  match hl : l.filter q with
  | [] => exact absurd ((m x).mpr rfl) (by rw [hl]; simp)
  | [a] => rw [(m a).mp (by rw [hl]; simp)]
  | a :: b :: r =>
    rw [hl] at nd2 m
    have ea := (m a).mp (by simp)
    have eb := (m b).mp (by simp)
    simp [ea, eb] at nd2
theorem mn_sing {a : Nat} : mn [a] = a := rfl
/-- the walk of a form -/
structure Walks (g : Nat → Nat) (p : List Nat) : Prop where
  pos : 0 < p.length
  nd : p.Nodup
  next : ∀ j, j + 1 < p.length → g (p.getD j 0) = p.getD (j + 1) 0
  back : g (p.getD (p.length - 1) 0) ∈ p
theorem Built.walks (B : Built ys bs) {b : Bk} (hb : b ∈ bs) : Walks (fun x => ys.getD x 0) (path b) := by
  have nd := nd_of B.nd hb
  have C := (B.blk b hb).cs
  obtain ⟨w, ms⟩ := b
  dsimp only at C nd
  unfold path
  dsimp only
  generalize (fun x => ys.getD x 0) = g at C
  cases C
  all_goals (simp at nd ⊢)
  all_goals (refine ⟨by simp, by simp; try simp [nd], fun j hj => ?_, by simp [*]⟩)
  all_goals (rcases j with _ | _ | _ | _ | j)
  all_goals first | (simp at hj; done) | (simp [*]; done) | (simp at hj ⊢; omega) | skip
theorem Built.left (B : Built ys bs) {b : Bk} (hb : b ∈ bs) : path b ++ (grp bs ys.length (mn b.2)).filter (fun x => !(path b).contains x) = b.2 := by
  have nd := nd_of B.nd hb
  have C := (B.blk b hb).cs
  have M : ∀ x, x ∈ grp bs ys.length (mn b.2) ↔ x ∈ b.2 := fun x => B.mem_grp hb
  have N : (grp bs ys.length (mn b.2)).Nodup := grp_nd
  generalize grp bs ys.length (mn b.2) = l at M N
  by_cases h5 : b.1 = 5
  · obtain ⟨w, ms⟩ := b
    dsimp only at h5 C nd M ⊢
    subst h5
    cases C
    rename_i d a b c h1 h2 h3 h4
    unfold path
    simp at nd ⊢
    rw [filter_one (x := c) N (by rw [M]; simp) (by simp; omega) fun y hy hq => ?_]
    rw [M] at hy
    simp at hy hq
    omega
  · unfold path
    rw [if_neg h5]
    have e : l.filter (fun x => !b.2.contains x) = [] := by
      rw [List.filter_eq_nil_iff]
      intro x hx
      have := (M x).mp hx
      simp [this]
    rw [e, List.append_nil]
/-- where the walk starts: at the first record that no other of the group shows, or at the first one -/
theorem Built.start (B : Built ys bs) {b : Bk} (hb : b ∈ bs) (K : Canon b) (T : List Nat)
    (hT : T = (grp bs ys.length (mn b.2)).filter (fun x => !((grp bs ys.length (mn b.2)).map fun y => ys.getD y 0).contains x)) :
    (T = [] → (grp bs ys.length (mn b.2)).head? = some (b.2.getD 0 0)) ∧ (T ≠ [] → T.head? = some (b.2.getD 0 0)) := by
  have nd := nd_of B.nd hb
  have C := (B.blk b hb).cs
  have M : ∀ x, x ∈ grp bs ys.length (mn b.2) ↔ x ∈ b.2 := fun x => B.mem_grp hb
  have sh : ∀ x, ((grp bs ys.length (mn b.2)).map fun y => ys.getD y 0).contains x = (b.2.map fun y => ys.getD y 0).contains x := fun x => by
    rw [Bool.eq_iff_iff, List.contains_iff_mem, List.contains_iff_mem, List.mem_map, List.mem_map]
    exact ⟨fun ⟨y, hy, e⟩ => ⟨y, (M y).mp hy, e⟩, fun ⟨y, hy, e⟩ => ⟨y, (M y).mpr hy, e⟩⟩
  have hT2 : T = (List.range ys.length).filter fun x => decide (beta bs x = mn b.2) && !(b.2.map fun y => ys.getD y 0).contains x := by
    rw [hT]
    unfold grp
    rw [List.filter_filter]
    refine List.filter_congr fun x hx => ?_
    have := sh x
    unfold grp at this
    rw [this, Bool.and_comm]
  have inB : ∀ x, x < ys.length → (decide (beta bs x = mn b.2) = true ↔ x ∈ b.2) := fun x hx => by
    rw [← M x]
    unfold grp
    rw [List.mem_filter, List.mem_range]
    exact ⟨fun h => ⟨hx, h⟩, fun h => h.2⟩
  have root : b.2.getD 0 0 = mn b.2 → (grp bs ys.length (mn b.2)).head? = some (b.2.getD 0 0) := fun e => by
    unfold grp
    rw [List.head?_filter, List.find?_range_eq_some, e]
    refine ⟨by rw [decide_eq_true_eq]; exact B.mn_beta hb, List.mem_range.mpr (B.lt hb (mn_mem (B.ne hb))), fun j hj => ?_⟩
    have hjn : j < ys.length := Nat.lt_trans hj (B.lt hb (mn_mem (B.ne hb)))
    have := B.beta_le hjn
    simp
    omega
  have tail : ∀ m0 : Nat, m0 ∈ b.2 → (b.2.map fun y => ys.getD y 0).contains m0 = false → (∀ j, j < m0 → j ∈ b.2 → (b.2.map fun y => ys.getD y 0).contains j = true) → T.head? = some m0 := fun m0 h1 h2 h3 => by
    rw [hT2, List.head?_filter, List.find?_range_eq_some]
    refine ⟨by rw [h2, (inB m0 (B.lt hb h1)).mpr h1]; rfl, List.mem_range.mpr (B.lt hb h1), fun j hj => ?_⟩
    have hjn : j < ys.length := Nat.lt_trans hj (B.lt hb h1)
    by_cases hjb : j ∈ b.2
    · rw [h3 j hj hjb]
      simp
    · have : decide (beta bs j = mn b.2) = false := by
        cases h : decide (beta bs j = mn b.2) with
        | false => rfl
        | true => exact absurd ((inB j hjn).mp h) hjb
      rw [this]
      rfl
  have none : (∀ x ∈ b.2, (b.2.map fun y => ys.getD y 0).contains x = true) → T = [] := fun h => by
    rw [hT2, List.filter_eq_nil_iff]
    intro x hx
    have hxn := List.mem_range.mp hx
    by_cases hxb : x ∈ b.2
    · rw [h x hxb]
      simp
    · intro z
      rw [Bool.and_eq_true] at z
      exact hxb ((inB x hxn).mp z.1)
  obtain ⟨w, ms⟩ := b
  dsimp only at *
  generalize hg : (fun y => ys.getD y 0) = g at C tail none
  clear hT hT2 sh
  cases C with
  | free a h1 =>
    have t := none (by simp [h1])
    exact ⟨fun _ => root rfl, fun h => absurd t h⟩
  | pair a b h1 h2 =>
    have t := none (by simp [h1, h2])
    have := K.pair rfl
    simp at this
    exact ⟨fun _ => root (by simp [mn]; omega), fun h => absurd t h⟩
  | wheel a b c d h1 h2 h3 h4 =>
    have t := none (by simp [h1, h2, h3, h4])
    exact ⟨fun _ => root (K.wheel rfl), fun h => absurd t h⟩
  | claim a b h1 h2 =>
    simp at nd
    have t := tail a (by simp) (by simp [h1, h2]; omega) (fun j hj hm => by simp at hm; simp [h1, h2]; omega)
    exact ⟨fun h => (by rw [h] at t; simp at t), fun _ => t⟩
  | hook c a b h1 h2 h3 =>
    simp at nd
    have t := tail c (by simp) (by simp [h1, h2, h3]; omega) (fun j hj hm => by simp at hm; simp [h1, h2, h3]; omega)
    exact ⟨fun h => (by rw [h] at t; simp at t), fun _ => t⟩
  | relay c a b h1 h2 h3 =>
    simp at nd
    have t := tail c (by simp) (by simp [h1, h2, h3]; omega) (fun j hj hm => by simp at hm; simp [h1, h2, h3]; omega)
    exact ⟨fun h => (by rw [h] at t; simp at t), fun _ => t⟩
  | clamp d a b c h1 h2 h3 h4 =>
    simp at nd
    have kk := K.clamp rfl
    simp at kk
    have t := tail d (by simp) (by simp [h1, h2, h3, h4]; omega) (fun j hj hm => by simp at hm; simp [h1, h2, h3, h4]; omega)
    exact ⟨fun h => (by rw [h] at t; simp at t), fun _ => t⟩
  | trail d c a b h1 h2 h3 h4 =>
    simp at nd
    have t := tail d (by simp) (by simp [h1, h2, h3, h4]; omega) (fun j hj hm => by simp at hm; simp [h1, h2, h3, h4]; omega)
    exact ⟨fun h => (by rw [h] at t; simp at t), fun _ => t⟩
end
end Pm

namespace L2
open PySem PySem.Spec PyProof.Rows
/-! ### a table of the text keyed by tuples of ints -/
def numK (ks : List Nat) : NestedKey := .tup (ks.map fun k : Nat => NestedKey.num (k : Int))
/-- at a, in the written part: a table of the given keys and texts -/
def TabK (P : Program) (w : World) (K : PySem.W.Frag) (a : Addr) (kvs : List (List Nat × Str)) : Prop := (a == sysModules) = false ∧
  ∃ ts : List Tok, ∀ h : Heap, K.In h → h.DictKeyed (nestedKind P w) a ((kvs.zip ts).map fun x => (numK x.1.1, Value.str x.1.2 x.2)) ∧ ts.length = kvs.length
theorem numK_depth : ∀ ks : List Nat, (numK ks).depth ≤ 8 := fun ks => by
  have h : ∀ l : List Nat, NestedKey.depthAll (l.map fun k : Nat => NestedKey.num (k : Int)) ≤ 1 := fun l => by
    induction l with
    | nil => simp [NestedKey.depthAll]
    | cons a l ih =>
      simp only [List.map_cons, NestedKey.depthAll, NestedKey.depth]
      omega
  have := h ks
  unfold numK
  simp only [NestedKey.depth]
  omega
theorem numAll_of {h : Heap} : ∀ {ks : List Nat} {us : List Value}, Vals (ks.map fun k : Nat => V.int (k : Int)) us → NestedAll h (ks.map fun k : Nat => NestedKey.num (k : Int)) us
  | [], _, r => by cases r; exact .nil
  | k :: ks, _, r => by
    cases r with
    | cons r1 r2 =>
      obtain ⟨t, e⟩ := r1
      rw [e]
      exact .cons (.int _ t) (numAll_of r2)
/-- d.get(t) of such a table, the key there -/
def tTabGet (P : Program) (w : World) (K : PySem.W.Frag) (td te : TE) : TE := fun σ H Q => td σ H fun x H1 => ∃ (a : Addr) (kvs : List (List Nat × Str)), x = .ref a ∧ TabK P w K a kvs ∧ te σ H1 fun y H2 => ∃ (p : Addr) (ks : List Nat) (z : Str), y = .ref p ∧ H2 p = some (.tup (ks.map fun k : Nat => V.int (k : Int))) ∧
  (∃ i, kvs[i]? = some (ks, z) ∧ ∀ (j : Nat) (q : List Nat × Str), j < i → kvs[j]? = some q → q.1 ≠ ks) ∧ Q (.str z) H2
theorem numK_inj {a b : List Nat} (h : numK a = numK b) : a = b := by
  unfold numK at h
  injection h with h
  have g : ∀ {l m : List Nat}, (l.map fun k : Nat => NestedKey.num (k : Int)) = (m.map fun k : Nat => NestedKey.num (k : Int)) → l = m := by
    intro l
    induction l with
    | nil =>
      intro m e
      cases m with
      | nil => rfl
      | cons _ _ => cases e
    | cons a l ih =>
      intro m e
      cases m with
      | nil => cases e
      | cons b m =>
        rw [List.map_cons, List.map_cons] at e
        injection e with e1 e2
        injection e1 with e1
        have : a = b := by omega
        rw [this, ih e2]
  exact g h
theorem tab_find {ks : List Nat} {z : Str} : ∀ {kvs : List (List Nat × Str)} {ts : List Tok} {i : Nat}, ts.length = kvs.length → kvs[i]? = some (ks, z) → (∀ (j : Nat) (q : List Nat × Str), j < i → kvs[j]? = some q → q.1 ≠ ks) →
    ∃ t : Tok, valueAt ((kvs.zip ts).map fun x => (numK x.1.1, Value.str x.1.2 x.2)) (numK ks) = some (Value.str z t)
  | [], _, i, _, h, _ => by simp at h
  | _ :: _, [], _, hl, _, _ => by simp at hl
  | (k0, z0) :: kvs, t0 :: ts, 0, _, h, _ => by
    have e := Option.some.inj h
    cases e
    exact ⟨t0, by simp [valueAt]⟩
  | (k0, z0) :: kvs, t0 :: ts, i + 1, hl, h, hn => by
    have ne : k0 ≠ ks := hn 0 (k0, z0) (Nat.succ_pos _) rfl
    have ne2 : ¬ numK k0 = numK ks := fun e => ne (numK_inj e)
    obtain ⟨t, e⟩ := tab_find (ks := ks) (z := z) (kvs := kvs) (ts := ts) (i := i) (by simpa using hl) (by simpa using h) fun j q hj hq => hn (j + 1) q (by omega) (by simpa using hq)
    refine ⟨t, ?_⟩
    unfold valueAt at e ⊢
    rw [List.zip_cons_cons, List.map_cons, List.find?_cons_of_neg (by simpa using ne2)]
    exact e
theorem pe_tabGet {X : Cx} {o e : Expr} {td te : TE} {apos cpos : Pos} (hu : X.A.units + 64 < cLine) (ho : PE X o td) (he : PE X e te) (m : M1 X o "get" apos e cpos) : PE X (.Call (.Attribute o "get" apos) [e] [] cpos) (tTabGet X.prog X.w X.K td te) := by
  refine ⟨fun pins s σ H Q I h => ?_⟩
  refine wpAny_Call_method m.base m.few m.line PySem.F.plainAttrs_dict PySem.F.slot_dict_get PySem.F.type_dict_get (thn (ho.run pins s σ H _ I h) fun u s1 ⟨x, H1, I1, rx, a, kvs, ex, ⟨hsm, ts, hT⟩, q1⟩ => ?_)
  subst ex
  obtain rfl : u = Value.ref a := rx
  obtain ⟨hD, _⟩ := hT _ I1.kIn
  have hD' := hD
  obtain ⟨xs, ⟨ob, es, ep, hob, hcl, hdat, _⟩, _⟩ := hD'
  refine ⟨hD.typeIs, fun b q => by cases q; exact ⟨ob, hob, hcl.2.1⟩, ?_⟩
  rw [m.trees]
  refine Calls.callWith_builtin rfl (Calls.evalArgs_plain (Calls.spliced_cons (thn (he.run pins s1 σ H1 _ I1 q1) fun iv s2 ⟨y, H2, I2, ry, p, ks, z, ey, hp, ⟨i, hi, hlt⟩, q2⟩ => Calls.spliced_nil ?_)))
  subst ey
  obtain rfl : iv = Value.ref p := ry
  obtain ⟨_, its, rv, ot, h1, h2, n, h3⟩ := (show ObjOk X.prog X.w H2 s2.heap p (.tup (ks.map fun k : Nat => V.int (k : Int))) from I2.hok p _ hp)
  obtain ⟨hD2, hlen⟩ := hT _ I2.kIn
  obtain ⟨t, ht⟩ := tab_find hlen hi hlt
  have hk : (nestedKind X.prog X.w).is s2.heap (numK ks) p := ⟨.tup h1 h2 h3 (by simpa using numAll_of (h := s2.heap) rv), numK_depth ks⟩
  refine get_keyed (knd := nestedKind X.prog X.w) (show X.A.in1.units + 8 < cLine by show X.A.units + 1 + 8 < cLine; omega) hk hsm hD2 ?_
  rw [ht]
  exact ⟨.str z, H2, I2.tok _, ⟨t, rfl⟩, q2⟩
/-! ### list(d.values()), list(d.keys()) -/
def tListVals (te : TE) : TE := fun σ H Q => te σ H fun x H1 => ∃ (d : Addr) (kvs : List (Key × V)), x = .ref d ∧ H1 d = some (.dK kvs) ∧ ∀ p, H1 p = none → Q (.ref p) (upd H1 p (.lst (kvs.map (·.2))))
def tListKeys (te : TE) : TE := fun σ H Q => te σ H fun x H1 => ∃ (d : Addr) (kvs : List (Key × V)), x = .ref d ∧ H1 d = some (.dK kvs) ∧ ∀ p, H1 p = none → Q (.ref p) (upd H1 p (.lst (kvs.map fun kv => kV kv.1)))
theorem vals_items {P : Nat → Value → Prop} : ∀ {xs : List V} {us : List Value} (k : Nat), us.length = xs.length → (∀ j v, us[j]? = some v → P (k + j) v) → (∀ j x v, xs[j]? = some x → P (k + j) v → RelV x v) → Vals xs us
  | [], [], _, _, _, _ => .nil
  | [], _ :: _, _, h, _, _ => by simp at h
  | _ :: _, [], _, h, _, _ => by simp at h
  | x :: xs, u :: us, k, h, h1, h2 => .cons (h2 0 x u rfl (h1 0 u rfl)) (vals_items (P := P) (k + 1) (by simpa using h) (fun j v e => by
      have := h1 (j + 1) v (by simpa using e)
      rw [show k + (j + 1) = k + 1 + j by omega] at this
      exact this) fun j y v e p => h2 (j + 1) y v (by simpa using e) (by rw [show k + (j + 1) = k + 1 + j by omega]; exact p))
section
variable {X : Cx} {e : Expr} {te : TE} {p apos cpos pos : Pos}
theorem pe_listVals (hc : X.calm = true) (he : PE X e te) (hg : Gl X "list") (hm : X.mg "list" = none) (hbase : attributeBase e "values" X.env (eval e X.env) = eval e X.env := by rfl) (hline : (apos.endLine == cpos.line) = true := by rfl)
    (hs : starEach [.Call (.Attribute e "values" apos) [] [] cpos] X.env = (false, eval (.Call (.Attribute e "values" apos) [] [] cpos) X.env) :: starEach [] X.env := by rfl) :
    PE X (.Call (.Name "list" p) [.Call (.Attribute e "values" apos) [] [] cpos] [] pos) (tListVals te) := by
  refine ⟨fun pins s σ H Q I hq => ?_⟩
  refine wpAny_Call_Name_kw (ld_blt I hg hm (by decide +kernel : bootBuiltins "list" = some (.type "list")) ?_)
  refine PyProof.Rows.callWith_type1 ?_ hs rfl
  rw [hs]
  show wpAny _ _ (spliced ((false, eval (.Call (.Attribute e "values" apos) [] [] cpos) X.env) :: backTo pos (starEach [] X.env))) _ _ s
  refine Calls.spliced_cons ?_
  refine wpAny_Call_method (T := "dict") (id := "dict.values") hbase rfl hline F.plainAttrs_dict F.slot_dict_values F.type_dict_values (thn (he.run pins s σ H _ I hq) fun u s1 ⟨x, H1, I1, rx, d, kvs, ex, hd, q⟩ => ?_)
  subst ex
  obtain rfl : u = Value.ref d := rx
  obtain ⟨hz, hs0, vs, kv, hdo⟩ := I1.hok d _ hd
  obtain ⟨ep, hat⟩ := hdo.dictAt
  have lk : kvs.length = vs.length := Paired.length kv
  refine ⟨hdo.typeIs, hdo.mapOf.noDict, ?_⟩
  show wpAny _ _ (callWith cpos (.builtin "dict.values") [.ref d] [] []) _ X.xe s1
  refine method_meetsIn F.slot_dict_values F.entry_dict_values rfl (PySem.evalArgs_none ⟨rfl, hdo.typeIs, F.args_dict_values_1 _, _, meets_dict_values (mixKind X.prog X.w) d hs0, ⟨vs, hdo⟩, ?_⟩)
  refine Calls.spliced_nil ?_
  refine PySem.W.kdl_call (PySem.W.kdl_values (knd := mixKind X.prog X.w) (kvs := vs) (ep := ep) (r := s1.heap.objs.size)) (I1.ok.hd hc) ⟨⟨_, Heap.get?_push_size _ rfl, rfl, rfl⟩, hat.push _⟩ (by omega) fun h' tk acc c hk hS hI => ?_
  have keep : ∀ b o, s1.heap.get? b = some o → h'.get? b = some o := fun b o z => hk b o (Heap.get?_push_of_some _ z)
  have hl : acc.toList.length = (kvs.map (·.2)).length := by rw [Array.length_toList, List.length_map, hI.1]; omega
  have rv : Vals (kvs.map (·.2)) acc.toList := vals_items (P := fun i v => ∃ k, vs[i]? = some (k, v)) 0 hl (fun j v z => by rw [Nat.zero_add]; exact hI.2 j v (by rw [← Array.getElem?_toList]; exact z)) fun j y v z ⟨k, w'⟩ => by
    rw [Nat.zero_add] at w'
    obtain ⟨q0, g1, g2⟩ : ∃ q0, kvs[j]? = some q0 ∧ y = q0.2 := by
      rw [List.getElem?_map] at z
      cases h : kvs[j]? with
      | none => rw [h] at z; cases z
      | some q0 => rw [h] at z; exact ⟨q0, rfl, (Option.some.inj z).symm⟩
    obtain ⟨pk, e2, e3⟩ := LiI.paired_get kv g1
    rw [w'] at e2
    cases e2
    rw [g2]
    exact e3.2
  refine ⟨.ref _, upd H1 _ (.lst (kvs.map (·.2))), I1.laid (t' := tk) keep (Nat.le_succ _ |> fun z => by rw [Heap.size_push]; exact z) ⟨by rw [List.length_map]; omega, acc.toList, c, rv, by simpa using hS⟩, rfl, q _ (I1.hok.fresh (by rw [Heap.size_push]; exact Nat.le_succ _))⟩
theorem pe_listKeys (hc : X.calm = true) (he : PE X e te) (hg : Gl X "list") (hm : X.mg "list" = none) (hbase : attributeBase e "keys" X.env (eval e X.env) = eval e X.env := by rfl) (hline : (apos.endLine == cpos.line) = true := by rfl)
    (hs : starEach [.Call (.Attribute e "keys" apos) [] [] cpos] X.env = (false, eval (.Call (.Attribute e "keys" apos) [] [] cpos) X.env) :: starEach [] X.env := by rfl) :
    PE X (.Call (.Name "list" p) [.Call (.Attribute e "keys" apos) [] [] cpos] [] pos) (tListKeys te) := by
  refine ⟨fun pins s σ H Q I hq => ?_⟩
  refine wpAny_Call_Name_kw (ld_blt I hg hm (by decide +kernel : bootBuiltins "list" = some (.type "list")) ?_)
  refine PyProof.Rows.callWith_type1 ?_ hs rfl
  rw [hs]
  show wpAny _ _ (spliced ((false, eval (.Call (.Attribute e "keys" apos) [] [] cpos) X.env) :: backTo pos (starEach [] X.env))) _ _ s
  refine Calls.spliced_cons ?_
  refine wpAny_Call_method (T := "dict") (id := "dict.keys") hbase rfl hline F.plainAttrs_dict F.slot_dict_keys F.type_dict_keys (thn (he.run pins s σ H _ I hq) fun u s1 ⟨x, H1, I1, rx, d, kvs, ex, hd, q⟩ => ?_)
  subst ex
  obtain rfl : u = Value.ref d := rx
  obtain ⟨hz, hs0, vs, kv, hdo⟩ := I1.hok d _ hd
  obtain ⟨ep, hat⟩ := hdo.dictAt
  have lk : kvs.length = vs.length := Paired.length kv
  refine ⟨hdo.typeIs, hdo.mapOf.noDict, ?_⟩
  show wpAny _ _ (callWith cpos (.builtin "dict.keys") [.ref d] [] []) _ X.xe s1
  refine method_meetsIn F.slot_dict_keys F.entry_dict_keys rfl (PySem.evalArgs_none ⟨rfl, hdo.typeIs, F.args_dict_keys_1 _, _, PySem.W.kdl_meets_keys (mixKind X.prog X.w) d hs0, ⟨vs, hdo⟩, ?_⟩)
  refine Calls.spliced_nil ?_
  refine PySem.W.kdl_call (PySem.W.kdl_keys (knd := mixKind X.prog X.w) (kvs := vs) (ep := ep) (r := s1.heap.objs.size)) (I1.ok.hd hc) ⟨⟨_, Heap.get?_push_size _ rfl, rfl, rfl⟩, hat.push _⟩ (by omega) fun h' tk acc c hk hS hI => ?_
  have keep : ∀ b o, s1.heap.get? b = some o → h'.get? b = some o := fun b o z => hk b o (Heap.get?_push_of_some _ z)
  have hl : acc.toList.length = (kvs.map fun kv => kV kv.1).length := by rw [Array.length_toList, List.length_map, hI.1]; omega
  have rv : Vals (kvs.map fun kv => kV kv.1) acc.toList := vals_items (P := fun i v => ∃ k x, vs[i]? = some (k, x) ∧ (mixKind X.prog X.w).is k v = true) 0 hl (fun j v z => by rw [Nat.zero_add]; exact hI.2 j v (by rw [← Array.getElem?_toList]; exact z)) fun j y v z ⟨k, x, w', w2⟩ => by
    rw [Nat.zero_add] at w'
    obtain ⟨q0, g1, g2⟩ : ∃ q0, kvs[j]? = some q0 ∧ y = kV q0.1 := by
      rw [List.getElem?_map] at z
      cases h : kvs[j]? with
      | none => rw [h] at z; cases z
      | some q0 => rw [h] at z; exact ⟨q0, rfl, (Option.some.inj z).symm⟩
    obtain ⟨pk, e2, e3⟩ := LiI.paired_get kv g1
    rw [w'] at e2
    cases e2
    rw [g2]
    rw [e3.1]
    exact relV_key (show keyIs k v = true from w2)
  refine ⟨.ref _, upd H1 _ (.lst (kvs.map fun kv => kV kv.1)), I1.laid (t' := tk) keep (Nat.le_succ _ |> fun z => by rw [Heap.size_push]; exact z) ⟨by rw [List.length_map]; omega, acc.toList, c, rv, by simpa using hS⟩, rfl, q _ (I1.hok.fresh (by rw [Heap.size_push]; exact Nat.le_succ _))⟩
end
end L2

namespace SrtO
open PySem PyProof.Rows PySem.W
/-- a tuple of two ints and an object -/
def IsRow (h : Heap) (v : Value) (x : Int) : Prop := ∃ a o t y u c n, v = .ref a ∧ h.get? a = some o ∧ o.cls = .type "tuple" ∧ o.data = .seq #[.int x t, .int y u, .ref c] n
theorem IsRow.keeps {h h' : Heap} {v : Value} {x : Int} (p : IsRow h v x) (k : ∀ b o, h.get? b = some o → o.cls = .type "tuple" → h'.get? b = some o) : IsRow h' v x := by
  obtain ⟨a, o, t, y, u, c, n, e, ho, hc, hd⟩ := p
  exact ⟨a, o, t, y, u, c, n, e, k _ _ ho hc, hc, hd⟩
theorem row_firsts {h : Heap} : ∀ {vs : List Value}, (∀ v ∈ vs, ∃ x, IsRow h v x) → ∃ fs : List Value, PySem.W.KatTups h vs fs ∧ fs.length = vs.length ∧ ∀ f ∈ fs, ∃ x t, f = Value.int x t
  | [], _ => ⟨[], PySem.W.KatTups.nil, rfl, fun _ hm => by simp at hm⟩
  | v :: vs, hv => by
    obtain ⟨fs, h1, h2, h3⟩ := row_firsts (h := h) (vs := vs) fun w hw => hv w (List.mem_cons_of_mem _ hw)
    obtain ⟨x, a, o, t, y, u, c, n, e, ho, hc, hd⟩ := hv v List.mem_cons_self
    subst e
    refine ⟨.int x t :: fs, .cons ho hc hd rfl h1, by simp [h2], fun f hf => ?_⟩
    rcases List.mem_cons.mp hf with e | hf
    · exact ⟨x, t, e⟩
    · exact h3 f hf
theorem swo_key (k : Value → Int) : Swo fun v u => decide (k v < k u) := by
  refine ⟨fun x y h => ?_, fun x y z h1 h2 => ?_⟩
  · have a := of_decide_eq_true h
    exact decide_eq_false (by omega)
  · have a := of_decide_eq_false h1
    have b := of_decide_eq_false h2
    exact decide_eq_false (by omega)
section
variable {prog : Program} {w : World} {A : Around} {E : Value → Shared → Prop} {s : Shared}
theorem row_cmp {vs : List Value} {k : Value → Int} (hp : ∀ v ∈ vs, IsRow s.heap v (k v)) (hi : ∀ v ∈ vs, ∀ u ∈ vs, k v = k u → v = u) : Cmp prog w A s (tuples' true) (fun p => p.1 ∈ vs) (lt2 fun v u => decide (k v < k u)) := by
  intro p q hm hm'
  have h1 := hp _ hm
  have h2 := hp _ hm'
  have h3 := hi _ hm _ hm'
  show wpAny (model prog w) A (keyLt' (tuples' true) p.1 q.1) (fun r s' => s' = s ∧ r = decide (k p.1 < k q.1)) (fun _ _ => False) s
  generalize k p.1 = x at h1 h3 ⊢
  generalize k q.1 = x' at h2 h3 ⊢
  obtain ⟨a, o, t, y, u, c, n, e, ho, hc, hd⟩ := h1
  obtain ⟨a', o', t', y', u', c', n', e', ho', hc', hd'⟩ := h2
  rw [e, e'] at h3 ⊢
  refine PySem.W.kat_lt ho hd ho' hd' ?_
  show PySem.W.KatLex prog w A true (decide (3 < 3)) _ [(.int x t, .int x' t'), (.int y u, .int y' u'), (.ref c, .ref c')] 0 s
  refine PySem.W.kat_cons (SeqAt.EqAt.int_int x t x' t' prog w _ _ ?_)
  refine PySem.W.kat_go (fun e1 => ?_) (fun e1 => ?_)
  · have ex : x = x' := by simpa using e1
    have ea : a = a' := Value.ref.inj (h3 ex)
    subst ea
    rw [ho] at ho'
    have eo := Option.some.inj ho'
    subst eo
    rw [hd] at hd'
    injection hd' with ed _
    have ey : y = y' := by
      have z := congrArg (fun a : Array Value => a[1]?) ed
      simp at z
      exact z.1
    have ec : c = c' := by
      have z := congrArg (fun a : Array Value => a[2]?) ed
      simpa using z
    subst ec
    refine PySem.W.kat_yes (PySem.W.kat_cons (SeqAt.EqAt.int_int y u y' u' prog w _ _ ?_))
    refine PySem.W.kat_go (fun e2 => ?_) (fun e2 => ?_)
    · refine PySem.W.kat_yes (PySem.W.kat_cons (SeqAt.EqAt.same (.ref c) prog w _ _ ?_))
      refine PySem.W.kat_go (fun _ => ?_) (fun z => nomatch z)
      refine PySem.W.kat_yes (PySem.W.kat_nil ⟨rfl, ?_⟩)
      rw [ex]
      exact (decide_eq_false (by omega)).symm
    · exact absurd ey (by simpa using e2)
  · have ex : ¬ x = x' := by simpa using e1
    exact PySem.W.kat_no (oneLt_int ⟨rfl, rfl⟩)
theorem rows_sortableO {a : Addr} {vs : List Value} {k : Value → Int} (h0 : 0 < vs.length) (hp : ∀ v ∈ vs, IsRow s.heap v (k v)) (hi : ∀ v ∈ vs, ∀ u ∈ vs, k v = k u → v = u) (ha : ∀ o, s.heap.get? a = some o → o.cls ≠ .type "tuple") : SortableO prog w A s a vs fun v u => decide (k v < k u) := by
  intro h' keep
  have hp' : ∀ v ∈ vs, IsRow h' v (k v) := fun v hm => (hp v hm).keeps fun b o e c => keep b o (fun z => by subst z; exact ha o e c) e
  obtain ⟨fs, h1, h2, h3⟩ := row_firsts fun v hm => ⟨_, hp' v hm⟩
  refine ⟨tuples' true, fun Q E hq => ?_, row_cmp hp' hi⟩
  refine PySem.W.kat_kind (T := .type "int") h1 (by omega) (fun f hm => ?_) (by rfl) ?_
  · obtain ⟨x, t, rfl⟩ := h3 f hm
    exact PySem.W.Looks.now
  · have e : (Value.type "int" != Value.type "tuple") = true := by first | decide +kernel | rfl | decide
    rw [e]
    exact hq
theorem sorted_rowsO {l : Addr} {vs : List Value} {k : Value → Int} {Q : Value → Shared → Prop} (hl : s.heap.IsList l vs.toArray) (hz : vs.length ≤ sizeLine) (hp : ∀ v ∈ vs, IsRow s.heap v (k v)) (hi : ∀ v ∈ vs, ∀ u ∈ vs, k v = k u → v = u)
    (h : ∀ (h' : Heap) (d : Addr) (out : List Value), Srtd (fun v u => decide (k v < k u)) out → Stb (fun v u => decide (k v < k u)) out vs → (∀ b o, s.heap.get? b = some o → h'.get? b = some o) → s.heap.objs.size ≤ d → (∃ n, h'.get? d = some (seqObj "list" out.toArray n)) → Q (.ref d) { s with heap := h' }) :
    wpAny (model prog w) A (call (.builtin "sorted") [.ref l]) Q E s := by
  refine sorted_ord (swo_key k) hl hz (fun h2 h₁ a ha kk => ?_) fun out hs hb => ?_
  · refine rows_sortableO (s := { s with heap := h₁ }) (by omega) (fun v hm => (hp v hm).keeps fun b o e _ => (kk b o e).2) hi fun o e => ?_
    have e' : some o = some (seqObj "list" vs.toArray 0) := e.symm.trans ha
    cases e'
    intro c
    exact absurd (Value.type.inj c) (by decide)
  · exact h _ _ out hs hb (fun b o e => sortedAll_old e) (Nat.le_succ _) (sortedAll_at s.heap vs out.toArray)
end
end SrtO
namespace L2
open PySem PySem.Spec PyProof.Rows
def rSortedR (K : PySem.W.Frag) : List V → Hp → VK → Prop := fun vs H Q => ∃ (a : Addr) (rs : List Addr) (k : Addr → Int), vs = [V.ref a] ∧ SqL K H a (rs.map V.ref) ∧ (∀ r ∈ rs, ∃ (y : Int) (c : Addr), H r = some (.tup [.int (k r), .int y, .ref c])) ∧
  (∀ r ∈ rs, ∀ r' ∈ rs, k r = k r' → r = r') ∧ ∀ (rs' : List Addr) (p : Addr), rs'.Perm rs → rs'.Pairwise (fun a b => k a ≤ k b) → H p = none → Q (.ref p) (upd H p (.lst (rs'.map V.ref)))
theorem vals_refs_eq : ∀ {rs : List Addr} {us : List Value}, Vals (rs.map V.ref) us → us = rs.map Value.ref
  | [], _, r => by cases r; rfl
  | a :: rs, _, r => by
    cases r with
    | cons r1 r2 =>
      rw [vals_refs_eq r2]
      cases r1
      rfl
def addrV : Value → Addr
  | .ref a => a
  | _ => 0
theorem cr_sortedR {X : Cx} : CallR X (.builtin "sorted") (rSortedR X.K) := by
  intro pins s σ H vs us Q I r h
  obtain ⟨a, rs, k, rfl, hs, hx, hi, q⟩ := h
  obtain ⟨its, rv, hl, hz⟩ := I.list hs
  obtain ⟨u, rfl, ru⟩ := vals1 r
  obtain rfl : u = Value.ref a := ru
  have ei := vals_refs_eq rv
  subst ei
  refine SrtO.sorted_rowsO (k := fun u => k (addrV u)) hl.isList (by rw [List.length_map] at *; exact hz) (fun v hv => ?_) (fun v hv u hu e => ?_) fun h' d out h1 h2 kp hd hn => ?_
  · obtain ⟨t, ht, rfl⟩ := List.mem_map.mp hv
    obtain ⟨y, c, e⟩ := hx t ht
    obtain ⟨_, its2, r2, o, ho, hc, n, hdt⟩ := (show ObjOk X.prog X.w H s.heap t (.tup [.int (k t), .int y, .ref c]) from I.hok _ _ e)
    cases r2 with
    | cons a1 r2 =>
      cases r2 with
      | cons a2 r2 =>
        cases r2 with
        | cons a3 r2 =>
          cases r2
          obtain ⟨t1, rfl⟩ := a1
          obtain ⟨t2, rfl⟩ := a2
          cases a3
          exact ⟨t, o, t1, y, t2, c, n, rfl, ho, hc, hdt⟩
  · obtain ⟨t, ht, rfl⟩ := List.mem_map.mp hv
    obtain ⟨t', ht', rfl⟩ := List.mem_map.mp hu
    rw [hi t ht t' ht' e]
  · obtain ⟨n, hn⟩ := hn
    have hp := h2.perm
    have eo : out = (out.map addrV).map Value.ref := by
      rw [List.map_map]
      have : ∀ u ∈ out, Value.ref (addrV u) = u := fun u hu => by
        obtain ⟨t, _, rfl⟩ := List.mem_map.mp (hp.mem_iff.mp hu)
        rfl
      conv => lhs; rw [← List.map_id out]
      exact List.map_congr_left fun u hu => (this u hu).symm
    have hp2 : (out.map addrV).Perm rs := by
      have z := hp.map addrV
      rw [List.map_map] at z
      have id : (rs.map (addrV ∘ Value.ref)) = rs := by
        conv => rhs; rw [← List.map_id rs]
        rfl
      rw [id] at z
      exact z
    have hs2 : (out.map addrV).Pairwise (fun a b => k a ≤ k b) := by
      rw [List.pairwise_map]
      refine List.Pairwise.imp (fun {a b} h => ?_) h1
      have := of_decide_eq_false h
      omega
    refine ⟨.ref d, upd H d (.lst ((out.map addrV).map V.ref)), I.laid (t' := s.toks) kp hd ⟨?_, out, n, ?_, hn⟩, rfl, q _ d hp2 hs2 (I.hok.fresh hd)⟩
    · rw [List.length_map, hp2.length_eq]
      rw [List.length_map] at hz
      exact hz
    · rw [eo]
      have g : ∀ l : List Addr, Vals (l.map V.ref) (l.map Value.ref) := fun l => by
        induction l with
        | nil => exact .nil
        | cons a l ih => exact .cons rfl ih
      rw [← eo]
      conv => arg 2; rw [eo]
      exact g _
/-- list.index within a comprehension -/
theorem pe_indexK {X : Cx} {K : PySem.W.Frag} (h : X.K = K) {o e : Expr} {to te : TE} {apos cpos : Pos} (p : PE X (.Call (.Attribute o "index" apos) [e] [] cpos) (tBM X.K "list" (rIndex X.K) to (tCons te tNil))) : PE X (.Call (.Attribute o "index" apos) [e] [] cpos) (tBM K "list" (rIndex K) to (tCons te tNil)) := by
  subst h
  exact p
theorem op_notInK {X : Cx} {K : PySem.W.Frag} (h : X.K = K) : OpR X (compareOp .NotIn) (rIn K true) := by
  subst h
  exact op_notIn_seq
end L2

namespace L2
open PySem PySem.Spec PyProof.Rows
section
variable {X : Cx}
/-- a name of the def's own, on the line of the comprehension: stored within its frame -/
theorem swd_true {kx vx : Expr} {gs : List Comprehension} {scope : Scope} {pos py : Pos} {y : Str} {l : Nat} {env : Env} (e1 : env.scope.kind = .function) (e2 : env.scope.names.lookup y = some .local) (e3 : (py.line == pos.line) = true)
    (e4 : (scope.names.any fun (n, k) => n == y && (k == .local || k == .cell)) = false) : swapsWith (.DictComp kx vx gs scope pos) (some (.Name y py)) l env = pure true := by
  have a1 : env.kindOf y = some .local := e2
  have a2 : env.blockKind = .function := (by unfold Env.blockKind; rw [e1]; rfl)
  unfold swapsWith
  simp only [a2, a1, e4, Expr.pos, e3]
  rfl
/-- y = {k: v for x in xs} -/
theorem ps_setDc {i : Nat} {y : Str} {py pos spos : Pos} {kx vx tg iter : Expr} {ifs : List Expr} {scope : Scope} {own : List (Str × Nat)} {wi : TI} {g : TG} {tt : TT} {tk tv : TE} (calm : X.calm = true) (nd : X.N.Nodup) (at_y : X.N[i]? = some y) (loc : X.env.scope.names.lookup y = some .local)
    (sw : swapsWith (.DictComp kx vx [⟨tg, iter, ifs, 0⟩] scope pos) (some (.Name y py)) spos.line X.env = pure true) (walk : PI X tg iter wi) (ok : BlkOk X.N X.env.scope scope own)
    (rg : ∀ (s : Shared) (H : Hp) (C : Addr) (cl : List (Str × Addr)) (fp : List Addr), PG (X.blk s H scope (compEnvC scope cl C X.env) fp) tg g)
    (rt : ∀ (s : Shared) (H : Hp) (C : Addr) (cl : List (Str × Addr)) (fp : List Addr), PTs (X.blk s H scope (compEnvC scope cl C X.env) fp) ifs tt)
    (rk : ∀ (s : Shared) (H : Hp) (C : Addr) (cl : List (Str × Addr)) (fp : List Addr), PE (X.blk s H scope (compEnvC scope cl C X.env) fp) kx tk)
    (rv : ∀ (s : Shared) (H : Hp) (C : Addr) (cl : List (Str × Addr)) (fp : List Addr), PE (X.blk s H scope (compEnvC scope cl C X.env) fp) vx tv)
    (fold : ∀ x, foldedSetIterable iter X.env x = pure x := by intro _; rfl) :
    PS X (.Assign [.Name y py] (.DictComp kx vx [⟨tg, iter, ifs, 0⟩] scope pos) spos) (tAsg (tDc wi g tt tk tv (own.map (·.2))) (gName i)) := by
  constructor
  intro pins s σ H D I q
  have q : tDc wi g tt tk tv (own.map (·.2)) σ H (fun x H1 => gName i x σ H1 D.nx) := q
  rw [exec_Assign_Name_used _ _ _ _ sw]
  apply wpAny_bind
  apply wpAny_standAt
  apply wpAny_bind
  show wpAny _ X.A (do let _ ← comprehension (.DictComp kx vx [⟨tg, iter, ifs, 0⟩] scope pos) scope X.env (firstIterPos [⟨tg, iter, ifs, 0⟩] pos) newDict false (eval iter X.env) (some (assign (.Name y py) X.env))) _ _ s
  apply wpAny_bind
  refine thn (dc_core (Qf := fun _ s' => SP X pins D .next s') calm nd I walk ok rg rt rk rv fold q ?_) fun _ _ z => wpAny_pure (wpAny_pure z)
  intro d c t n H2 J nx ns fr
  show wpAny _ _ (assign (.Name y py) X.env (.ref d)) _ _ _
  refine wpAny_assign_Name (store_ok2 (v := V.ref d) J nd at_y (.inl loc) rfl ?_ (.inr loc))
  rintro u JU ⟨b, same, which⟩
  obtain ⟨r0, r1, r2, r3, r4, r5⟩ := fr
  have far : c ≠ b := by
    cases which with
    | inl z => exact z ▸ r1
    | inr z => exact fun e => r4 y b z e.symm
  exact ⟨n, ns.sameBut same far, fun _ rest => ⟨_, H2, JU.turned (t' := u.toks) (fun a o ha e => (rest.2 a ha).trans e) r0 r1 r3 r4 r5, nx⟩⟩
end
end L2

namespace SrtO
open PySem PyProof.Rows Srt
section
variable {prog : Program} {w : World} {A : Around} {E : Value → Shared → Prop} {s : Shared}
/-- the heap with the items of a tuple in a new list -/
def gath (h : Heap) (its : List Value) : Heap := (h.push (seqObj "list" #[] 0)).update h.objs.size (Obj.mapSeq (· ++ its.toArray))
theorem gath_at (h : Heap) (its : List Value) : ∃ k, (gath h its).get? h.objs.size = some (seqObj "list" its.toArray k) := by
  have e := get?_update_seq (c := "list") (xs := #[]) (n := 0) (Heap.get?_push_size h rfl) (· ++ its.toArray)
  rw [Array.empty_append] at e
  exact ⟨_, e⟩
theorem gath_old {h : Heap} {its : List Value} {b : Addr} {o : Obj} (e : h.get? b = some o) : (gath h its).get? b = some o := by
  unfold gath
  rw [Heap.get?_update_ne _ _ _ _ (Nat.ne_of_lt (Heap.lt_size e))]
  exact Heap.get?_push_of_some _ e
theorem gath_size (h : Heap) (its : List Value) : (gath h its).objs.size = h.objs.size + 1 := by
  unfold gath
  rw [Heap.size_update, size_push']
theorem gather_tup {t : Addr} {o : Obj} {its : List Value} {k : Nat} {Q : List Value → Shared → Prop} (there : s.heap.get? t = some o) (cls : o.cls = .type "tuple") (dat : o.data = .seq its.toArray k) (few : its.length ≤ sizeLine)
    (next : Q its { s with heap := gath s.heap its }) : wpAny (model prog w) A (collect (.ref t)) Q E s := by
  have there' : (s.heap.push (seqObj "list" #[] 0)).get? t = some o := Heap.get?_push_of_some _ there
  have new0 : (s.heap.push (seqObj "list" #[] 0)).get? s.heap.objs.size = some (seqObj "list" #[] 0) := Heap.get?_push_size _ rfl
  unfold collect
  apply wpAny_bind
  refine wpAny_runValue (codeAny_builtin entry_proto_collect' ?_)
  show wpAny _ _ (newList [] >>= fun l => again (.builtin "list.__iadd__" ⟨[l, .ref t], []⟩)) _ _ s
  apply wpAny_bind
  refine wpAny_newList (wpAny_pure ⟨Code.quiet_builtin _ (by decide +kernel), codeAny_builtin entry_list_iadd' ?_⟩)
  show wpAny _ _ (Builtin.List.listExtendWith (.ref s.heap.objs.size) (.ref t) (.ref s.heap.objs.size)) _ _ { s with heap := s.heap.push (seqObj "list" #[] 0) }
  unfold Builtin.List.listExtendWith
  apply wpAny_bind
  refine wpAny_typeOf (T := "tuple") ⟨o, there', cls⟩ ?_
  have isT : (Value.type "tuple" == Value.type "tuple") = true := by rfl
  rw [if_pos (by rw [isT]; simp)]
  refine wpAny_bind (listItems_at there' dat ?_)
  refine wpAny_bind (listItems_at new0 rfl ?_)
  rw [if_neg (by simp)]
  refine wpAny_bind (listUpdate_at new0 rfl ?_ (Nat.zero_le _) (by show (#[] ++ its.toArray).size ≤ sizeLine + 1; simp only [Array.size_append, List.size_toArray, List.length_nil]; omega))
  refine wpAny_pure ?_
  obtain ⟨k2, e⟩ := gath_at s.heap its
  show wpAny (model prog w) A (do
      let o ← load s.heap.objs.size
      match o.data with
      | .seq xs _ => pure xs.toList
      | _ => unsupported "internal:collect") Q E { s with heap := gath s.heap its }
  exact wpAny_bind (wpAny_load e (wpAny_pure next))
/-- sorted(t), t a tuple of ints -/
theorem sorted_tupI {t : Addr} {o : Obj} {its : List Value} {ns : List Int} {k : Nat} {Q : Value → Shared → Prop} (I : IntsAre its ns) (there : s.heap.get? t = some o) (cls : o.cls = .type "tuple") (dat : o.data = .seq its.toArray k) (few : its.length ≤ sizeLine)
    (next : ∀ (out : List Value) (h' : Heap) (e : Nat), Srtd ltIv out → Stb ltIv out its → (∀ b u, s.heap.get? b = some u → h'.get? b = some u) → h'.get? (s.heap.objs.size + 1) = some (seqObj "list" out.toArray e) → Q (.ref (s.heap.objs.size + 1)) { s with heap := h' }) :
    wpAny (model prog w) A (call (.builtin "sorted") [.ref t]) Q E s := by
  refine Calls.call_function_entry kind_sorted plain_sorted entry_sorted (args_sorted1 _) ?_
  unfold Builtin.«sorted»
  refine wpAny_bind (m := checkCount "sorted" 1 1 _) (wpAny_pure ?_)
  refine wpAny_bind (gather_tup there cls dat few ?_)
  refine wpAny_bind (wpAny_newList ?_ few)
  show wpAny _ _ _ _ _ { s with heap := (gath s.heap its).push (seqObj "list" its.toArray 0) }
  have at_l : ((gath s.heap its).push (seqObj "list" its.toArray 0)).get? (gath s.heap its).objs.size = some (seqObj "list" its.toArray 0) := Heap.get?_push_size _ rfl
  refine wpAny_bind (wpAny_holding (wpAny_call_entry slot_list_sort ⟨_, at_l, rfl⟩ entry_list_sort (list_sort_ord swo_int at_l few (fun two => ints_sortable I two) fun out h1 h2 => ⟨_, rfl, ?_⟩) (args_list_sort _)))
  obtain ⟨e, he⟩ := sortedHeap_at (vs := its) (out := out.toArray) at_l
  rw [gath_size] at he ⊢
  refine wpAny_pure ⟨_, rfl, next out _ e h1 h2 (fun b u z => ?_) he⟩
  have lt : b < s.heap.objs.size := Heap.lt_size z
  rw [sortedHeap_old (Nat.ne_of_lt (Nat.lt_succ_of_lt lt)) (by rw [size_push', gath_size]; exact Nat.lt_succ_of_lt (Nat.lt_succ_of_lt lt))]
  exact Heap.get?_push_of_some _ (gath_old z)
end
end SrtO
namespace L2
open PySem PySem.Spec PyProof.Rows
def rSortedTI (K : PySem.W.Frag) : List V → Hp → VK → Prop := fun vs H Q => ∃ (a : Addr) (ns : List Int), vs = [V.ref a] ∧ SqT K H a (ns.map V.int) ∧ ∀ (ns' : List Int) (p : Addr), ns'.Perm ns → ns'.Pairwise (· ≤ ·) → H p = none → Q (.ref p) (upd H p (.lst (ns'.map V.int)))
theorem cr_sortedTI {X : Cx} : CallR X (.builtin "sorted") (rSortedTI X.K) := by
  intro pins s σ H vs us Q I r h
  obtain ⟨a, ns, rfl, hs, q⟩ := h
  obtain ⟨its, rv, ⟨o, ho, hc, k, hd⟩, hz⟩ := I.tuple hs
  rw [Vals.ref1 r]
  have hz' : ns.length ≤ sizeLine := by
    rw [List.length_map] at hz
    exact hz
  refine SrtO.sorted_tupI rv.ints ho hc hd (by rw [← rv.length]; exact hz) fun out h' e h1 h2 old new => ?_
  obtain ⟨k1, k2, k3⟩ := SrtO.ints_out rv.ints h1 h2
  exact ⟨.ref _, upd H (s.heap.objs.size + 1) (.lst ((out.map SrtO.iv).map V.int)), I.laid (t' := s.toks) old (Nat.le_succ _) ⟨by rw [List.length_map, k2.length_eq]; exact hz', out, e, vals_of_ints k1, new⟩, rfl, q _ _ k2 k3 (I.hok.fresh (Nat.le_succ _))⟩
end L2

namespace L2
open PySem PySem.Spec PyProof.Rows
section
variable {X : Cx} {st : Stmt} {rest : List Stmt} {t : TS}
/-- a statement behind which nothing is ever run -/
def tStop (t : TS) : TS := fun D σ H => t { D with nx := fun _ _ => False } σ H
theorem pss_stop (h1 : PS X st t) : PSs X (st :: rest) (tStop t) := by
  refine ⟨fun pins s σ H D I h => ?_⟩
  refine wpAny_execs_cons (thn (h1.run pins s σ H { D with nx := fun _ _ => False } I h) fun f s1 q => ?_)
  cases f with
  | next =>
    obtain ⟨σ', H', I', q⟩ := q
    exact False.elim q
  | ret v => exact q
  | brk => exact q
  | cont => exact q
end
end L2

namespace L2
open PySem PySem.Spec PyProof.Rows
/-- d.get(t) of a written table, whether the key is there or not -/
def tTabLook (P : Program) (w : World) (K : PySem.W.Frag) (td te : TE) : TE := fun σ H Q => td σ H fun x H1 => ∃ (a : Addr) (kvs : List (List Nat × Str)), x = .ref a ∧ TabK P w K a kvs ∧ te σ H1 fun y H2 => ∃ (p : Addr) (ks : List Nat), y = .ref p ∧ H2 p = some (.tup (ks.map fun k : Nat => V.int (k : Int))) ∧
  (∀ q, (kvs.find? fun q => decide (q.1 = ks)) = some q → Q (.str q.2) H2) ∧ ((kvs.find? fun q => decide (q.1 = ks)) = none → Q .non H2)
theorem tab_look {ks : List Nat} : ∀ {kvs : List (List Nat × Str)} {ts : List Tok}, ts.length = kvs.length →
    (∀ q, (kvs.find? fun q => decide (q.1 = ks)) = some q → ∃ t : Tok, valueAt ((kvs.zip ts).map fun x => (numK x.1.1, Value.str x.1.2 x.2)) (numK ks) = some (Value.str q.2 t)) ∧
    ((kvs.find? fun q => decide (q.1 = ks)) = none → valueAt ((kvs.zip ts).map fun x => (numK x.1.1, Value.str x.1.2 x.2)) (numK ks) = none)
  | [], ts, _ => ⟨fun q h => by simp at h, fun _ => by simp [valueAt]⟩
  | _ :: _, [], hl => by simp at hl
  | (k0, z0) :: kvs, t0 :: ts, hl => by
    have ih := tab_look (ks := ks) (kvs := kvs) (ts := ts) (by simpa using hl)
    by_cases c : k0 = ks
    · subst c
      refine ⟨fun q h => ?_, fun h => ?_⟩
      · rw [List.find?_cons_of_pos (by simp)] at h
        cases Option.some.inj h
        exact ⟨t0, by simp [valueAt]⟩
      · rw [List.find?_cons_of_pos (by simp)] at h
        cases h
    · have ne2 : ¬ numK k0 = numK ks := fun e => c (numK_inj e)
      rw [List.find?_cons_of_neg (by simpa using c)]
      unfold valueAt at ih ⊢
      rw [List.zip_cons_cons, List.map_cons, List.find?_cons_of_neg (by simpa using ne2)]
      exact ih
theorem pe_tabLook {X : Cx} {o e : Expr} {td te : TE} {apos cpos : Pos} (hu : X.A.units + 64 < cLine) (ho : PE X o td) (he : PE X e te) (m : M1 X o "get" apos e cpos) : PE X (.Call (.Attribute o "get" apos) [e] [] cpos) (tTabLook X.prog X.w X.K td te) := by
  refine ⟨fun pins s σ H Q I h => ?_⟩
  refine wpAny_Call_method m.base m.few m.line PySem.F.plainAttrs_dict PySem.F.slot_dict_get PySem.F.type_dict_get (thn (ho.run pins s σ H _ I h) fun u s1 ⟨x, H1, I1, rx, a, kvs, ex, ⟨hsm, ts, hT⟩, q1⟩ => ?_)
  subst ex
  obtain rfl : u = Value.ref a := rx
  obtain ⟨hD, _⟩ := hT _ I1.kIn
  have hD' := hD
  obtain ⟨xs, ⟨ob, es, ep, hob, hcl, hdat, _⟩, _⟩ := hD'
  refine ⟨hD.typeIs, fun b q => by cases q; exact ⟨ob, hob, hcl.2.1⟩, ?_⟩
  rw [m.trees]
  refine Calls.callWith_builtin rfl (Calls.evalArgs_plain (Calls.spliced_cons (thn (he.run pins s1 σ H1 _ I1 q1) fun iv s2 ⟨y, H2, I2, ry, p, ks, ey, hp, q2, q3⟩ => Calls.spliced_nil ?_)))
  subst ey
  obtain rfl : iv = Value.ref p := ry
  obtain ⟨_, its, rv, ot, h1, h2, n, h3⟩ := (show ObjOk X.prog X.w H2 s2.heap p (.tup (ks.map fun k : Nat => V.int (k : Int))) from I2.hok p _ hp)
  obtain ⟨hD2, hlen⟩ := hT _ I2.kIn
  obtain ⟨f1, f2⟩ := tab_look (ks := ks) hlen
  have hk : (nestedKind X.prog X.w).is s2.heap (numK ks) p := ⟨.tup h1 h2 h3 (by simpa using numAll_of (h := s2.heap) rv), numK_depth ks⟩
  refine get_keyed (knd := nestedKind X.prog X.w) (show X.A.in1.units + 8 < cLine by show X.A.units + 1 + 8 < cLine; omega) hk hsm hD2 ?_
  cases hf : kvs.find? fun q => decide (q.1 = ks) with
  | some q =>
    obtain ⟨t, ht⟩ := f1 q hf
    rw [ht]
    exact ⟨.str q.2, H2, I2.tok _, ⟨t, rfl⟩, q2 q hf⟩
  | none =>
    rw [f2 hf]
    exact ⟨.non, H2, I2.tok _, rfl, q3 hf⟩
end L2

/-! exceptions whose context is known to be None: raised by defs, caught where the suite calls defs -/
namespace L2N
open PySem PySem.Spec PyProof.Rows L2
theorem takes0N {X : Cx} : Takes X (fun _ _ _ _ => False) := fun _ _ x => by
  obtain ⟨a, B, sI, pins, σ, H, cls, d, e, I, nb, up, sky, na, os, ag, w⟩ := x
  exact False.elim w
section
variable {X : Cx} {e : Expr} {es : List Expr} {ta : TA} {p pos : Pos}
/-- raise X(e, ..), own __init__: the new exception has no context -/
theorem pmk_oexN {CX : CXT} {x : Str} {C fI : Addr} {k : Nat} {fd : FuncData} {ps : List Str} {sp : Sp} (T : OexC X.K C) (iC : PySem.W.findIn X.K (.ref C) "__init__" = some (some (.ref fI))) (tI : PySem.W.typeIn X.K (.ref fI) = some (.type "function"))
    (F1 : FnOk X.prog X.w X.K X.mg X.base CX k fI fd ps sp) (hr : Room (k + 1) X.A) (hb : Binds X.K fd ps []) (hx : Passes CX X (fun _ _ _ => False)) (hg : Gl X x) (hm : X.mg x = some (.ref C)) (ha : PA X (e :: es) ta)
    (hdb : (x == ("__debug__" : Str)) = false := by decide) (he : starEach (e :: es) X.env = (false, eval e X.env) :: starEach es X.env := by rfl) (hpl : (backTo pos (starEach es X.env)).any (·.1) = false := by rfl) :
    PMk X (.Call (.Name x p) (e :: es) [] pos) (tMkO C sp [] ta) := by
  intro pins s σ H Q I h
  obtain ⟨c1, c2, c3, c4, c5, c6, c7, c8, c9, d0, d1, d2, d3, d4, d5, hC, hbm⟩ := T.cls
  refine wpAny_Call_Name_kw (ld_glob I hg hm ?_ hdb)
  refine PySem.W.callWith_K (h₀ := X.base) I.ok.mod.kin T.kC (thn (ha.run pos pins s σ H _ I h) fun us s1 ⟨vs, H1, I1, r1, hz, q1⟩ => ⟨I1.kIn, ?_⟩) he hpl
  show wpAny _ _ (call (.ref C) us) _ _ _
  obtain ⟨h1, g1, w1, k1, o1⟩ := s1
  have up1 : h1.objs.size ≤ h1.objs.size + 1 := Nat.le_succ _
  have fr : H1 (h1.objs.size + 1) = none := I1.hok.fresh up1
  have pr := q1 (h1.objs.size + 1) fr
  rw [List.append_nil] at pr
  have kp : ∀ b o, h1.get? b = some o → ((h1.push (PySem.W.kdv_tup us)).push (PySem.HandSPX.excO C h1.objs.size)).get? b = some o := fun b o z => Heap.get?_push_of_some _ (Heap.get?_push_of_some _ z)
  have ob : ((h1.push (PySem.W.kdv_tup us)).push (PySem.HandSPX.excO C h1.objs.size)).get? (h1.objs.size + 1) = some (PySem.HandSPX.excO C h1.objs.size) := by heap_get
  have J : Inv X pins σ (upd H1 (h1.objs.size + 1) (exo (h1.objs.size + 1) C none)) ⟨(h1.push (PySem.W.kdv_tup us)).push (PySem.HandSPX.excO C h1.objs.size), g1, w1, k1, o1⟩ :=
    I1.laid (t' := k1) (a := h1.objs.size + 1) (o := exo (h1.objs.size + 1) C none) (h' := (h1.push (PySem.W.kdv_tup us)).push (PySem.HandSPX.excO C h1.objs.size)) kp up1 (exo_ok ob)
  have rl : Vals (V.ref (h1.objs.size + 1) :: vs) (Value.ref (h1.objs.size + 1) :: us) := .cons rfl r1
  have ln : (Value.ref (h1.objs.size + 1) :: us).length = ps.length := by
    have z := rl.length
    rw [F1.len _ _ _ _ pr] at z
    exact z.symm
  have few : us.length ≤ sizeLine := by
    rw [← Paired.length r1, sizeLine_eq]
    omega
  have bd := hb ⟨(h1.push (PySem.W.kdv_tup us)).push (PySem.HandSPX.excO C h1.objs.size), g1, w1, k1, o1⟩ (Value.ref (h1.objs.size + 1) :: us) J.kIn (by rw [List.append_nil]; exact ln)
  rw [List.append_nil] at bd
  refine wpAny_call (PySem.HandSPX.call_own F.excBase_ValueError (fun Y => PySem.HandSPX.refsVE_contains Y c5 hbm) (I1.kIn _ _ hC) (PySem.W.looks_findIn I1.kIn iC) (fun self => PySem.W.bind_fn I1.kIn self tI) few
    (codeAny_mono (F1.run _ X.stack _ _ ⟨Value.ref (h1.objs.size + 1) :: us, []⟩ (Value.ref (h1.objs.size + 1) :: us) _ _ (fun _ _ _ => False) (hr.make C us []) (J.env0.make C us []) bd rl pr) fun r s' hq => ?_))
  cases r with
  | error er => exact hx pins σ _ _ er s' J hq
  | ok fl =>
    cases fl with
    | ret u =>
      obtain ⟨v, H2, os2, bare2, un2, hok2, rv, ev, d, fs, ea, ed, hd1, q2⟩ := hq
      subst ev
      obtain ⟨h2, g2, w2, k2, o2⟩ := s'
      obtain ⟨t0, G, JG, kG, ge, hoe, na⟩ := mk_end0 (d2 := w2) (t2 := k2) I1 up1 kp un2 hok2 os2 bare2 ea ed hd1
      exact ⟨rv, h1.objs.size + 1, _, _, ⟨G, g2, w2, k2, o2⟩, _, .ref C, some d, rfl, JG, kG, ge, hoe, ⟨rfl, rfl, fun vs hv => by cases hv; rfl⟩, rfl, rfl, na, rfl, bare2, raises_own T.exC T.tyC, q2⟩
    | next => exact False.elim hq
    | brk => exact False.elim hq
    | cont => exact False.elim hq
variable {C : Addr} {bmB : List Value} {B newId initId : String} {x : Str}
/-- raise X(), no own __init__ -/
theorem pmk_own0N (F : ExcBaseFacts B newId initId bmB) (q : PySem.W.excIn X.K C bmB newId = true) (gC : X.mg x = some (.ref C)) (kC : PySem.W.keepIn X.K (.ref C) = true) (r : Raises X (.ref C)) (hg : Gl X x)
    (hdb : (x == ("__debug__" : Str)) = false := by decide) : PMk X (.Call (.Name x p) [] [] pos) (fun _ H Q => Q (.ref C) none H) := by
  intro pins s σ H Q I h
  refine wpAny_Call_Name_kw (ld_glob I hg gC ?_ hdb)
  refine PySem.W.callWith_K0 I.kIn kC ?_
  obtain ⟨bm, N, nm, qn, bs, hdct, sn, sub, ab, col, dd, k0, k1, k2, k3, k5, mN, hC, hN, hni, T⟩ := exc_obj I.kIn q
  refine wpAny_call_exc_subT F T hC hN hni (fun h' e hm => ?_) (Nat.zero_le _)
  exact mk_of I hm r h (I.hok.gone hm.new)
end
end L2N
namespace L2
open PySem PySem.Spec PyProof.Rows
section
variable {P : Program} {w : World} {K : PySem.W.Frag} {mg : Str → Option Value} {base : Heap}
/-- a def that may raise, what it raises has no context -/
theorem Fun.okN {x qual : Str} {st : Stmt} {f : Addr} {fd : FuncData} {N ps : List Str} {k : Nat} {sp : Sp} (F : Fun K x qual st f fd) (S : FnScope N ps (defScope st)) (len : ∀ vs H Q E, sp vs H Q E → vs.length = ps.length)
    (hbody : ∀ (cdv : Value) (A : Around) (outer : List Env) (s : Shared) (H : Hp) (vs : List V) (Q : VK) (E : XK), Room k (A.deeper (envOfC qual (defScope st) s.heap.objs.size f cdv)) → sp vs H Q E →
      ∃ t, PSs (cxOf (L2N.CX P w) P w K mg base N qual (defScope st) f cdv A outer s H E) (defBody st) t ∧ t { nx := fun _ H' => Q .non H', rt := Q } (start N vs) H) : FnOk P w K mg base (L2N.CX P w) (k + 1) f fd ps sp := by
  obtain ⟨oc, od, kV, doc, pm, an, cdv, ct, osl, rfl, lk, hcd⟩ := F.ex
  exact fn_of lk hcd S len fun A outer s H vs Q E hr hsp => hbody cdv A outer s H vs Q E hr hsp
/-- a def called where an exception is handled, lets none out -/
theorem Fun.okH {x qual : Str} {st : Stmt} {f : Addr} {fd : FuncData} {N ps : List Str} {k : Nat} {sp : Sp} (F : Fun K x qual st f fd) (S : FnScope N ps (defScope st)) (len : ∀ vs H Q E, sp vs H Q E → vs.length = ps.length)
    (hbody : ∀ (cdv : Value) (A : Around) (outer : List Env) (s : Shared) (H : Hp) (vs : List V) (Q : VK) (E : XK) (p : Addr × Obj), L2H.Hot1 A p → L2H.RoomH k (A.deeper (envOfC qual (defScope st) s.heap.objs.size f cdv)) → sp vs H Q E →
      ∃ t, PSs (L2H.cxH CX0 P w K mg base N qual (defScope st) f cdv A outer s H E p).nox (defBody st) t ∧ t { nx := fun _ H' => Q .non H', rt := Q } (start N vs) H) : L2H.FnH P w K mg base CX0 (k + 1) f fd ps sp := by
  obtain ⟨oc, od, kV, doc, pm, an, cdv, ct, osl, rfl, lk, hcd⟩ := F.ex
  refine L2H.fn_ofH lk hcd S len fun A outer s H vs Q E p hot hr hsp => ?_
  obtain ⟨t, h, q⟩ := hbody cdv A outer s H vs Q E p hot hr hsp
  exact ⟨t, h.nox, q⟩
end
/-- within a suite: the exception that is handled has no context -/
theorem hot_suite {X : Cx} {a : Addr} {oe : Obj} {cls : Value} {d : Option Addr} {pn : List (Addr × Obj)} (hz : L2N.Zn cls d oe) (hf : ∃ vs, oe.data = .fields vs) : L2H.HotC (X.suite a ((a, oe) :: pn)) := by
  obtain ⟨vs, hv⟩ := hf
  exact ⟨(a, oe), ⟨rfl, vs, hv, hz.2.2 vs hv⟩, List.mem_cons_self⟩
end L2
namespace L2
open PySem PySem.Spec PyProof.Rows
/-- nothing is let out -/
theorem passH0 {X : Cx} (E : St → XK) : ∀ σ, PassesAt CX0 X σ (E σ) := fun _ _ _ _ _ _ _ z => False.elim z
theorem call_isiQ {X : Cx} {K : PySem.W.Frag} (h : X.K = K) : CallR X (.builtin "isinstance") (rIsi K) := by
  subst h
  exact call_isi
theorem call_lenK {X : Cx} {K : PySem.W.Frag} (h : X.K = K) : CallR X (.builtin "len") (fun xs H Q => ∃ p ys, xs = [.ref p] ∧ (SqL K H p ys ∨ SqT K H p ys) ∧ Q (.int ys.length) H) := by
  subst h
  exact call_len_seq
end L2

/-! min, max, len(set(..)) of a tuple of ints -/
namespace MmT
open PySem PyProof.Rows
theorem keep_old {s : Shared} {o : Obj} {h' : Heap} (hk : ∀ b u, b ∉ [s.heap.objs.size] → (s.heap.push o).get? b = some u → h'.get? b = some u) : ∀ b u, s.heap.get? b = some u → h'.get? b = some u := fun b u e => by
  refine hk b u (fun hm => ?_) (Heap.get?_push_of_some _ e)
  have := Heap.lt_size e
  rw [List.mem_singleton.mp hm] at this
  exact Nat.lt_irrefl _ this
theorem ints_arr {its : List Value} {ns : List Int} (hi : IntsAre its ns) : ∃ xs : Array (Int × Tok), its.toArray = intItems xs ∧ (xs.toList.map (·.1)) = ns := by
  obtain ⟨xs, e⟩ := hi.allInts.items
  have hn : numsOf (intItems xs).toList = ns := by
    rw [← e]
    exact hi.numsOf
  rw [nums_intItems] at hn
  exact ⟨xs, e, hn⟩
section
variable {prog : Program} {w : World} {A : Around} {E : Value → Shared → Prop} {s : Shared}
theorem min_tup {t : Addr} {its : List Value} {ns : List Int} {Q : Value → Shared → Prop} (calm : A.handled = none) (there : s.heap.IsTuple t its.toArray) (hi : IntsAre its ns) (some_ : 0 < ns.length)
    (next : ∀ (h' : Heap) (tk : Nat) (m : Int) (u : Tok), (∀ b o, s.heap.get? b = some o → h'.get? b = some o) → m ∈ ns → (∀ y ∈ ns, m ≤ y) → Q (.int m u) { s with heap := h', toks := tk }) :
    wpAny (model prog w) A (call (.builtin "min") [.ref t]) Q E s := by
  obtain ⟨xs, e1, e2⟩ := ints_arr hi
  subst e2
  rw [e1] at there
  have pos : 0 < xs.size := by simpa using some_
  have tb : t < s.heap.objs.size := by
    obtain ⟨o, ho, _⟩ := there
    exact Heap.lt_size ho
  refine call_min_walk (wpAny_pyIter_tuple there ?_)
  refine ⟨_, [_, t], [_], _, _, _, _, rfl, Walks.tuple (A := A.in1) calm _ t (Nat.ne_of_lt tb) (intItems xs), ⟨⟨_, Heap.get?_push_size _ rfl, rfl, rfl⟩, there.push _⟩, fun c hc => ?_, by simpa [intItems] using pos, CmpOf.ints_lt (numAt xs) (fun _ _ => intItems_at), fun v h' tk hP hk => ?_⟩
  · show c < (s.heap.push _).objs.size
    rw [Heap.size_push]
    rcases List.mem_cons.mp hc with rfl | hc
    · exact Nat.lt_succ_self _
    · rw [List.mem_singleton.mp hc]
      exact Nat.lt_succ_of_lt tb
  · have hP' : (intItems xs)[argBest (fun i j => decide (numAt xs i < numAt xs j)) (xs.size - 1)]? = some v := by simpa [intItems] using hP
    obtain ⟨u, rfl⟩ := intItems_at hP'
    obtain ⟨b1, b2⟩ := argBest_lt (numAt xs) (xs.size - 1)
    refine next h' tk _ u (keep_old hk) ?_ fun y hy => ?_
    · rw [numAt_eq]
      exact PySem.getD_mem (by rw [List.length_map, Array.length_toList]; omega)
    · obtain ⟨j, hj, rfl⟩ := mem_getD hy
      rw [List.length_map, Array.length_toList] at hj
      rw [← numAt_eq]
      exact b2 j (by omega)
theorem max_tup {t : Addr} {its : List Value} {ns : List Int} {Q : Value → Shared → Prop} (calm : A.handled = none) (there : s.heap.IsTuple t its.toArray) (hi : IntsAre its ns) (some_ : 0 < ns.length)
    (next : ∀ (h' : Heap) (tk : Nat) (m : Int) (u : Tok), (∀ b o, s.heap.get? b = some o → h'.get? b = some o) → m ∈ ns → (∀ y ∈ ns, y ≤ m) → Q (.int m u) { s with heap := h', toks := tk }) :
    wpAny (model prog w) A (call (.builtin "max") [.ref t]) Q E s := by
  obtain ⟨xs, e1, e2⟩ := ints_arr hi
  subst e2
  rw [e1] at there
  have pos : 0 < xs.size := by simpa using some_
  have tb : t < s.heap.objs.size := by
    obtain ⟨o, ho, _⟩ := there
    exact Heap.lt_size ho
  refine call_max_walk (wpAny_pyIter_tuple there ?_)
  refine ⟨_, [_, t], [_], _, _, _, _, rfl, Walks.tuple (A := A.in1) calm _ t (Nat.ne_of_lt tb) (intItems xs), ⟨⟨_, Heap.get?_push_size _ rfl, rfl, rfl⟩, there.push _⟩, fun c hc => ?_, by simpa [intItems] using pos, CmpOf.ints_gt (numAt xs) (fun _ _ => intItems_at), fun v h' tk hP hk => ?_⟩
  · show c < (s.heap.push _).objs.size
    rw [Heap.size_push]
    rcases List.mem_cons.mp hc with rfl | hc
    · exact Nat.lt_succ_self _
    · rw [List.mem_singleton.mp hc]
      exact Nat.lt_succ_of_lt tb
  · have hP' : (intItems xs)[argBest (fun i j => decide (numAt xs i > numAt xs j)) (xs.size - 1)]? = some v := by simpa [intItems] using hP
    obtain ⟨u, rfl⟩ := intItems_at hP'
    obtain ⟨b1, b2⟩ := argBest_gt (numAt xs) (xs.size - 1)
    refine next h' tk _ u (keep_old hk) ?_ fun y hy => ?_
    · rw [numAt_eq]
      exact PySem.getD_mem (by rw [List.length_map, Array.length_toList]; omega)
    · obtain ⟨j, hj, rfl⟩ := mem_getD hy
      rw [List.length_map, Array.length_toList] at hj
      rw [← numAt_eq]
      exact b2 j (by omega)
end
/-- a list without doubles has as many members as another of the same members exactly if that one has no doubles -/
theorem sub_perm : ∀ {L ns : List Int}, L.Nodup → (∀ x ∈ L, x ∈ ns) → L.length = ns.length → L.Perm ns
  | [], ns, _, _, h => by
    rw [List.length_eq_zero_iff.mp h.symm]
  | x :: L, ns, nd, sub, h => by
    have hx := sub x (List.mem_cons_self ..)
    have nd' := List.nodup_cons.mp nd
    have ih := sub_perm (L := L) (ns := ns.erase x) nd'.2 (fun y hy => (List.mem_erase_of_ne (fun z => nd'.1 (by rw [← z]; exact hy))).mpr (sub y (List.mem_cons_of_mem _ hy))) (by
      rw [List.length_erase_of_mem hx]
      simp at h
      omega)
    exact (List.Perm.cons x ih).trans (List.perm_cons_erase hx).symm
theorem sub_len : ∀ {L ns : List Int}, L.Nodup → (∀ x ∈ L, x ∈ ns) → L.length ≤ ns.length
  | [], _, _, _ => Nat.zero_le _
  | x :: L, ns, nd, sub => by
    have hx := sub x (List.mem_cons_self ..)
    have nd' := List.nodup_cons.mp nd
    have ih := sub_len (L := L) (ns := ns.erase x) nd'.2 fun y hy => (List.mem_erase_of_ne (fun z => nd'.1 (by rw [← z]; exact hy))).mpr (sub y (List.mem_cons_of_mem _ hy))
    have := List.length_erase_of_mem hx
    have hp : 0 < ns.length := List.length_pos_of_mem hx
    show L.length + 1 ≤ ns.length
    omega
theorem count_nd {L ns : List Int} (nd : L.Nodup) (m : ∀ x, x ∈ L ↔ x ∈ ns) : L.length = ns.length ↔ ns.Nodup :=
  ⟨fun h => (sub_perm nd (fun x hx => (m x).mp hx) h).nodup_iff.mp nd, fun h => Nat.le_antisymm (sub_len nd fun x hx => (m x).mp hx) (sub_len h fun x hx => (m x).mpr hx)⟩
end MmT
namespace L2
open PySem PySem.Spec PyProof.Rows
section
variable {X : Cx}
def rMinT (K : PySem.W.Frag) : List V → Hp → VK → Prop := fun vs H Q => ∃ (a : Addr) (ns : List Int), vs = [V.ref a] ∧ SqT K H a (ns.map V.int) ∧ 0 < ns.length ∧ ∀ m, m ∈ ns → (∀ y ∈ ns, m ≤ y) → Q (.int m) H
def rMaxT (K : PySem.W.Frag) : List V → Hp → VK → Prop := fun vs H Q => ∃ (a : Addr) (ns : List Int), vs = [V.ref a] ∧ SqT K H a (ns.map V.int) ∧ 0 < ns.length ∧ ∀ m, m ∈ ns → (∀ y ∈ ns, y ≤ m) → Q (.int m) H
theorem tup_is {h : Heap} {t : Addr} {its : List Value} (p : ∃ o : Obj, h.get? t = some o ∧ o.cls = .type "tuple" ∧ ∃ k, o.data = .seq its.toArray k) : h.IsTuple t its.toArray := by
  obtain ⟨o, h1, h2, k, h3⟩ := p
  exact ⟨o, h1, h2, k, h3⟩
theorem cr_minT (calm : X.calm = true) : CallR X (.builtin "min") (rMinT X.K) := by
  intro pins s σ H vs us Q I r h
  obtain ⟨a, ns, rfl, hs, pos, q⟩ := h
  obtain ⟨its, rv, ⟨o, ho, hc, k, hd⟩, hz⟩ := I.tuple hs
  rw [Vals.ref1 r]
  exact MmT.min_tup (I.ok.hd calm) ⟨o, ho, hc, k, hd⟩ rv.ints pos fun h' tk m u keep hm hl => ⟨.int m, H, I.kept keep, ⟨u, rfl⟩, q m hm hl⟩
theorem cr_maxT (calm : X.calm = true) : CallR X (.builtin "max") (rMaxT X.K) := by
  intro pins s σ H vs us Q I r h
  obtain ⟨a, ns, rfl, hs, pos, q⟩ := h
  obtain ⟨its, rv, ⟨o, ho, hc, k, hd⟩, hz⟩ := I.tuple hs
  rw [Vals.ref1 r]
  exact MmT.max_tup (I.ok.hd calm) ⟨o, ho, hc, k, hd⟩ rv.ints pos fun h' tk m u keep hm hl => ⟨.int m, H, I.kept keep, ⟨u, rfl⟩, q m hm hl⟩
/-- len(set(t)), t a tuple of ints: how many there are tells whether there are doubles -/
def tLenSetT (K : PySem.W.Frag) (ta : TE) : TE := fun σ H Q => ta σ H fun x H1 => ∃ (l : Addr) (ns : List Int), x = .ref l ∧ SqT K H1 l (ns.map V.int) ∧ ns.length ≤ 1000 ∧ ∀ c : Nat, c ≤ ns.length → (c = ns.length ↔ ns.Nodup) → Q (.int (c : Int)) H1
theorem pe_lenSetT {a : Expr} {ta : TE} {p p2 q pos : Pos} (calm : X.calm = true) (g1 : Gl X "len") (m1 : X.mg "len" = none) (g2 : Gl X "set") (m2 : X.mg "set" = none) (ha : PE X a ta)
    (na : starEach [a] X.env = (false, eval a X.env) :: starEach [] X.env := by rfl) : PE X (.Call (.Name "len" p) [.Call (.Name "set" p2) [a] [] q] [] pos) (tLenSetT X.K ta) := by
  refine ⟨fun pins s σ H Q I hw => ?_⟩
  refine Call_ (ld_blt I g1 m1 PySem.boot_len ?_)
  refine PyProof.Rows.callWith_builtin1 (PyProof.Rows.args_cons ?_ rfl) rfl rfl
  refine Call_ (ld_blt I g2 m2 PyProof.Rows.boot_set ?_)
  refine PyProof.Rows.callWith_type1 (PyProof.Rows.args_cons (thn (ha.run pins s σ H _ I hw) fun v s1 ⟨x, H1, I1, r1, z1⟩ => PyProof.Rows.args_nil ?_) na) na rfl
  obtain ⟨l, ns, rfl, hq, few, z1⟩ := z1
  cases r1
  obtain ⟨its, rv, ⟨o, ho, hc, k, hd⟩, hz⟩ := I1.tuple hq
  refine call_set_tupI ns (I1.ok.hd calm) ⟨o, ho, hc, k, hd⟩ (by simpa using rv.ints) (by unfold scanBound; omega) fun h' tk c hS hc' keep => ?_
  refine PyProof.Rows.args_nil ?_
  obtain ⟨o2, es, ep, t2, h1, h2, h3, _, h5, h6, _, h8, h9, _⟩ := hS
  have I2 : Inv X pins σ H1 { s1 with heap := h', toks := tk } := I1.kept keep
  have m : ∀ x, x ∈ es.toList.map keyOf ↔ x ∈ ns := fun x => by
    rw [← h6 x]
    exact decide_eq_true_iff
  have cnt := MmT.count_nd h5 m
  rw [List.length_map, Array.length_toList, h9] at cnt
  exact call_len_set h1 h2 h3 h8 (by omega) ⟨.int (c : Int), H1, I2.tok _, ⟨_, by rw [h9]⟩, z1 c hc' cnt⟩
end
end L2

/-! enumerate of a tuple; calls in a try's body; isinstance of an exception without a dict -/
namespace EnT
open PySem
/-- the iterator of the tuple t, and the enumerate object over the iterator at i, both as they are made -/
def itO (t : Addr) : Obj := { cls := .type "tuple_iterator", data := .fields #[.ref t, .int 0 0] }
def enO (i : Addr) : Obj := { cls := .type "enumerate", data := .fields #[.none, .bool false, .ref i, rawInt 0, .none, .none] }
def made (g : Heap) (t : Addr) : Heap := (g.push (itO t)).push (enO g.objs.size)
theorem made_top (g : Heap) (t : Addr) : (g.push (itO t)).objs.size = g.objs.size + 1 := Heap.size_push ..
theorem made_en (g : Heap) (t : Addr) : (made g t).get? (g.objs.size + 1) = some (enO g.objs.size) :=
  made_top g t ▸ Heap.get?_push_size (g.push (itO t)) (o := enO g.objs.size) rfl
theorem made_it (g : Heap) (t : Addr) : (made g t).get? g.objs.size = some (itO t) := Heap.get?_push_of_some _ (Heap.get?_push_size _ rfl)
theorem made_old (g : Heap) (t b : Addr) (o : Obj) (h : g.get? b = some o) : (made g t).get? b = some o :=
  Heap.get?_push_of_some _ (Heap.get?_push_of_some _ h)
/-- what enumerate's __new__ does with a tuple -/
theorem new_does (t : Addr) (vs : Array Value) : Meets (Builtin.«enumerate.__new__» ⟨[.type "enumerate", .ref t], []⟩)
    (fun _ R s => s.heap.IsTuple t vs ∧ R (.ok (.ret (.ref (s.heap.objs.size + 1)))) { s with heap := made s.heap t }) :=
  Meets.of_wp fun P w A R s there => by
    cases s with
    | mk g gl dw tc ow =>
      obtain ⟨isT, goal⟩ := there
      rw [← made_top g t] at goal
      have sub1 := sub_enumerate
      have mk_it : ∀ {A1 : Around} {E1 Q1 : Value → Shared → Prop}, Q1 (.ref g.objs.size) ⟨g.push (itO t), gl, dw, tc, ow⟩ → wpAny (model P w) A1 (pyIter (.ref t)) Q1 E1 ⟨g, gl, dw, tc, ow⟩ :=
        fun q => wpAny_pyIter_tuple isT q
      wp_walk using mk_it
      refine wpAny_stack_any fun _ => wpAny_pure ?_
      split
      · next cls _ _ _ _ _ =>
        by_cases same : (cls == Value.type "enumerate") = true
        · rw [same]
          wp_walk using mk_it
          exact ⟨_, rfl, goal⟩
        · rw [Bool.eq_false_iff.mpr same]
          wp_walk using mk_it
          exact ⟨_, rfl, goal⟩
      · wp_walk using mk_it
        exact ⟨_, rfl, goal⟩
end EnT
namespace EnT
open PySem PySem.Spec PyProof.Rows L2
theorem call_does {P : Program} {w : World} {A : Around} {E Q : Value → Shared → Prop} {s : Shared} {t : Addr} {vs : Array Value} (isT : s.heap.IsTuple t vs) (goal : Q (.ref (s.heap.objs.size + 1)) { s with heap := made s.heap t }) :
    wpAny (model P w) A (call (.type "enumerate") [.ref t]) Q E s := by
  have top : Shared.TypeIs { s with heap := made s.heap t } (.ref (s.heap.objs.size + 1)) "enumerate" := ⟨_, made_en s.heap t, rfl⟩
  have done : (fun (_ : Around) (R : Result → Shared → Prop) (z : Shared) => z.heap.IsTuple t vs ∧ R (.ok (.ret (.ref (z.heap.objs.size + 1)))) { z with heap := made z.heap t }) A.in1
      (wants (fun obj z => z.TypeIs obj "enumerate" ∧ Q obj z) E) s := ⟨isT, top, goal⟩
  exact callType_new F.called_enumerate (by decide) (F.typeCall_enumerate_1 _) (F.newCall_enumerate_1 _) (fun o => F.args_object_init_2 o _)
    F.entry_enumerate_new (new_does t vs) done
theorem tup_ne {h : Heap} {i t : Addr} {n : Nat} {vs : Array Value} (a : h.IsTupleIter i t n) (b : h.IsTuple t vs) : t ≠ i := by
  intro same
  subst same
  obtain ⟨u, hu, cu, _⟩ := a
  obtain ⟨v, hv, cv, _⟩ := b
  cases hu.symm.trans hv
  exact absurd (Value.type.inj (cu.symm.trans cv)) (by decide)
theorem en_ne {h : Heap} {e i t : Addr} {c : Int} {old : Value} {vs : Array Value} (a : IsEnum h e i c old) (b : h.IsTuple t vs) : e ≠ t := by
  intro same
  subst same
  obtain ⟨v, hv, cv, _⟩ := b
  cases (show h.get? e = _ from a).symm.trans hv
  exact absurd (Value.type.inj cv) (by decide)
/-- what the enumerate object at e walks with: its tuple at t, the iterator at i -/
def Stands (e i t : Addr) (n : Nat) (h : Heap) : Prop := (∃ old, IsEnum h e i ((n : Nat) : Int) old) ∧ h.IsTupleIter i t n ∧ e ≠ i
/-- the tuple at t, each item behind its number in a new pair -/
def ItN (K : PySem.W.Frag) (t : Addr) : It where
  go := fun n H => ∃ xs x, SqT K H t xs ∧ xs[n]? = some x
  yld := fun n H v H2 => ∃ p x, v = .ref p ∧ H p = none ∧ H2 = upd H p (.tup [.int (n : Nat), x]) ∧ ∀ xs, SqT K H t xs → xs[n]? = some x
  stop := fun n H => ∃ xs : List V, SqT K H t xs ∧ xs.length = n
theorem turns {P : Program} {w : World} {K : PySem.W.Frag} {es : List Expr} {kk : Nat} {ps : Pos} (e i t : Addr) : Turn P w K (.Tuple es kk ps) (ItN K t) [e, i] e (Stands e i t) := by
  constructor
  · exact List.mem_cons_self
  · rintro n h ⟨⟨old, a⟩, ⟨u, hu, cu, du⟩, ne⟩ b hb
    rcases List.mem_cons.mp hb with rfl | hb
    · exact ⟨_, a, fun v q => by cases q⟩
    · rw [List.mem_singleton.mp hb]
      exact ⟨u, hu, fun v q => by rw [du] at q; cases q⟩
  · rintro n h h2 ⟨⟨old, a⟩, b, ne⟩ kp
    exact ⟨⟨old, kp e List.mem_cons_self _ a⟩, b.at fun o q => kp i (List.mem_cons_of_mem _ List.mem_cons_self) o q, ne⟩
  · rintro X rfl rfl rfl calm n pins s σ H E I apart ⟨⟨old, a⟩, b, ne⟩ ⟨xs, x, tx, hx⟩
    obtain ⟨vs, rel, isT, _⟩ := I.tuple tx
    have isT := tup_is isT
    obtain ⟨v, hv, rv⟩ := rel.get hx
    have hv2 : vs.toArray[n]? = some v := by rw [List.getElem?_toArray]; exact hv
    have lt := (Array.getElem?_eq_some_iff.mp hv2).1
    have away : e ∉ [i, t] := fun z => by
      rcases List.mem_cons.mp z with z | z
      · exact ne z
      · exact en_ne a isT (List.mem_singleton.mp z)
    have drawn := Draws.tuple (prog := X.prog) (w := X.w) (A := X.A.in1) (I.ok.hd calm) i t (tup_ne b isT) vs.toArray
    have W := WalksT.enumerateD drawn e ne away List.mem_cons_self
    refine W.item n s _ E lt ⟨⟨old, a⟩, b, isT⟩ ?_
    rintro p ws h1 tk ⟨tok, v2, g, rfl⟩ up there mid kp1
    cases hv2.symm.trans g
    refine ⟨_, rfl, W.go es kk ps n p { s with heap := h1, toks := tk } _ E mid ?_⟩
    rintro h2 ⟨⟨old2, a2⟩, b2, _⟩ kp2
    obtain ⟨op, hop, cp, c1, dp⟩ := there
    have free : H p = none := I.hok.fresh up
    have made : ObjOk X.prog X.w (upd H p (.tup [.int (n : Nat), x])) h2 p (.tup [.int (n : Nat), x]) := by
      refine ⟨?_, [.int n tok, v], .cons ⟨tok, rfl⟩ (.cons rv .nil), op, kp2 p op (W.apart n p h1 mid) hop, cp, c1, dp⟩
      show 2 ≤ sizeLine
      decide
    have I2 := I.turnedNew (t' := tk) (fun c o nc q => kp2 c o nc (kp1 c o nc q)) apart up made
    refine ⟨.ref p, _, I2, rfl, ⟨p, x, rfl, free, rfl, fun ys ty => by rw [I.tuple_inj ty tx]; exact hx⟩, ⟨⟨old2, a2⟩, b2, ne⟩, fun c hc => ?_⟩
    rw [upd_ne fun z => by
      obtain ⟨o, ho, _⟩ : ∃ o, s.heap.get? c = some o ∧ True := by
        rcases List.mem_cons.mp hc with rfl | hc
        · exact ⟨_, a, trivial⟩
        · rw [List.mem_singleton.mp hc]
          obtain ⟨o, ho, _⟩ := b
          exact ⟨o, ho, trivial⟩
      have := Heap.lt_size ho
      rw [z] at this
      exact absurd up (Nat.not_le.mpr this)]
    exact (apart c hc).1
  · rintro X rfl rfl rfl calm n pins s σ H E I apart ⟨⟨old, a⟩, b, ne⟩ ⟨xs, tx, len⟩
    obtain ⟨vs, rel, isT, _⟩ := I.tuple tx
    have isT := tup_is isT
    have away : e ∉ [i, t] := fun z => by
      rcases List.mem_cons.mp z with z | z
      · exact ne z
      · exact en_ne a isT (List.mem_singleton.mp z)
    have drawn := Draws.tuple (prog := X.prog) (w := X.w) (A := X.A.in1) (I.ok.hd calm) i t (tup_ne b isT) vs.toArray
    have W := WalksT.enumerateD drawn e ne away List.mem_cons_self
    have eq : n = vs.toArray.size := by rw [← len, rel.length, List.size_toArray]
    subst eq
    exact W.done s _ E ⟨⟨old, a⟩, b, isT⟩ fun h2 tk kp => ⟨rfl, I.turnedL kp apart⟩
  · rintro A n s Q E ⟨⟨old, a⟩, _⟩ goal
    exact wpAny_pyIter_enum a goal
def iNum (K : PySem.W.Frag) (ta : TA) : TI := fun σ H R => ta σ H fun vs H1 => ∃ t xs, vs = [.ref t] ∧ SqT K H1 t xs ∧ R (ItN K t) H1
theorem pi_enumT {X : Cx} {e : Expr} {ta : TA} {p pos tpos : Pos} {es : List Expr} {kk : Nat} (g : Gl X "enumerate") (free : X.mg "enumerate" = none) (arg : PA X [e] ta) (one : starEach [e] X.env = [(false, eval e X.env)] := by rfl) :
    PI X (.Tuple es kk tpos) (.Call (.Name "enumerate" p) [e] [] pos) (iNum X.K ta) := by
  constructor
  intro pins s σ H R I had
  refine Call_ (ld_blt I g free boot_enumerate ?_)
  refine PyProof.Rows.callWith_type1 ?_ one rfl
  refine thn (arg.run pos pins s σ H _ I had) ?_
  rintro us s1 ⟨vs, H1, I1, rel, t, xs, rfl, tx, goal⟩
  obtain ⟨u, rfl, ru⟩ := vals1 rel
  cases (show u = Value.ref t from ru)
  obtain ⟨ws, _, isT, _⟩ := I1.tuple tx
  refine call_does (tup_is isT) (wpAny_pyIter_enum (made_en s1.heap t) ?_)
  have I2 : Inv X pins σ H1 { s1 with heap := made s1.heap t } := I1.kept (t' := s1.toks) fun b o q => made_old s1.heap t b o q
  refine ⟨_, _, _, _, H1, rfl, I2, turns (s1.heap.objs.size + 1) s1.heap.objs.size t, ⟨⟨.none, made_en s1.heap t⟩, ⟨_, made_it s1.heap t, rfl, rfl⟩, Nat.succ_ne_self _⟩, fun b hb => ?_, goal⟩
  have up : s1.heap.objs.size ≤ b := by
    rcases List.mem_cons.mp hb with rfl | hb
    · exact Nat.le_succ _
    · rw [List.mem_singleton.mp hb]
      exact Nat.le_refl _
  exact I1.fpOk up (I1.hok.fresh up)
theorem walk_enumT {K : PySem.W.Frag} {t : Addr} {xs : List V} : Walk (ItN K t) xs.length (fun H => SqT K H t xs) (YPair (fun n => some (.int (n : Nat))) (fun n => xs[n]?)) where
  goes := fun n _ lt q => ⟨xs, xs[n], q, List.getElem?_eq_getElem lt⟩
  stops := fun _ q => ⟨xs, q, rfl⟩
  yields := fun n _ _ _ _ q y => by
    obtain ⟨p, x, a, b, c, d⟩ := y
    exact ⟨p, .int (n : Nat), x, a, b, c, rfl, d xs q⟩
end EnT
namespace L2
open PySem PySem.Spec PyProof.Rows
/-- isinstance(e, c), e the exception that the suite holds, with a dict or without -/
def rIsS2 (K : PySem.W.Frag) (a : Addr) (cls : Value) (d : Option Addr) : List V → Hp → VK → Prop := fun xs H Q => ∃ (C : Addr) (c : V) (u : Value) (b : Bool), xs = [.ref a, c] ∧ cls = .ref C ∧ (d = none ∨ ∃ dd fs, d = some dd ∧ H dd = some (.xd fs)) ∧
  ExcC K C ∧ ClsV c u ∧ PySem.W.kitOne K (.ref C) u = some b ∧ Q (.bl b) H
theorem call_isS2 {X : Cx} {K : PySem.W.Frag} {a : Addr} {cls : Value} {d : Option Addr} {oe : Obj} {pn : List (Addr × Obj)} (hK : X.K = K) (hz : Zc cls d oe) (hf : ∃ vs, oe.data = .fields vs) : CallR (X.suite a ((a, oe) :: pn)) (.builtin "isinstance") (rIsS2 K a cls d) := by
  rintro pins s σ H _ us Q I rel ⟨C, c, u, b, rfl, rfl, kind, D, isC, ans, goal⟩
  rcases kind with rfl | ⟨dd, fs, rfl, there⟩
  · have E : CallR (X.suite a ((a, oe) :: pn)) (.builtin "isinstance") (rIsE X.K C a) := call_isE (hK ▸ D) hz hf
    exact E pins s σ H _ us Q I rel ⟨c, u, b, rfl, fun v q => isC.eq q, hK ▸ ans, goal⟩
  · exact call_isS hK hz hf pins s σ H _ us Q I rel ⟨C, dd, fs, c, u, b, rfl, rfl, rfl, there, D, isC, ans, goal⟩
theorem call_tuple_ofK {X : Cx} {K : PySem.W.Frag} (h : X.K = K) : CallR X (.type "tuple") (fun xs H Q => ∃ p ys, xs = [.ref p] ∧ ((SqL K H p ys ∧ ∀ l, H l = none → Q (.ref l) (upd H l (.tup ys))) ∨ (SqT K H p ys ∧ Q (.ref p) H))) := by
  subst h
  exact call_tuple_of
theorem call_list_ofK {X : Cx} {K : PySem.W.Frag} (h : X.K = K) : CallR X (.type "list") (fun xs H Q => ∃ p ys, xs = [.ref p] ∧ (SqL K H p ys ∨ SqT K H p ys) ∧ ∀ l, H l = none → Q (.ref l) (upd H l (.lst ys))) := by
  subst h
  exact call_list_of
end L2
namespace RZ
open PySem PySem.Spec PyProof.Rows L2
theorem walk_zipT {K : PySem.W.Frag} {a b : Addr} {xs ys : List V} {n : Nat} (hn : n = min xs.length ys.length) : Walk (ItzT K a b) n (fun H => SqT K H a xs ∧ SqT K H b ys) (YPair (fun i => xs[i]?) (fun i => ys[i]?)) where
  goes := fun i _ lt q => ⟨xs, ys, xs[i]'(by omega), ys[i]'(by omega), q.1, q.2, List.getElem?_eq_getElem _, List.getElem?_eq_getElem _⟩
  stops := fun _ q => ⟨xs, ys, q.1, q.2, by omega⟩
  yields := fun i _ _ _ _ q y => by
    obtain ⟨p, x, z, a1, a2, a3, a4, a5⟩ := y
    exact ⟨p, x, z, a1, a2, a3, a4 xs q.1, a5 ys q.2⟩
end RZ

/-! defs with a star parameter and keyword-only ones behind it, called with keywords -/
namespace StK
open PySem PySem.Spec PyProof.Rows L2 StX
/-- a def called with values and with keywords named ks, told of the values alone -/
def FnK (P : Program) (w : World) (K : PySem.W.Frag) (mg : Str → Option Value) (base : Heap) (CX : CXT) (k : Nat) (f : Addr) (ks : List Str) (sp : List V → List V → Hp → VK → XK → Prop) : Prop :=
  ∀ (A : Around) (outer : List Env) (s : Shared) (H : Hp) (us ws : List Value) (vs zs : List V) (Q : VK) (E : XK),
    Room k A → Env0 P w K mg base A outer s H → Vals vs us → Vals zs ws → zs.length = ks.length → sp vs zs H Q E →
      codeAny (model P w) A (.call (.ref f) ⟨us, ks.zip ws⟩) (CR CX outer P w H s Q E) s
section
variable {CX : CXT} {P : Program} {w : World} {K : PySem.W.Frag} {mg : Str → Option Value} {base : Heap} {k n : Nat} {f : Addr} {name qual : Str} {params : Arguments} {body : List Stmt} {scope : Scope} {dV kV doc pm cdv ct oc : Value} {an od : Option Addr}
  {osl : Array (Option Value)} {N ps ks : List Str} {sp : Sp}
theorem FnK.mono {j : Nat} {q : List V → List V → Hp → VK → XK → Prop} (F : FnK P w K mg base CX j f ks q) (h : j ≤ k) : FnK P w K mg base CX k f ks q :=
  fun A outer s H us ws vs zs Q E room => F A outer s H us ws vs zs Q E (room.mono h)
/-- def f(a, .., *v, k): n values ahead, the rest in a new tuple, each keyword written -/
theorem fn_starK {pv : Str} (at_ : K.lookup f = some ⟨oc, od, .func (PySem.W.fnOf name qual params body scope dV kV doc pm an cdv ct), osl⟩) (code : PySem.W.codeIn K cdv qual = true) (S : FnScope N (ps ++ [pv]) scope) (up : CXUp CX) (hps : ps.length = n + ks.length)
    (bind : ∀ us rest ws : List Value, us.length = n → ws.length = ks.length → bindArgs (PySem.W.fnOf name qual params body scope dV kV doc pm an cdv ct) ⟨us ++ rest, ks.zip ws⟩ = (newTuple rest >>= fun t => pure (ps.zip (us ++ ws) ++ [(pv, t)])))
    (run : ∀ (A : Around) (outer : List Env) (s : Shared) (H : Hp) (vs : List V) (Q : VK) (E : XK), Room k (A.deeper (envOfC qual scope s.heap.objs.size f cdv)) → sp vs H Q E →
      ∃ t, PSs (cxOf CX P w K mg base N qual scope f cdv A outer s H E) body t ∧ t { nx := fun _ H' => Q .non H', rt := Q } (start N vs) H) :
    FnK P w K mg base CX (k + 1) f ks (fun vs zs H Q E => ∃ hd rest, vs = hd ++ rest ∧ hd.length = n ∧ rest.length ≤ sizeLine ∧ ∀ p, H p = none → sp ((hd ++ zs) ++ [V.ref p]) (upd H p (.tup rest)) Q E) := by
  rintro A outer s H us ws vs zs Q E room env rv rz lz ⟨hd, rest, rfl, lh, small, goes⟩
  obtain ⟨u1, u2, rfl, r1, r2⟩ := vals_split rv
  have free : H s.heap.objs.size = none := env.hok.fresh (Nat.le_refl _)
  have l1 : u1.length = n := r1.length.symm.trans lh
  have lw : ws.length = ks.length := rz.length.symm.trans lz
  have few : u2.length ≤ sizeLine := by
    rw [← r2.length]
    exact small
  let here : Obj := { cls := .type "tuple", data := .seq u2.toArray }
  refine run_bnd at_ code S room env (G := fun xs G => ∃ p, H p = none ∧ xs = (hd ++ zs) ++ [V.ref p] ∧ G = upd H p (.tup rest)) (fun A' Ex Q' told => ?_) ?_
  · rw [bind u1 u2 ws l1 lw]
    refine wpAny_bind (wpAny_newTuple (wpAny_pure ?_) few)
    have laid : ObjOk P w (upd H s.heap.objs.size (.tup rest)) (s.heap.push here) s.heap.objs.size (.tup rest) := ⟨small, u2, r2, _, Heap.get?_push_size _ rfl, rfl, _, rfl⟩
    have un : Un (frs outer) [] H (upd H s.heap.objs.size (.tup rest)) s.heap (s.heap.push here) := un_laid free
    have len : ((hd ++ zs) ++ [V.ref s.heap.objs.size]).length = (ps ++ [pv]).length := by
      rw [List.length_append, List.length_append, List.length_append, lh, lz, hps]
      rfl
    have got := told _ _ ((hd ++ zs) ++ [V.ref s.heap.objs.size]) ((u1 ++ ws) ++ [Value.ref s.heap.objs.size]) (env0_laid env laid) un rfl
      (fun e s' => up outer s H _ _ E e s' un (fun b o q => Heap.get?_push_of_some _ q) rfl) ((r1.append rz).append (.cons rfl .nil)) len ⟨_, free, rfl, rfl⟩
    have cut : ps.length = (u1 ++ ws).length := by rw [List.length_append, l1, lw, hps]
    rw [List.zip_append cut] at got
    exact got
  · rintro s2 _ _ ⟨p, hp, rfl, rfl⟩ room'
    exact run A outer s2 _ _ Q E room' (goes p hp)
end
section
variable {X : Cx} {CX : CXT} {k : Nat} {f : Addr} {ks : List Str} {q : List V → List V → Hp → VK → XK → Prop} {E : XK} {x : Str} {p pos : Pos} {e : Expr} {es : List Expr} {kws : List Keyword} {t tk : TA}
def tCallFK (q : List V → List V → Hp → VK → XK → Prop) (n : Nat) (E : XK) (t tk : TA) : TE := fun σ H Q => t σ H fun vs H1 => tk σ H1 fun zs H2 => zs.length = n ∧ q vs zs H2 Q E
/-- f(e, .., k = v) of such a def -/
theorem pe_callFK (F : FnK X.prog X.w X.K X.mg X.base CX k f ks q) (room : Room k X.A) (gl : Gl X x) (there : X.mg x = some (.ref f)) (kp : PySem.W.keepIn X.K (.ref f) = true) (pass : Passes CX X E)
    (ha : PA X (e :: es) t) (hk : PK X kws tk) (each : (backToKw pos (keywordEach kws X.env)).all (·.1.isSome) = true := by rfl) (names : (backToKw pos (keywordEach kws X.env)).filterMap (·.1) = ks := by rfl)
    (nd : (x == ("__debug__" : Str)) = false := by decide) (st : starEach (e :: es) X.env = (false, eval e X.env) :: starEach es X.env := by rfl)
    (pl : ((backTo pos (starEach (e :: es) X.env)).any (·.1) || (backToKw pos (keywordEach kws X.env)).any (·.1.isNone)) = false := by rfl) :
    PE X (.Call (.Name x p) (e :: es) kws pos) (tCallFK q ks.length E t tk) := by
  refine ⟨fun pins s σ H Q I h => wpAny_Call_Name_kw (ld_glob I gl there ?_ nd)⟩
  refine PySem.W.callWith_KW (h₀ := X.base) I.ok.mod.kin kp each (thn (ha.run pos pins s σ H _ I h) ?_) pl st
  rintro us s1 ⟨vs, H1, I1, r, g1⟩
  refine thn (hk.run pos pins s1 σ H1 _ I1 g1) ?_
  rintro ws s2 ⟨zs, H2, I2, rz, lz, g2⟩
  refine ⟨I2.kIn, ?_⟩
  rw [names]
  refine wpAny_call (codeAny_mono (F X.A X.stack s2 H2 us ws vs zs Q E room I2.env0 r rz lz g2) fun out s' h' => ?_)
  match out, h' with
  | .error e, h' => exact pass pins σ H2 s2 e s' I2 h'
  | .ok (.ret u), h' => exact I2.after h'
  | .ok .next, h' => exact h'.elim
  | .ok .brk, h' => exact h'.elim
  | .ok .cont, h' => exact h'.elim
end
end StK

/-! an own object made within an except suite; a class that a local name holds, called with keywords -/
namespace MkH
open PySem PySem.Spec PyProof.Rows L2 L2H
section
variable {X : Cx} {CX : CXT} {k : Nat} {f C : Addr} {fd : FuncData} {ps : List Str} {sp : Sp} {x : Str} {p pos : Pos} {dvs : List V} {ds : List Value}
/-- C(): all that __init__ takes has defaults -/
theorem pe_make0H (M : Mk X.K C f) (F : FnH X.prog X.w X.K X.mg X.base CX k f fd ps sp) (room : RoomH (k + 1) X.A) (hot : HotC X) (b : Binds X.K fd ps ds) (d : Vals dvs ds) (pass : Passes CX X (fun _ _ _ => False)) (g : Gl X x) (m : X.mg x = some (.ref C))
    (nodebug : (x == ("__debug__" : Str)) = false := by decide) : PE X (.Call (.Name x p) [] [] pos) (tMake C sp dvs (fun _ _ _ => False) tNil) := by
  constructor
  intro pins s σ H Q I had
  obtain ⟨pn, h1, mem⟩ := hot
  refine wpAny_Call_Name_kw (ld_glob I g m ?_ nodebug)
  refine PySem.W.callWith_K0 I.kIn M.kp ?_
  have free : ∀ c, s.heap.objs.size ≤ c → H c = none := fun c le => I.hok.fresh le
  have had1 := had (s.heap.objs.size + 1) s.heap.objs.size (free _ (Nat.le_succ _)) (free _ (Nat.le_refl _)) (Nat.ne_of_lt (Nat.lt_succ_self _))
  have I2 := Inv.made I (C := C)
  have rel : Vals (V.ref (s.heap.objs.size + 1) :: ([] ++ dvs)) (Value.ref (s.heap.objs.size + 1) :: ([] ++ ds)) := .cons rfl d
  have len : ([Value.ref (s.heap.objs.size + 1)] ++ ds).length = ps.length := by
    rw [← F.len _ _ _ _ had1]
    exact rel.length.symm
  have at2 := I2.pin pn (List.mem_append_left _ mem)
  refine wpAny_call (make_map (f := f) I.kIn M.makes M.init (beq_iff_eq.mp M.fn) (codeAny_mono (F.run _ X.stack _ _ ⟨[Value.ref (s.heap.objs.size + 1)], []⟩ ([Value.ref (s.heap.objs.size + 1)] ++ ds) _ _ (fun _ _ _ => False) pn
    (RoomH.make room C [] []) ⟨h1.1, h1.2⟩ ⟨at2.1, at2.2.1, fun z => ?_, at2.2.2.2.2⟩ (I2.env0.make C [] []) (b _ [Value.ref (s.heap.objs.size + 1)] I2.kIn len) rel had1) fun r s2 told => ?_))
  · rcases List.mem_cons.mp (I2.stkSub pn.1 z) with z | z
    · exact at2.2.2.1 z
    · exact at2.2.2.2.1 z
  · match r, told with
    | .error e, told => exact pass pins σ _ _ e s2 I2 told
    | .ok (.ret u), told =>
      obtain ⟨v, H2, I3, ru, rfl, q⟩ := I2.after told
      exact ⟨ru, V.ref (s.heap.objs.size + 1), H2, I3, rfl, q⟩
    | .ok .next, told => exact told.elim
    | .ok .brk, told => exact told.elim
    | .ok .cont, told => exact told.elim
end
section
variable {X : Cx} {CX : CXT} {k i : Nat} {f C : Addr} {fd : FuncData} {ps ks : List Str} {sp : Sp} {E : XK} {x : Str} {p pos : Pos} {kws : List Keyword} {tk : TA} {gb : List Value → List Value → List Value} {gV : List V → List V → List V}
/-- the i-th slot holds the class C: name(k = v, ..) -/
def tMakeL (i : Nat) (C : Addr) (m : Nat) (sp : Sp) (gV : List V → List V → List V) (E : XK) (tk : TA) : TE := fun σ H Q => σ[i]? = some (some (.ref C)) ∧ tMakeK C 0 m sp gV E tNil tk σ H Q
theorem pe_makeL (M : Mk X.K C f) (F : FnOk X.prog X.w X.K X.mg X.base CX k f fd ps sp) (room : Room (k + 1) X.A) (at_ : X.N[i]? = some x) (vis : Vis X.env.scope x) (b : KBn X.K fd ps 1 ks gb gV) (pass : Passes CX X E) (kw : PK X kws tk)
    (hall : (backToKw pos (keywordEach kws X.env)).all (·.1.isSome) = true := by rfl) (hks : (backToKw pos (keywordEach kws X.env)).filterMap (·.1) = ks := by rfl) (d1 : (x == ("__debug__" : Str)) = false := by decide) (d2 : (x == ("__classdict__" : Str)) = false := by decide)
    (star : ((backTo pos (starEach [] X.env)).any (·.1) ||
      (backToKw pos (keywordEach kws X.env)).any (·.1.isNone)) = false := by rfl) :
    PE X (.Call (.Name x p) [] kws pos) (tMakeL i C ks.length sp gV E tk) := by
  constructor
  rintro pins s σ H Q I ⟨slot, had⟩
  refine wpAny_Call_Name_kw (thn ((pe_var (pos := p) at_ vis d1 d2).run pins s σ H (fun v G => v = .ref C ∧ G = H) I ⟨.ref C, slot, rfl, rfl⟩) ?_)
  rintro u s1 ⟨v, G, I1, rv, rfl, rfl⟩
  cases (show u = Value.ref C from rv)
  refine PySem.W.callWith_KW0 (h₀ := X.base)
    I.ok.mod.kin M.kp hall ?_ star
  refine thn (kw.run pos pins s1 σ G _ I1 had) ?_
  rintro ws s2 ⟨zs, G2, I2, rz, l1, l2, q⟩
  rw [hks]
  exact ⟨I2.kIn, run_makeK (us := []) (vs := []) M F room b pass I2 .nil rz rfl l2 q⟩
end
end MkH

/-! calls of methods that may raise: what they raise goes on -/
namespace MkS
open PySem PySem.Spec PyProof.Rows L2
section
variable {X : Cx} {CX : CXT} {k : Nat} {f C : Addr} {fd : FuncData} {ps : List Str} {sp : Sp} {E : L2.St → XK} {m : Str} {pos apos : Pos} {e o : Expr} {es : List Expr} {ta : TE} {t : TA} {pl : Sem Bool}
/-- o.m(e, ..) -/
theorem pe_methS (he : PE X o ta) (c : Cls X.K C) (hm : Meth X.K C m f) (F : FnOk X.prog X.w X.K X.mg X.base CX k f fd ps sp) (room : Room k X.A) (b : Binds X.K fd ps []) (pass : ∀ σ, PassesAt CX X σ (E σ)) (ha : PA X (e :: es) t)
    (one : starEach (e :: es) X.env = (false, eval e X.env) :: starEach es X.env := by rfl) (more : (backTo pos (starEach es X.env)).any (·.1) = false := by rfl)
    (road : eval (.Call (.Attribute o m apos) (e :: es) [] pos) X.env = (do
      let it ← eval o X.env
      standAt apos.atName
      let (fn, self) ← holding [it] (getMethod it m pl)
      callWith pos fn self (backTo pos (starEach (e :: es) X.env)) (backToKw pos (keywordEach [] X.env))) := by rfl) :
    PE X (.Call (.Attribute o m apos) (e :: es) [] pos) (L2H.tMethH C m sp E ta t) := by
  constructor
  intro pins s σ H Q I had
  refine PySem.W.methodCall_KW (pl := pl) (thn (he.run pins s σ H _ I had) ?_) road
  rintro u s1 ⟨x, H1, I1, ru, a, dx, fs, rfl, at_, no, q⟩
  cases (show u = Value.ref a from ru); skip
  refine getmeth_ok I1 at_ c hm no (PySem.W.callWith_K (first := [.ref a]) (h₀ := X.base) I.ok.mod.kin hm.kp (thn (ha.run pos pins s1 σ H1 _ I1 q) ?_) one more)
  rintro us s2 ⟨vs, H2, I2, r, q2⟩
  exact ⟨I2.kIn, run_fnS (us := .ref a :: us) (vs := .ref a :: vs) F room b (pass σ) I2 (.cons rfl r) q2⟩
end
section
variable {X : Cx} {CX : CXT} {k n : Nat} {f C : Addr} {fd : FuncData} {ps ks : List Str} {sp : Sp} {E : L2.St → XK} {x : Str} {p pos : Pos} {kws : List Keyword} {tk : TA} {gb : List Value → List Value → List Value} {gV : List V → List V → List V}
/-- a new object by keywords, its __init__ may raise -/
theorem run_makeS {pins : List (Addr × Obj)} {σ : L2.St} {H : Hp} {s : Shared} {Q : VK} {ws : List Value} {zs : List V} (M : Mk X.K C f) (F : FnOk X.prog X.w X.K X.mg X.base CX k f fd ps sp) (room : Room (k + 1) X.A) (b : KBn X.K fd ps 1 ks gb gV) (pass : PassesAt CX X σ (E σ))
    (I : Inv X pins σ H s) (rz : Vals zs ws) (lz : zs.length = ks.length)
    (had : ∀ c dx, H c = none → H dx = none → dx ≠ c → sp (gV [.ref c] zs) (upd (upd H dx (.own c)) c (.ins C dx [])) (fun v G => v = .non ∧ Q (.ref c) G) (E σ)) :
    wpAny (model X.prog X.w) X.A (call (.ref C) [] (ks.zip ws)) (EP X pins σ Q) X.xe s := by
  have free : ∀ c, s.heap.objs.size ≤ c → H c = none := fun c le => I.hok.fresh le
  have had1 := had (s.heap.objs.size + 1) s.heap.objs.size (free _ (Nat.le_succ _)) (free _ (Nat.le_refl _)) (Nat.ne_of_lt (Nat.lt_succ_self _))
  have I2 := Inv.made I (C := C)
  have self : Vals [V.ref (s.heap.objs.size + 1)] [Value.ref (s.heap.objs.size + 1)] := .cons rfl .nil
  refine wpAny_call (make_map (f := f) I.kIn M.makes M.init (beq_iff_eq.mp M.fn) (codeAny_mono (F.run _ X.stack _ _ ⟨[Value.ref (s.heap.objs.size + 1)], ks.zip ws⟩ (gb [Value.ref (s.heap.objs.size + 1)] ws) _ _ (E σ) (room.make C [] (ks.zip ws))
    (I2.env0.make C [] (ks.zip ws)) (b.to _ _ ws I2.kIn rfl (rz.length.symm.trans lz)) (b.rel self rz) had1) fun r s2 told => ?_))
  match r, told with
  | .error e, told => exact pass pins _ _ e s2 I2 told
  | .ok (.ret u), told =>
    obtain ⟨v, G, I3, ru, rfl, q⟩ := I2.after told
    exact ⟨ru, V.ref (s.heap.objs.size + 1), G, I3, rfl, q⟩
  | .ok .next, told => exact told.elim
  | .ok .brk, told => exact told.elim
  | .ok .cont, told => exact told.elim
/-- C(k = v, ..) -/
def tMakeS (C : Addr) (m : Nat) (sp : Sp) (gV : List V → List V → List V) (E : L2.St → XK) (tk : TA) : TE := fun σ H Q => tk σ H fun zs G => zs.length = m ∧ ∀ c dx, G c = none → G dx = none → dx ≠ c →
  sp (gV [.ref c] zs) (upd (upd G dx (.own c)) c (.ins C dx [])) (fun v G2 => v = .non ∧ Q (.ref c) G2) (E σ)
theorem pe_makeS (M : Mk X.K C f) (F : FnOk X.prog X.w X.K X.mg X.base CX k f fd ps sp) (room : Room (k + 1) X.A) (g : Gl X x) (m : X.mg x = some (.ref C)) (b : KBn X.K fd ps 1 ks gb gV) (pass : ∀ σ, PassesAt CX X σ (E σ)) (kw : PK X kws tk)
    (hall : (backToKw pos (keywordEach kws X.env)).all (·.1.isSome) = true := by rfl) (hks : (backToKw pos (keywordEach kws X.env)).filterMap (·.1) = ks := by rfl) (nodebug : (x == ("__debug__" : Str)) = false := by decide)
    (star : ((backTo pos (starEach [] X.env)).any (·.1) ||
      (backToKw pos (keywordEach kws X.env)).any (·.1.isNone)) = false := by rfl) :
    PE X (.Call (.Name x p) [] kws pos) (tMakeS C ks.length sp gV E tk) := by
  constructor
  intro pins s σ H Q I had
  refine wpAny_Call_Name_kw (ld_glob I g m ?_ nodebug)
  refine PySem.W.callWith_KW0 (h₀ := X.base) I.ok.mod.kin M.kp hall (thn (kw.run pos pins s σ H _ I had) ?_) star
  rintro ws s2 ⟨zs, G2, I2, rz, lz, q⟩
  rw [hks]
  exact ⟨I2.kIn, run_makeS M F room b (pass σ) I2 rz lz q⟩
end
end MkS

/-! a call of a class method that may raise -/
namespace MkS
open PySem PySem.Spec PyProof.Rows L2 ClX
section
variable {X : Cx} {CX : CXT} {k : Nat} {C p g : Addr} {mc : Value} {fd : FuncData} {ps : List Str} {sp : Sp} {E : L2.St → XK} {m : Str} {pos apos : Pos} {o e : Expr} {es : List Expr} {to : TE} {t : TA} {pl : Sem Bool}
def tCMethS (C : Addr) (sp : Sp) (E : L2.St → XK) (to : TE) (t : TA) : TE := fun σ H Q => to σ H fun x G => x = .ref C ∧ t σ G fun zs G2 => sp (.ref C :: zs) G2 Q (E σ)
/-- K.m(e, ..) -/
theorem pe_cmethS (he : PE X o to) (r : CRead X.K C mc) (c : CMet X.K C mc m p g) (F : FnOk X.prog X.w X.K X.mg X.base CX k g fd ps sp) (room : Room k X.A) (b : Binds X.K fd ps []) (pass : ∀ σ, PassesAt CX X σ (E σ)) (ha : PA X (e :: es) t)
    (one : starEach (e :: es) X.env = (false, eval e X.env) :: starEach es X.env := by rfl) (more : (backTo pos (starEach es X.env)).any (·.1) = false := by rfl)
    (road : eval (.Call (.Attribute o m apos) (e :: es) [] pos) X.env = (do
      let it ← eval o X.env
      standAt apos.atName
      let (fn, self) ← holding [it] (getMethod it m pl)
      callWith pos fn self (backTo pos (starEach (e :: es) X.env)) (backToKw pos (keywordEach [] X.env))) := by rfl) :
    PE X (.Call (.Attribute o m apos) (e :: es) [] pos) (tCMethS C sp E to t) := by
  constructor
  intro pins s σ H Q I had
  refine PySem.W.methodCall_KW (pl := pl) (thn (he.run pins s σ H _ I had) ?_) road
  rintro u s1 ⟨x, G, I1, ru, rfl, q⟩
  cases (show u = Value.ref C from ru)
  refine getmethcm_ok I1 r c ?_
  intro s2 I2
  refine callwith_cm I2 (base_none I1 (Nat.le_refl _)) c.fi (thn (ha.run pos _ s2 σ G _ I2 q) ?_) one more
  rintro us s3 ⟨zs, G2, I3, rz, q2⟩
  refine ⟨⟨pin_at I3, I3.kIn⟩, ?_⟩
  have both : Vals (V.ref C :: zs) (Value.ref C :: us) := .cons rfl rz
  have len : (Value.ref C :: us).length = ps.length := both.length.symm.trans (F.len _ _ _ _ q2)
  have args := b s3 (.ref C :: us) I3.kIn (by rw [List.append_nil]; exact len)
  rw [List.append_nil] at args
  have z : wpAny (model X.prog X.w) X.A (call (.ref s1.heap.objs.size) us) (EP X ((s1.heap.objs.size, PySem.W.methodObj (.ref g) (.ref C)) :: pins) σ Q) X.xe s3 := by
    refine wpAny_call (PySem.W.method_call (pin_at I3) (codeAny_mono (F.run X.A X.stack s3 G2 ⟨.ref C :: us, []⟩ (.ref C :: us) (.ref C :: zs) Q (E σ) room I3.env0 args both q2) ?_))
    intro r s4 told
    match r, told with
    | .error e, told => exact pass σ _ _ _ e s4 I3 told
    | .ok (.ret u), told => exact I3.after told
    | .ok .next, told => exact told.elim
    | .ok .brk, told => exact told.elim
    | .ok .cont, told => exact told.elim
  exact thn z fun _ _ told => unpinE told
end
end MkS

/-! more calls that may raise: a method without arguments, a class in a local name; a def with defaults where an exception is handled -/
namespace MkS
open PySem PySem.Spec PyProof.Rows L2
section
variable {X : Cx} {CX : CXT} {k : Nat} {f C : Addr} {fd : FuncData} {ps : List Str} {sp : Sp} {E : L2.St → XK} {m : Str} {pos apos : Pos} {o : Expr} {ta : TE} {pl : Sem Bool}
/-- o.m() -/
def tMethS0 (C : Addr) (m : Str) (sp : Sp) (E : L2.St → XK) (ta : TE) : TE := fun σ H Q => ta σ H fun x H1 => ∃ a dx fs, x = .ref a ∧ H1 a = some (.ins C dx fs) ∧ fs.lookup m = none ∧ sp [.ref a] H1 Q (E σ)
theorem pe_methS0 (he : PE X o ta) (c : Cls X.K C) (hm : Meth X.K C m f) (F : FnOk X.prog X.w X.K X.mg X.base CX k f fd ps sp) (room : Room k X.A) (b : Binds X.K fd ps []) (pass : ∀ σ, PassesAt CX X σ (E σ))
    (road : eval (.Call (.Attribute o m apos) [] [] pos) X.env = (do
      let it ← eval o X.env
      standAt apos.atName
      let (fn, self) ← holding [it] (getMethod it m pl)
      callWith pos fn self (backTo pos (starEach [] X.env)) (backToKw pos (keywordEach [] X.env))) := by rfl) :
    PE X (.Call (.Attribute o m apos) [] [] pos) (tMethS0 C m sp E ta) := by
  constructor
  intro pins s σ H Q I had
  refine PySem.W.methodCall_KW (pl := pl) (thn (he.run pins s σ H _ I had) ?_) road
  rintro u s1 ⟨x, H1, I1, ru, a, dx, fs, rfl, at_, no, q⟩
  cases (show u = Value.ref a from ru); skip
  refine getmeth_ok I1 at_ c hm no (PySem.W.callWith_K0 (first := [.ref a]) I1.kIn hm.kp ?_)
  exact run_fnS (us := [.ref a]) (vs := [.ref a]) F room b (pass σ) I1 (.cons rfl .nil) q
end
section
variable {X : Cx} {CX : CXT} {k i : Nat} {f C : Addr} {fd : FuncData} {ps ks : List Str} {sp : Sp} {E : L2.St → XK} {x : Str} {p pos : Pos} {kws : List Keyword} {tk : TA} {gb : List Value → List Value → List Value} {gV : List V → List V → List V}
/-- the i-th slot holds the class C: name(k = v, ..), its __init__ may raise -/
def tMakeLS (i : Nat) (C : Addr) (m : Nat) (sp : Sp) (gV : List V → List V → List V) (E : L2.St → XK) (tk : TA) : TE := fun σ H Q => σ[i]? = some (some (.ref C)) ∧ tMakeS C m sp gV E tk σ H Q
theorem pe_makeLS (M : Mk X.K C f) (F : FnOk X.prog X.w X.K X.mg X.base CX k f fd ps sp) (room : Room (k + 1) X.A) (at_ : X.N[i]? = some x) (vis : Vis X.env.scope x) (b : KBn X.K fd ps 1 ks gb gV) (pass : ∀ σ, PassesAt CX X σ (E σ)) (kw : PK X kws tk)
    (hall : (backToKw pos (keywordEach kws X.env)).all (·.1.isSome) = true := by rfl) (hks : (backToKw pos (keywordEach kws X.env)).filterMap (·.1) = ks := by rfl) (d1 : (x == ("__debug__" : Str)) = false := by decide) (d2 : (x == ("__classdict__" : Str)) = false := by decide)
    (star : ((backTo pos (starEach [] X.env)).any (·.1) ||
      (backToKw pos (keywordEach kws X.env)).any (·.1.isNone)) = false := by rfl) :
    PE X (.Call (.Name x p) [] kws pos) (tMakeLS i C ks.length sp gV E tk) := by
  constructor
  rintro pins s σ H Q I ⟨slot, had⟩
  refine wpAny_Call_Name_kw (thn ((pe_var (pos := p) at_ vis d1 d2).run pins s σ H (fun v G => v = .ref C ∧ G = H) I ⟨.ref C, slot, rfl, rfl⟩) ?_)
  rintro u s1 ⟨v, G, I1, rv, rfl, rfl⟩
  cases (show u = Value.ref C from rv)
  refine PySem.W.callWith_KW0 (h₀ := X.base)
    I.ok.mod.kin M.kp hall ?_ star
  refine thn (kw.run pos pins s1 σ G _ I1 had) ?_
  rintro ws s2 ⟨zs, G2, I2, rz, lz, q⟩
  rw [hks]
  exact ⟨I2.kIn, run_makeS M F room b (pass σ) I2 rz lz q⟩
end
end MkS
namespace L2
open PySem PySem.Spec PyProof.Rows
section
variable {P : Program} {w : World} {K : PySem.W.Frag} {mg : Str → Option Value} {base : Heap}
/-- a def with defaults called where an exception is handled, lets none out -/
theorem FunD.okH {x qual : Str} {params : Arguments} {body : List Stmt} {scope : Scope} {dvs : List V} {kws : List (Str × V)} {f : Addr} {fd : FuncData} {N ps : List Str} {k : Nat} {sp : Sp} (F : FunD K x qual params body scope dvs kws f fd) (S : FnScope N ps scope) (len : ∀ vs H Q E, sp vs H Q E → vs.length = ps.length)
    (walk : ∀ (cdv : Value) (A : Around) (outer : List Env) (s : Shared) (H : Hp) (vs : List V) (Q : VK) (E : XK) (p : Addr × Obj), L2H.Hot1 A p → L2H.RoomH k (A.deeper (envOfC qual scope s.heap.objs.size f cdv)) → sp vs H Q E →
      ∃ t, PSs (L2H.cxH CX0 P w K mg base N qual scope f cdv A outer s H E p).nox body t ∧ t { nx := fun _ H' => Q .non H', rt := Q } (start N vs) H) : L2H.FnH P w K mg base CX0 (k + 1) f fd ps sp := by
  obtain ⟨oc, od, dV, kV, doc, pm, an, cdv, ct, osl, rfl, lk, hcd, _, _⟩ := F.ex
  refine L2H.fn_ofH lk hcd S len fun A outer s H vs Q E p hot hr hsp => ?_
  obtain ⟨t, h, q⟩ := walk cdv A outer s H vs Q E p hot hr hsp
  exact ⟨t, h.nox, q⟩
/-- no keyword written: as if called by position with the defaults -/
theorem KBn.binds {fd : FuncData} {ps : List Str} {gb : List Value → List Value → List Value} {gV : List V → List V → List V} {ds : List Value} (b : KBn K fd ps 1 [] gb gV) (h : ∀ u, gb [u] [] = u :: ds) (hl : ps.length = ds.length + 1) : Binds K fd ps ds := by
  intro s us X l
  have e : us.length = 1 := by
    rw [List.length_append] at l
    omega
  match us, e with
  | [u], _ =>
    have z := b.to s [u] [] X rfl rfl
    rw [h u] at z
    exact z
end
end L2
namespace L2
open PySem PySem.Spec PyProof.Rows
theorem ix_kdictK {X : Cx} {K : PySem.W.Frag} {w : World} (h : X.K = K) (hw : X.w = w) : IxR X (rIxD K w) := by
  subst h
  subst hw
  exact ix_kdict
end L2
namespace L2
open PySem PySem.Spec PyProof.Rows
theorem pe_fldK {X : Cx} {K : PySem.W.Frag} {e : Expr} {f : Str} {pos : Pos} {ta : TE} (h : X.K = K) (it : PE X e ta) (hb : attributeBase e f X.env (eval e X.env) = eval e X.env) : PE X (.Attribute e f pos) (tFld K ta f) := by
  subst h
  exact pe_fld it hb
end L2

/-! == and repr of an instance with its own __eq__, __repr__ -/
namespace OwI
open PySem PySem.Spec PyProof.Rows L2
theorem stands {X : Cx} {pins : List (Addr × Obj)} {σ : L2.St} {H : Hp} {s : Shared} {a C dx : Addr} {fs : List (Str × V)} (I : Inv X pins σ H s) (e : H a = some (.ins C dx fs)) : ∃ o od, PySem.W.InstAt s.heap a o C (some od) := by
  obtain ⟨mA, O, _⟩ := ins_get I.hok e
  obtain ⟨od, J, _⟩ := O.look
  exact ⟨_, od, J⟩
/-- x op y, x an instance of the class at C whose def for op is at g, y an instance of the same class -/
def rOwnI (K : PySem.W.Frag) (C : Addr) (sp : Sp) (E : XK) : R2 := fun x y H Q => ∃ a dx fs b dy gs, x = .ref a ∧ y = .ref b ∧ H a = some (.ins C dx fs) ∧ H b = some (.ins C dy gs) ∧ PySem.W.notFirst K C (.ref C) = true ∧ sp [x, y] H Q E
section
variable {X : Cx} {CX : CXT} {C g : Addr} {n : Nat} {sp : Sp} {E : XK}
theorem op_ownI {op : CmpOp} (road : ∀ a b, compareOp op a b = richCompare op a b) (own : PySem.W.findIn X.K (.ref C) (cmpInfo op).2.1 = some (some (.ref g))) (isf : PySem.W.isFn X.K (.ref g) = true) (F : FnR X.prog X.w X.K X.mg X.base CX n g sp)
    (room : Room n X.A) (pass : Passes CX X E) : OpR X (compareOp op) (rOwnI X.K C sp E) := by
  rintro pins s σ H _ _ v u Q I rv ru ⟨a, dx, fs, b, dy, gs, rfl, rfl, ha, hb, nf, had⟩
  cases (show v = Value.ref a from rv)
  cases (show u = Value.ref b from ru)
  obtain ⟨o, od, J⟩ := stands I ha
  obtain ⟨o2, od2, J2⟩ := stands I hb
  obtain ⟨m, fr⟩ := I.fr
  rw [road]
  refine PySem.W.cmp_K (op := op) (tb := .ref C) room.units0 fr I.ok.mod.kin J J2.type nf own isf ?_
  refine wpAny_mono (wpAny_call (run_fnR (us := [.ref a, .ref b]) (vs := [.ref a, .ref b]) F room pass I (.cons rfl (.cons rfl .nil)) had)) ?_ fun _ _ z => z
  rintro w z ⟨y, G, I2, ry, q⟩
  exact SlX.cmpback ry ⟨y, G, I2, ry, q⟩
/-- repr(x), x an instance of the class at C with its own __repr__ at g -/
def rReprI (C : Addr) (sp : Sp) (E : XK) : List V → Hp → VK → Prop := fun xs H Q => ∃ a dx fs, xs = [.ref a] ∧ H a = some (.ins C dx fs) ∧ sp [.ref a] H (fun y G => ∃ t : Str, y = .str t ∧ Q y G) E
theorem call_reprI (own : PySem.W.findIn X.K (.ref C) "__repr__" = some (some (.ref g))) (isf : PySem.W.isFn X.K (.ref g) = true) (F : FnR X.prog X.w X.K X.mg X.base CX n g sp) (room : Room (n + 1) X.A) (pass : Passes CX X E) : CallR X (.builtin "repr") (rReprI C sp E) := by
  rintro pins s σ H _ us Q I rel ⟨a, dx, fs, rfl, ha, had⟩
  obtain ⟨u, rfl, ru⟩ := vals1 rel
  cases (show u = Value.ref a from ru); skip
  obtain ⟨o, od, J⟩ := stands I ha
  obtain ⟨m, fr⟩ := I.fr
  have room1 : Room n X.A.in1 := Room.in1 room
  refine PySem.W.repr_K room1.units0 fr I.ok.mod.kin J own isf ?_
  refine wpAny_mono (wpAny_call (SlX.run_at (us := [.ref a]) (ws := [.ref a]) F room1 I.env0.in1 pass I (.cons rfl .nil) had)) ?_ fun _ _ z => z
  rintro w z ⟨y, G, I2, ry, t, rfl, q⟩
  obtain ⟨tk, rfl⟩ := (show ∃ tk, w = Value.str t tk from ry)
  exact ⟨.str t, G, I2, ⟨tk, rfl⟩, q⟩
end
end OwI

/-! x + y, -x, len(x), v in x of an instance with its own defs for them -/
namespace OwI
open PySem PySem.Spec PyProof.Rows L2
section
variable {X : Cx} {CX : CXT} {C g : Addr} {n : Nat} {sp : Sp} {E : XK}
/-- x op y by x's own def, y an instance of the same class -/
def rBinI (C : Addr) (sp : Sp) (E : XK) : R2 := fun x y H Q => ∃ a dx fs b dy gs, x = .ref a ∧ y = .ref b ∧ H a = some (.ins C dx fs) ∧ H b = some (.ins C dy gs) ∧ sp [x, y] H Q E
theorem op_binI {op : Operator} (own : PySem.W.findIn X.K (.ref C) (PySem.dunder op.info.2) = some (some (.ref g))) (isf : PySem.W.isFn X.K (.ref g) = true) (sf : PySem.W.selfFirst X.K C = true) (F : FnR X.prog X.w X.K X.mg X.base CX n g sp)
    (room : Room n X.A) (pass : Passes CX X E) : OpR X (binaryOp op) (rBinI C sp E) := by
  rintro pins s σ H _ _ v u Q I rv ru ⟨a, dx, fs, b, dy, gs, rfl, rfl, ha, hb, had⟩
  cases (show v = Value.ref a from rv)
  cases (show u = Value.ref b from ru)
  obtain ⟨o, od, J⟩ := stands I ha
  obtain ⟨o2, od2, J2⟩ := stands I hb
  obtain ⟨m, fr⟩ := I.fr
  refine PySem.W.binop_K fr I.ok.mod.kin J J2.type sf own isf ?_
  refine wpAny_mono (wpAny_call (run_fnR (us := [.ref a, .ref b]) (vs := [.ref a, .ref b]) F room pass I (.cons rfl (.cons rfl .nil)) had)) ?_ fun _ _ z => z
  rintro w z ⟨y, G, I2, ry, q⟩
  exact SlX.cmpback ry ⟨y, G, I2, ry, q⟩
/-- -x by x's own def -/
def rNegI (C : Addr) (sp : Sp) (E : XK) : V → Hp → VK → Prop := fun x H Q => ∃ a dx fs, x = .ref a ∧ H a = some (.ins C dx fs) ∧ sp [x] H Q E
theorem un_negI (own : PySem.W.findIn X.K (.ref C) "__neg__" = some (some (.ref g))) (isf : PySem.W.isFn X.K (.ref g) = true) (F : FnR X.prog X.w X.K X.mg X.base CX n g sp)
    (room : Room n X.A) (pass : Passes CX X E) : UnR X (unaryOp .USub) (rNegI C sp E) := by
  rintro pins s σ H _ v Q I rv ⟨a, dx, fs, rfl, ha, had⟩
  cases (show v = Value.ref a from rv)
  obtain ⟨o, od, J⟩ := stands I ha
  obtain ⟨m, fr⟩ := I.fr
  unfold unaryOp
  refine wpAny_holding ?_
  show wpAny _ _ (do
    match ← callSpecial? (.ref a) "__neg__" with
    | some r => pure r
    | none => _) _ _ _
  refine wpAny_bind (PySem.W.special_fn (I.ok.mod.kin.keeps fr.keep) J own (beq_iff_eq.mp isf) ?_)
  refine wpAny_mono (wpAny_call (run_fnR (us := [.ref a]) (vs := [.ref a]) F room pass I (.cons rfl .nil) had)) ?_ fun _ _ z => z
  intro w z h
  exact wpAny_pure h
/-- len(x) by x's own def -/
def rLenI (C : Addr) (sp : Sp) (E : XK) : List V → Hp → VK → Prop := fun xs H Q => ∃ a dx fs, xs = [.ref a] ∧ H a = some (.ins C dx fs) ∧ sp [.ref a] H (fun y G => ∃ i : Int, y = .int i ∧ 0 ≤ i ∧ i < 2 ^ 63 ∧ Q y G) E
theorem call_lenI (own : PySem.W.findIn X.K (.ref C) "__len__" = some (some (.ref g))) (isf : PySem.W.isFn X.K (.ref g) = true) (F : FnR X.prog X.w X.K X.mg X.base CX n g sp) (room : Room (n + 1) X.A) (pass : Passes CX X E) : CallR X (.builtin "len") (rLenI C sp E) := by
  rintro pins s σ H _ us Q I rel ⟨a, dx, fs, rfl, ha, had⟩
  obtain ⟨u, rfl, ru⟩ := vals1 rel
  cases (show u = Value.ref a from ru); skip
  obtain ⟨o, od, J⟩ := stands I ha
  obtain ⟨m, fr⟩ := I.fr
  have room1 : Room n X.A.in1 := Room.in1 room
  refine PySem.W.len_K fr I.ok.mod.kin J own isf ?_
  refine wpAny_mono (wpAny_call (SlX.run_at (us := [.ref a]) (ws := [.ref a]) F room1 I.env0.in1 pass I (.cons rfl .nil) had)) ?_ fun _ _ z => z
  rintro w z ⟨y, G, I2, ry, i, rfl, h0, h1, q⟩
  obtain ⟨tk, rfl⟩ := (show ∃ tk, w = Value.int i tk from ry)
  exact ⟨⟨h0, h1⟩, .int i, G, I2.tok _, ⟨_, rfl⟩, q⟩
/-- v in x by x's own def -/
def rInI (C : Addr) (sp : Sp) (E : XK) : R2 := fun x y H Q => ∃ a dx fs, y = .ref a ∧ H a = some (.ins C dx fs) ∧ sp [y, x] H (fun z G => ∃ c : Bool, z = .bl c ∧ Q z G) E
theorem op_inI (own : PySem.W.findIn X.K (.ref C) "__contains__" = some (some (.ref g))) (isf : PySem.W.isFn X.K (.ref g) = true) (F : FnR X.prog X.w X.K X.mg X.base CX n g sp)
    (room : Room n X.A) (pass : Passes CX X E) : OpR X (compareOp .In) (rInI C sp E) := by
  rintro pins s σ H x _ v u Q I rv ru ⟨a, dx, fs, rfl, ha, had⟩
  cases (show u = Value.ref a from ru)
  obtain ⟨o, od, J⟩ := stands I ha
  obtain ⟨m, fr⟩ := I.fr
  refine PySem.W.in_K fr I.ok.mod.kin J own isf ?_
  refine wpAny_mono (wpAny_call (run_fnR (us := [.ref a, v]) (vs := [.ref a, x]) F room pass I (.cons rfl (.cons rv .nil)) had)) ?_ fun _ _ z => z
  rintro w z ⟨y, G, I2, ry, c, rfl, q⟩
  cases (show w = Value.bool c from ry)
  exact wpAny_pure ⟨.bl c, G, I2, rfl, q⟩
/-- a op b, a's own def, that may raise: its promise with a pass at each state -/
def tBinIS (C : Addr) (sp : Sp) (E : L2.St → XK) (ta tb : TE) : TE := fun σ H Q => ta σ H fun x H1 => tb σ H1 fun y H2 => ∃ a dx fs b dy gs, x = .ref a ∧ y = .ref b ∧ H2 a = some (.ins C dx fs) ∧ H2 b = some (.ins C dy gs) ∧ sp [x, y] H2 Q (E σ)
theorem pe_binIS {f : Addr} {fd : FuncData} {ps : List Str} {op : Operator} {ES : L2.St → XK} {ea eb : Expr} {ta tb : TE} {pos : Pos} (own : PySem.W.findIn X.K (.ref C) (PySem.dunder op.info.2) = some (some (.ref f))) (isf : PySem.W.isFn X.K (.ref f) = true) (sf : PySem.W.selfFirst X.K C = true)
    (F : FnOk X.prog X.w X.K X.mg X.base CX n f fd ps sp) (room : Room n X.A) (bd : Binds X.K fd ps []) (pass : ∀ σ, PassesAt CX X σ (ES σ)) (ha : PE X ea ta) (hb : PE X eb tb) : PE X (.BinOp ea op eb pos) (tBinIS C sp ES ta tb) := by
  constructor
  intro pins s σ H Q I had
  refine wpAny_BinOp (binT ha hb I had ?_)
  rintro v u s2 x y H2 I2 rv ru ⟨a, dx, fs, b, dy, gs, rfl, rfl, h1, h2, q⟩
  cases (show v = Value.ref a from rv)
  cases (show u = Value.ref b from ru)
  obtain ⟨o, od, J⟩ := stands I2 h1
  obtain ⟨o2, od2, J2⟩ := stands I2 h2
  obtain ⟨m, fr⟩ := I2.fr
  refine PySem.W.binop_K fr I2.ok.mod.kin J J2.type sf own isf ?_
  refine wpAny_mono (run_fnS (us := [.ref a, .ref b]) (vs := [.ref a, .ref b]) F room bd (pass σ) I2 (.cons rfl (.cons rfl .nil)) q) ?_ fun _ _ z => z
  rintro w z ⟨y, G, I3, ry, q2⟩
  exact SlX.cmpback ry ⟨y, G, I3, ry, q2⟩
/-- an expression in a row that is never come to -/
theorem pe_never {ea : Expr} : PE X ea (fun _ _ _ => False) := ⟨fun _ _ _ _ _ _ z => z.elim⟩
/-- x in l within a comprehension -/
theorem op_inKK {K : PySem.W.Frag} (h : X.K = K) : OpR X (compareOp .In) (rIn K false) := h ▸ op_in_seq
end
end OwI

/-! repr of data: a def's promise where no repr is under way (no guard stands) -/
namespace GdR
open PySem PySem.Spec PyProof.Rows L2
theorem deeper_g (A : Around) (env : Env) (h : A.guards = some []) : (A.deeper env).guards = some [] := by
  obtain ⟨hd, d, fr, gs, u⟩ := A
  have h : gs = some [] := h
  subst h
  rfl
theorem caller_g : callerA.guards = some [] := by
  first
  | rfl
  | decide
/-- a def's promise, kept where no guard stands -/
structure FnG (P : Program) (w : World) (K : PySem.W.Frag) (mg : Str → Option Value) (base : Heap) (CX : CXT) (k : Nat) (f : Addr) (fd : FuncData) (ps : List Str) (sp : Sp) : Prop where
  len : ∀ vs H Q E, sp vs H Q E → vs.length = ps.length
  run : ∀ (A : Around) (outer : List Env) (s : Shared) (H : Hp) (args : Args) (us : List Value) (vs : List V) (Q : VK) (E : XK), A.guards = some [] → Room k A → Env0 P w K mg base A outer s H → BindsTo s fd args (ps.zip us) → Vals vs us → sp vs H Q E →
    codeAny (model P w) A (.call (.ref f) args) (CR CX outer P w H s Q E) s
theorem fng_of {P : Program} {w : World} {K : PySem.W.Frag} {mg : Str → Option Value} {base : Heap} {CX : CXT} {k : Nat} {f : Addr} {fd : FuncData} {ps : List Str} {sp : Sp} (F : FnOk P w K mg base CX k f fd ps sp) : FnG P w K mg base CX k f fd ps sp := ⟨F.len, fun A outer s H args us vs Q E _ => F.run A outer s H args us vs Q E⟩
theorem FnG.mono {P : Program} {w : World} {K : PySem.W.Frag} {mg : Str → Option Value} {base : Heap} {CX : CXT} {j k : Nat} {f : Addr} {fd : FuncData} {ps : List Str} {sp : Sp} (F : FnG P w K mg base CX j f fd ps sp) (h : j ≤ k) : FnG P w K mg base CX k f fd ps sp := ⟨F.len, fun A outer s H args us vs Q E hg hr => F.run A outer s H args us vs Q E hg (hr.mono h)⟩
section
variable {X : Cx} {CX : CXT} {C g f : Addr} {n k : Nat} {sp : Sp} {E : XK} {fd : FuncData} {ps : List Str} {ds : List Value} {dvs : List V} {x : Str} {p pos : Pos} {e : Expr} {es : List Expr} {t : TA}
/-- a call where no guard stands -/
theorem run_fng {pins : List (Addr × Obj)} {σ : L2.St} {H : Hp} {s : Shared} {Q : VK} {us : List Value} {vs : List V} (F : FnG X.prog X.w X.K X.mg X.base CX k f fd ps sp) (gd : X.A.guards = some []) (hr : Room k X.A) (hb : Binds X.K fd ps ds) (hd : Vals dvs ds) (hx : Passes CX X E)
    (I : Inv X pins σ H s) (r : Vals vs us) (h : sp (vs ++ dvs) H Q E) : wpAny (model X.prog X.w) X.A (call (.ref f) us) (EP X pins σ Q) X.xe s := by
  have both : Vals (vs ++ dvs) (us ++ ds) := r.append hd
  have hl : (us ++ ds).length = ps.length := both.length ▸ F.len _ _ _ _ h
  refine wpAny_call (codeAny_mono (F.run X.A X.stack s H ⟨us, []⟩ (us ++ ds) (vs ++ dvs) Q E gd hr I.env0 (hb s us I.kIn hl) both h) fun r s' told => ?_)
  match r, told with
  | .error e, told => exact hx pins σ H s e s' I told
  | .ok (.ret u), told => exact I.after told
  | .ok .next, told => exact told.elim
  | .ok .brk, told => exact told.elim
  | .ok .cont, told => exact told.elim
theorem pe_callG (F : FnG X.prog X.w X.K X.mg X.base CX k f fd ps sp) (gd : X.A.guards = some []) (room : Room k X.A) (gl : Gl X x) (m : X.mg x = some (.ref f)) (kp : PySem.W.keepIn X.K (.ref f) = true) (b : Binds X.K fd ps ds) (vd : Vals dvs ds) (pass : Passes CX X E) (ha : PA X (e :: es) t)
    (nodebug : (x == ("__debug__" : Str)) = false := by decide) (st : starEach (e :: es) X.env = (false, eval e X.env) :: starEach es X.env := by rfl) (pl : (backTo pos (starEach es X.env)).any (·.1) = false := by rfl) :
    PE X (.Call (.Name x p) (e :: es) [] pos) (tCall sp dvs E t) := by
  constructor
  intro pins s σ H Q I had
  refine wpAny_Call_Name_kw (ld_glob I gl m ?_ nodebug)
  refine PySem.W.callWith_K (h₀ := X.base) I.ok.mod.kin kp (thn (ha.run pos pins s σ H _ I had) ?_) st pl
  rintro us s1 ⟨vs, H1, I1, r, q⟩
  exact ⟨I1.kIn, run_fng F gd room b vd pass I1 r q⟩
/-- repr(x), x data of lists and tuples -/
def rReprD (K : PySem.W.Frag) : List V → Hp → VK → Prop := fun xs H Q => ∃ (a : Addr) (d : PyData), xs = [.ref a] ∧ Dp K H (.ref a) d ∧ d.showable = true ∧ d.hasDict = false ∧ d.depth ≤ 60 ∧ d.shown.length ≤ sizeLine ∧ Q (.str d.shown) H
theorem call_reprD (gd : X.A.guards = some []) (room : X.A.units + 65 < cLine) : CallR X (.builtin "repr") (rReprD X.K) := by
  rintro pins s σ H _ us Q I rel ⟨a, d, rfl, hd, sh, nd, dp, sz, q⟩
  obtain ⟨u, rfl, ru⟩ := vals1 rel
  cases (show u = Value.ref a from ru)
  obtain ⟨as, r⟩ := Dp.reads I d (.ref a) _ hd rfl
  exact repr_of_reads' r sh (PyData.noDict_hsm nd) gd (by omega) (fun _ _ e => e) (fun h' u tk keep => ⟨.str d.shown, H, I.kept keep, ⟨_, rfl⟩, q⟩) sz
/-- {x!r}, x such data -/
def tFmtRD (K : PySem.W.Frag) (te : TE) : TE := fun σ H Q => te σ H fun x H1 => ∃ (a : Addr) (d : PyData), x = .ref a ∧ Dp K H1 (.ref a) d ∧ d.showable = true ∧ d.hasDict = false ∧ d.depth ≤ 60 ∧ d.shown.length ≤ sizeLine ∧ Q (.str d.shown) H1
theorem pe_fmtRD (gd : X.A.guards = some []) (room : X.A.units + 65 < cLine) {te : TE} (he : PE X e te) : PE X (.FormattedValue e 114 none pos) (tFmtRD X.K te) := by
  constructor
  intro pins s σ H Q I had
  refine wpAny_FormattedValue_repr (thn (he.run pins s σ H _ I had) ?_)
  rintro u s1 ⟨y, H1, I1, ry, a, d, rfl, hd, sh, nd, dp, sz, q⟩
  cases (show u = Value.ref a from ry)
  obtain ⟨as, r⟩ := Dp.reads I1 d (.ref a) _ hd rfl
  exact pyReprObj_of_reads r sh (PyData.noDict_hsm nd) gd (by omega) (fun _ _ e => e) (fun h' u tk keep => wpAny_formatField_str ⟨.str d.shown, H1, I1.kept keep, ⟨_, rfl⟩, q⟩ ⟨.str d.shown, H1, I1.kept keep, ⟨_, rfl⟩, q⟩ sz) sz
end
end GdR

/-! the end of a law whose def keeps its promise where no guard stands -/
namespace GdR
open PySem PySem.Spec PyProof.Rows L2
/-- what is tracked at the law's start: the script, where it is no object of the module -/
def scrH (K : PySem.W.Frag) (a : Addr) (o : Obj) (xs : List V) : Hp := fun b => if b = a ∧ K.lookup a = none then some (.frz o (.lst xs)) else none
theorem scrH_some {K : PySem.W.Frag} {a b : Addr} {o : Obj} {xs : List V} {u : HO} (h : scrH K a o xs b = some u) : b = a ∧ K.lookup a = none ∧ u = .frz o (.lst xs) := by
  unfold scrH at h
  by_cases c : b = a ∧ K.lookup a = none
  · rw [if_pos c] at h
    exact ⟨c.1, c.2, (Option.some.inj h).symm⟩
  · rw [if_neg c] at h
    cases h
theorem scrH_none {K : PySem.W.Frag} {a b : Addr} {o : Obj} {xs : List V} (h : ¬(b = a ∧ K.lookup a = none)) : scrH K a o xs b = none := if_neg h
section
variable {P : Program} {w : World} {K : PySem.W.Frag} {mg mb : Str → Option Value} {CX : CXT} {k : Nat} {fa a : Addr} {fd : FuncData} {x : Str} {sp : Sp} {s₁ : Shared} {vs : List Value} {ns : List Int}
theorem scr_env (KX : K.In s₁.heap) (main : s₁.heap.Ns mainGlobals mg) (bn : s₁.heap.Ns builtinsNs mb) (boot : ∀ x : Str, x ≠ "__name__" → mb x = bootBuiltins x) (lim : s₁.heap.NoLimit) (nogen : s₁.gens = #[])
    (there : s₁.heap.get? a = some { cls := .type "list", data := .seq vs.toArray }) (ia : IntsAre vs ns) (fits : ns.length ≤ sizeLine) :
    Env0 P w K mg (hidT s₁.heap (scrH K a { cls := .type "list", data := .seq vs.toArray } (ns.map V.int))) callerA [] s₁ (scrH K a { cls := .type "list", data := .seq vs.toArray } (ns.map V.int)) := by
  have nodict : ∀ {b : Addr} {o : Obj} {es : Array DictEntry} {ep : Nat}, s₁.heap.get? b = some o → o.data = .dict es ep → scrH K a { cls := .type "list", data := .seq vs.toArray } (ns.map V.int) b = none := by
    intro b o es ep e d
    refine scrH_none fun c => ?_
    rw [c.1, there] at e
    cases e
    cases (show Data.seq vs.toArray _ = Data.dict es ep from d)
  have keep : ∀ {b : Addr} {m : Str → Option Value}, s₁.heap.Ns b m → (hidT s₁.heap (scrH K a { cls := .type "list", data := .seq vs.toArray } (ns.map V.int))).Ns b m := by
    rintro b m ⟨o, es, ep, e, d, r⟩
    exact ⟨o, es, ep, hidT_get e (nodict e d), d, r⟩
  have inK : K.In (hidT s₁.heap (scrH K a { cls := .type "list", data := .seq vs.toArray } (ns.map V.int))) := by
    intro b o e
    refine hidT_get (KX b o e) (scrH_none fun c => ?_)
    rw [c.1, c.2] at e
    cases e
  obtain ⟨mc, l1, l2⟩ := lim
  refine ⟨rfl, ⟨inK, keep main, ⟨mb, keep bn, boot⟩, ⟨mc, keep l1, l2⟩⟩, fun b o e => of_hidT e, Nat.le_of_eq (hidT_size _ _), trivial, (fun b hb => by cases hb), fun b u hu => ?_, .of_eq nogen⟩
  obtain ⟨rfl, _, rfl⟩ := scrH_some hu
  exact ⟨there, by rw [List.length_map]; exact fits, vs, _, vals_ints ia, there⟩
theorem scr_seq (KX : K.In s₁.heap) (there : s₁.heap.get? a = some { cls := .type "list", data := .seq vs.toArray }) (ia : IntsAre vs ns) (fits : ns.length ≤ sizeLine) : SqL K (scrH K a { cls := .type "list", data := .seq vs.toArray } (ns.map V.int)) a (ns.map V.int) := by
  cases hk : K.lookup a with
  | none => exact .inl (.inr ⟨_, if_pos ⟨rfl, hk⟩⟩)
  | some o =>
    have e := KX a o hk
    rw [there] at e
    cases e
    exact .inr ⟨_, vs.toArray, _, hk, rfl, rfl, rfl, by rw [List.size_toArray, ia.length]; exact fits, by simpa using vals_ints ia⟩
theorem law_callG (KX : K.In s₁.heap) (main : s₁.heap.Ns mainGlobals mg) (bn : s₁.heap.Ns builtinsNs mb) (boot : ∀ x : Str, x ≠ "__name__" → mb x = bootBuiltins x) (lim : s₁.heap.NoLimit) (nogen : s₁.gens = #[])
    (there : s₁.heap.get? a = some { cls := .type "list", data := .seq vs.toArray }) (ia : IntsAre vs ns) (fits : ns.length ≤ sizeLine) (room : Room k callerA)
    (F : ∀ base : Heap, K.In base → base.Ns mainGlobals mg → FnG P w K mg base CX k fa fd [x] sp) (bind : ∀ (s : Shared) (u : Value), BindsTo s fd ⟨[u], []⟩ [(x, u)])
    (had : ∀ H : Hp, Only H → SqL K H a (ns.map V.int) → sp [.ref a] H (fun v _ => v = .bl true) fun _ _ _ => False)
    (never : ∀ H e s', CX [] H s₁ (fun _ _ _ => False) e s' → False) :
    codeAny (model P w) callerA (.call (.ref fa) ⟨[.ref a], []⟩) (fun r s' => r = .ok (.ret (.bool true)) ∧ OldK s₁.heap s'.heap ∧ s'.os = s₁.os ∧ AllBare s'.gens) s₁ := by
  have env := scr_env (P := P) (w := w) KX main bn boot lim nogen there ia fits
  have only : Only (scrH K a { cls := .type "list", data := .seq vs.toArray } (ns.map V.int)) := fun b => by
    by_cases c : b = a ∧ K.lookup a = none
    · exact .inr ⟨_, _, if_pos c⟩
    · exact .inl (if_neg c)
  refine codeAny_mono ((F _ env.mod.kin env.mod.2).run callerA [] s₁ _ ⟨[.ref a], []⟩ [.ref a] [.ref a] (fun v _ => v = .bl true) (fun _ _ _ => False) caller_g room env (bind s₁ (.ref a)) (.cons rfl .nil) (had _ only (scr_seq KX there ia fits))) fun r s' told => ?_
  match r, told with
  | .error e, told => exact (never _ e s' told).elim
  | .ok .next, told => exact told.elim
  | .ok .brk, told => exact told.elim
  | .ok .cont, told => exact told.elim
  | .ok (.ret u), ⟨v, H', os, bare, un, ok', rv, q⟩ =>
    cases (show v = V.bl true from q)
    cases (show u = Value.bool true from rv)
    refine ⟨rfl, OldK.of_keep fun b o e => ?_, os, bare⟩
    cases hb : scrH K a { cls := .type "list", data := .seq vs.toArray } (ns.map V.int) b with
    | none => exact un.keep b o e hb (by intro z; cases z) (by simp)
    | some u =>
      obtain ⟨rfl, _, rfl⟩ := scrH_some hb
      have z := un.frzs _ _ _ hb
      rw [there] at e
      cases e
      exact (ok' _ _ z).1
end
theorem walk_ofG {l : PySem.W.OpenLaw} {n k : Nat} {q : Program} {loose : List Str} {XP : (Str → Option Value) → Heap → Prop} {YP : World → Heap → Prop} {d : DefRec} {K : Params → PySem.W.Frag} {CX : World → CXT} {sp : World → Sp} {x : Str}
    (most : l.most = some n) (fits : n ≤ sizeLine) (nodf : d.params.defaults = []) (room : Room k callerA) (hY : ∀ (w : World) (h : Heap), YP w h → (K w.params).In h)
    (F : ∀ (w : World) (mg : Str → Option Value) (fa : Addr) (h : Heap), (K w.params).In h → h.Ns mainGlobals mg → mg d.name = some (.ref fa) →
      ∃ fd : FuncData, (∀ (s : Shared) (u : Value), BindsTo s fd ⟨[u], []⟩ [(x, u)]) ∧ ∀ base : Heap, (K w.params).In base → base.Ns mainGlobals mg → FnG l.prog w (K w.params) mg base (CX w) k fa fd [x] (sp w))
    (had : ∀ (w : World) (H : Hp) (a : Addr) (ns : List Int), ns.length ≤ n → Only H → SqL (K w.params) H a (ns.map V.int) → sp w [.ref a] H (fun v _ => v = .bl true) fun _ _ _ => False)
    (never : ∀ (w : World) (H : Hp) (s : Shared) (e : Value) (s' : Shared), CX w [] H s (fun _ _ _ => False) e s' → False) :
    PySem.W.WalkO q loose XP YP l.row.toRowW d [] (fun f vs => PySem.call f vs) := by
  refine Att.attach_call most nodf fun w s₀ s₁ mg mb fa o pm cd doc a vs ns G Y _ _ _ at_ there ia len nogen => ?_
  obtain ⟨fd, bind, promise⟩ := F w mg fa _ (hY w _ Y) G.T.g at_
  exact law_callG (hY w _ Y) G.T.g G.T.b G.T.builtins G.T.nolimit nogen there ia (Nat.le_trans len fits) room promise bind (fun H ho hs => had w H a ns len ho hs) fun H e s' => never w H s₁ e s'
end GdR

/-! a def's promise where no guard stands, from its rows; own __repr__ with it -/
namespace GdR
open PySem PySem.Spec PyProof.Rows L2
section
variable {P : Program} {w : World} {K : PySem.W.Frag} {mg : Str → Option Value} {base : Heap} {k : Nat} {f : Addr} {fd : FuncData} {N ps : List Str} {sp : Sp} {x qual : Str} {st : Stmt}
theorem okG (F : Fun K x qual st f fd) (S : FnScope N ps (defScope st)) (len : ∀ vs H Q E, sp vs H Q E → vs.length = ps.length)
    (does : ∀ (cdv : Value) (A : Around) (outer : List Env) (s : Shared) (H : Hp) (vs : List V) (Q : VK) (E : XK), (A.deeper (envOfC qual (defScope st) s.heap.objs.size f cdv)).guards = some [] → Room k (A.deeper (envOfC qual (defScope st) s.heap.objs.size f cdv)) → sp vs H Q E →
      ∃ t, PSs (cxOf CX0 P w K mg base N qual (defScope st) f cdv A outer s H E).nox (defBody st) t ∧ t { nx := fun _ H' => Q .non H', rt := Q } (L2.start N vs) H) : FnG P w K mg base CX0 (k + 1) f fd ps sp := by
  obtain ⟨oc, od, kV, doc, pm, an, cdv, ct, osl, rfl, there, code⟩ := F.ex
  constructor
  · exact len
  intro A outer s H args us vs Q E gd room env bound rel told
  have ln := len _ _ _ _ told
  have KX : K.In s.heap := env.mod.kin.keeps fun b o h => And.left (env.bs b o h)
  have free := env.mod.nolimit.keeps fun b o h => And.left (env.bs b o h)
  have kinds : ∀ y ∈ ps.zip us, (defScope st).names.lookup y.1 = some .local ∨ ((defScope st).names.lookup y.1 = some .cell ∧ ((cellsFrom (s.heap.objs.size + 1) (defScope st).names []).lookup y.1).isSome = true) := by
    rintro ⟨n, v⟩ hy
    exact (S.par n (List.of_mem_zip hy).1).imp id fun q => ⟨q, PySem.W.cellsFrom_some _ _ _ (.inl q)⟩
  refine codeAny_call_function room.depth (KX _ _ there) rfl S.co S.gen rfl (PySem.W.codeRec_of KX code) (bound _ _ _ _ ?_)
  refine wpAny_newFunctionEnv_cells S.kind kinds fun e he s1 new => ?_
  cases he
  refine ⟨free.keeps new.toInCall.keep, codeAny_func ?_⟩
  obtain ⟨t, body, had⟩ := does cdv A outer s H vs Q E (deeper_g _ _ gd) (room.deeper _) told
  have I : Inv (cxOf CX0 P w K mg base N qual (defScope st) f cdv A outer s H E) [] (L2.start N vs) H s1 := inv_start S room.hd env ln rel new
  refine wpAny_mono (body.nox.run [] s1 (L2.start N vs) H _ I had) (fun fl s' out => ?_) fun _ _ z => z
  match fl, out with
  | .ret u, ⟨v, σ', H', J, rv, q⟩ => exact ⟨v, H', J.os, J.bare, J.base, J.hok, rv, q⟩
  | .next, ⟨σ', H', J, q⟩ => exact ⟨V.non, H', J.os, J.bare, J.base, J.hok, rfl, q⟩
  | .brk, ⟨_, _, _, q⟩ => exact q.elim
  | .cont, ⟨_, _, _, q⟩ => exact q.elim
end
section
variable {X : Cx} {CX : CXT} {C g : Addr} {n : Nat} {sp : Sp} {E : XK} {fd : FuncData} {ps : List Str}
/-- repr(x), x of a class with its own __repr__ at g, where no guard stands -/
theorem call_reprIG (own : PySem.W.findIn X.K (.ref C) "__repr__" = some (some (.ref g))) (isf : PySem.W.isFn X.K (.ref g) = true) (F : FnG X.prog X.w X.K X.mg X.base CX n g fd ps sp) (gd : X.A.guards = some []) (bd : Binds X.K fd ps []) (room : Room (n + 1) X.A) (pass : Passes CX X E) : CallR X (.builtin "repr") (OwI.rReprI C sp E) := by
  rintro pins s σ H _ us Q I rel ⟨a, dx, fs, rfl, ha, had⟩
  obtain ⟨u, rfl, ru⟩ := vals1 rel
  cases (show u = Value.ref a from ru)
  obtain ⟨o, od, J⟩ := OwI.stands I ha
  obtain ⟨m, fr⟩ := I.fr
  have room1 : Room n X.A.in1 := Room.in1 room
  refine PySem.W.repr_K room1.units0 fr I.ok.mod.kin J own isf (wpAny_call ?_)
  have hl : ([Value.ref a] : List Value).length = ps.length := F.len _ _ _ _ had
  have bb := bd s [.ref a] I.kIn (by rw [List.append_nil]; exact hl)
  rw [List.append_nil] at bb
  refine codeAny_mono (F.run X.A.in1 X.stack s H ⟨[.ref a], []⟩ [.ref a] [.ref a] _ E gd room1 I.env0.in1 bb (.cons rfl .nil) had) fun r s' told => ?_
  match r, told with
  | .error e, told => exact pass pins σ H s e s' I told
  | .ok .next, told => exact told.elim
  | .ok .brk, told => exact told.elim
  | .ok .cont, told => exact told.elim
  | .ok (.ret v), told =>
    obtain ⟨y, G, I2, ry, t, rfl, q⟩ := I.after told
    obtain ⟨tk, rfl⟩ := (show ∃ tk, v = Value.str t tk from ry)
    exact ⟨.str t, G, I2, ⟨tk, rfl⟩, q⟩
end
end GdR

/-! C.m(..), m a staticmethod of the class at C -/
namespace SmX
open PySem PySem.Spec PyProof.Rows L2
/-- C.m is a staticmethod: its record at p, its def at g -/
structure SMet (K : PySem.W.Frag) (C : Addr) (mc : Value) (m : Str) (p g : Addr) : Prop where
  at_ : PySem.W.findCls K (.ref C) mc m = some (.get (.builtin "staticmethod.__get__") (.ref p) .none (.ref C))
  rc : ∃ rest, PySem.W.recIn K p "staticmethod" = some (.ref g :: rest)
  kp : PySem.W.keepIn K (.ref g) = true
section
variable {X : Cx} {pins : List (Addr × Obj)} {σ : L2.St} {H : Hp} {s : Shared} {C p g : Addr} {mc : Value} {m : Str} {A : Around} {E : Value → Shared → Prop}
theorem getsmet {pl : Sem Bool} {Q : Value × List Value → Shared → Prop} (I : Inv X pins σ H s) (r : ClX.CRead X.K C mc) (c : SMet X.K C mc m p g) (h : ∀ s', Inv X pins σ H s' → Q (.ref g, []) s') : wpAny (model X.prog X.w) A (getMethod (.ref C) m pl) Q E s := by
  obtain ⟨rest, hp⟩ := c.rc
  refine PySem.W.method_cls I.kIn r.ga (PySem.W.cls_bind I.kIn r.rd c.at_ ?_)
  exact wpAny_call (PySem.W.sm_get (s := { s with toks := s.toks + 1 }) I.kIn hp (PySem.W.handed_on rfl (h _ (I.tok _))))
end
section
variable {X : Cx} {CX : CXT} {k : Nat} {C p g : Addr} {mc : Value} {m : Str} {sp : Sp} {E : XK} {o e : Expr} {es : List Expr} {ta : TE} {t : TA} {apos pos : Pos} {pl : Sem Bool}
/-- the reading: e the class at C -/
def tSMeth (C : Addr) (sp : Sp) (E : XK) (ta : TE) (t : TA) : TE := fun σ H Q => ta σ H fun x H1 => x = .ref C ∧ t σ H1 fun vs H2 => sp vs H2 Q E
theorem pe_smeth (he : PE X o ta) (r : ClX.CRead X.K C mc) (c : SMet X.K C mc m p g) (F : FnR X.prog X.w X.K X.mg X.base CX k g sp) (room : Room k X.A) (pass : Passes CX X E) (ha : PA X (e :: es) t)
    (st : starEach (e :: es) X.env = (false, eval e X.env) :: starEach es X.env := by rfl) (plain : (backTo pos (starEach es X.env)).any (·.1) = false := by rfl)
    (road : eval (.Call (.Attribute o m apos) (e :: es) [] pos) X.env = (do
      let it ← eval o X.env
      standAt apos.atName
      let (fn, self) ← holding [it] (getMethod it m pl)
      callWith pos fn self (backTo pos (starEach (e :: es) X.env)) (backToKw pos (keywordEach [] X.env))) := by rfl) :
    PE X (.Call (.Attribute o m apos) (e :: es) [] pos) (tSMeth C sp E ta t) := by
  constructor
  intro pins s σ H Q I had
  refine PySem.W.methodCall_KW (pl := pl) (thn (he.run pins s σ H _ I had) ?_) road
  rintro u s1 ⟨x, H1, I1, ru, rfl, q⟩
  cases (show u = Value.ref C from ru)
  refine getsmet I1 r c fun s2 I2 => ?_
  refine PySem.W.callWith_K (first := []) (h₀ := X.base) I2.ok.mod.kin c.kp (thn (ha.run pos pins s2 σ H1 _ I2 q) ?_) st plain
  rintro us s3 ⟨vs, H2, I3, rv, q2⟩
  exact ⟨I3.kIn, wpAny_call (run_fnR F room pass I3 rv q2)⟩
theorem pe_smeth0 (he : PE X o ta) (r : ClX.CRead X.K C mc) (c : SMet X.K C mc m p g) (F : FnR X.prog X.w X.K X.mg X.base CX k g sp) (room : Room k X.A) (pass : Passes CX X E)
    (road : eval (.Call (.Attribute o m apos) [] [] pos) X.env = (do
      let it ← eval o X.env
      standAt apos.atName
      let (fn, self) ← holding [it] (getMethod it m pl)
      callWith pos fn self (backTo pos (starEach [] X.env)) (backToKw pos (keywordEach [] X.env))) := by rfl) :
    PE X (.Call (.Attribute o m apos) [] [] pos) (tSMeth C sp E ta tNil) := by
  constructor
  intro pins s σ H Q I had
  refine PySem.W.methodCall_KW (pl := pl) (thn (he.run pins s σ H _ I had) ?_) road
  rintro u s1 ⟨x, H1, I1, ru, rfl, q⟩
  cases (show u = Value.ref C from ru)
  refine getsmet I1 r c fun s2 I2 => ?_
  exact PySem.W.callWith_K0 (first := []) I2.kIn c.kp (wpAny_call (run_fnR (us := []) (vs := []) F room pass I2 .nil q))
/-- .. that may raise: a pass at each state -/
theorem run_fnRS {ES : L2.St → XK} {pins : List (Addr × Obj)} {σ : L2.St} {H : Hp} {s : Shared} {Q : VK} {us : List Value} {vs : List V} (F : FnR X.prog X.w X.K X.mg X.base CX k g sp) (room : Room k X.A) (pass : PassesAt CX X σ (ES σ)) (I : Inv X pins σ H s) (r : Vals vs us) (h : sp vs H Q (ES σ)) :
    wpAny (model X.prog X.w) X.A (call (.ref g) us) (EP X pins σ Q) X.xe s := by
  refine wpAny_call (codeAny_mono (F X.A X.stack s H us vs Q (ES σ) room I.env0 r h) fun r s' told => ?_)
  match r, told with
  | .error e, told => exact pass pins H s e s' I told
  | .ok (.ret u), told => exact I.after told
  | .ok .next, told => exact told.elim
  | .ok .brk, told => exact told.elim
  | .ok .cont, told => exact told.elim
def tSMethS (C : Addr) (sp : Sp) (ES : L2.St → XK) (ta : TE) (t : TA) : TE := fun σ H Q => ta σ H fun x H1 => x = .ref C ∧ t σ H1 fun vs H2 => sp vs H2 Q (ES σ)
theorem pe_smethS {ES : L2.St → XK} (he : PE X o ta) (r : ClX.CRead X.K C mc) (c : SMet X.K C mc m p g) (F : FnR X.prog X.w X.K X.mg X.base CX k g sp) (room : Room k X.A) (pass : ∀ σ, PassesAt CX X σ (ES σ)) (ha : PA X (e :: es) t)
    (st : starEach (e :: es) X.env = (false, eval e X.env) :: starEach es X.env := by rfl) (plain : (backTo pos (starEach es X.env)).any (·.1) = false := by rfl)
    (road : eval (.Call (.Attribute o m apos) (e :: es) [] pos) X.env = (do
      let it ← eval o X.env
      standAt apos.atName
      let (fn, self) ← holding [it] (getMethod it m pl)
      callWith pos fn self (backTo pos (starEach (e :: es) X.env)) (backToKw pos (keywordEach [] X.env))) := by rfl) :
    PE X (.Call (.Attribute o m apos) (e :: es) [] pos) (tSMethS C sp ES ta t) := by
  constructor
  intro pins s σ H Q I had
  refine PySem.W.methodCall_KW (pl := pl) (thn (he.run pins s σ H _ I had) ?_) road
  rintro u s1 ⟨x, H1, I1, ru, rfl, q⟩
  cases (show u = Value.ref C from ru)
  refine getsmet I1 r c fun s2 I2 => ?_
  refine PySem.W.callWith_K (first := []) (h₀ := X.base) I2.ok.mod.kin c.kp (thn (ha.run pos pins s2 σ H1 _ I2 q) ?_) st plain
  rintro us s3 ⟨vs, H2, I3, rv, q2⟩
  exact ⟨I3.kIn, run_fnRS F room (pass σ) I3 rv q2⟩
theorem pe_smethS0 {ES : L2.St → XK} (he : PE X o ta) (r : ClX.CRead X.K C mc) (c : SMet X.K C mc m p g) (F : FnR X.prog X.w X.K X.mg X.base CX k g sp) (room : Room k X.A) (pass : ∀ σ, PassesAt CX X σ (ES σ))
    (road : eval (.Call (.Attribute o m apos) [] [] pos) X.env = (do
      let it ← eval o X.env
      standAt apos.atName
      let (fn, self) ← holding [it] (getMethod it m pl)
      callWith pos fn self (backTo pos (starEach [] X.env)) (backToKw pos (keywordEach [] X.env))) := by rfl) :
    PE X (.Call (.Attribute o m apos) [] [] pos) (tSMethS C sp ES ta tNil) := by
  constructor
  intro pins s σ H Q I had
  refine PySem.W.methodCall_KW (pl := pl) (thn (he.run pins s σ H _ I had) ?_) road
  rintro u s1 ⟨x, H1, I1, ru, rfl, q⟩
  cases (show u = Value.ref C from ru)
  refine getsmet I1 r c fun s2 I2 => ?_
  exact PySem.W.callWith_K0 (first := []) I2.kIn c.kp (run_fnRS (us := []) (vs := []) F room (pass σ) I2 .nil q)
end
end SmX

/-! xs[::-1] of a list; x in d as a test -/
namespace StK
open PySem PySem.Spec PyProof.Rows L2
section
variable {X : Cx} {e st : Expr} {te tk : TE} {pos p2 : Pos}
def tBack (K : PySem.W.Frag) (te tk : TE) : TE := fun σ H Q => te σ H fun x H1 => tk σ H1 fun z H2 => z = .int (-1) ∧ ∃ a xs, x = .ref a ∧ SqL K H2 a xs ∧ ∀ p, H2 p = none → Q (.ref p) (upd H2 p (.lst xs.reverse))
theorem pe_back (he : PE X e te) (hk : PE X st tk) : PE X (.Subscript e (.Slice none none (some st) p2) pos) (tBack X.K te tk) := by
  refine ⟨fun pins s σ H Q I h => Subscript_ (thn (he.run pins s σ H _ I h) ?_)⟩
  rintro v s1 ⟨x, H1, I1, r1, q1⟩
  refine wpAny_Slice ?_
  rw [evalPart_none]
  refine wpAny_pure (wpAny_pure ?_)
  rw [evalPart_some]
  refine thn (hk.run pins s1 σ H1 _ I1 q1) ?_
  rintro vk s3 ⟨z, H3, I3, rz, rfl, a, xs, rfl, hx, q⟩
  cases r1
  obtain ⟨tk3, rfl⟩ : ∃ t, vk = .int (-1) t := by
    obtain ⟨t, e⟩ := rz
    exact ⟨t, e⟩
  have I4 : Inv X pins σ H3 { s3 with heap := s3.heap.push { cls := .type "slice", data := .fields #[.none, .none, .int (-1) tk3] } } := I3.kept (t' := s3.toks) fun b ob g => Heap.get?_push_of_some _ g
  obtain ⟨its, r, ht, hz⟩ := I4.list hx
  have rl := r.length
  have sl : ({ s3 with heap := s3.heap.push { cls := .type "slice", data := .fields #[.none, .none, .int (-1) tk3] } } : Shared).heap.IsSliceOf s3.heap.objs.size .none .none (.int (-1) tk3) := Heap.IsSliceOf.new ..
  refine tail_any (T := "list") (ops := [.ref a, .ref s3.heap.objs.size]) ht.isList.typeIs slot_list_getitem.lookup ?_ rfl
  refine wpAny_getItem_list_slice ht.isList sl .none .none (.int _ _) (by decide) ?_ (by rw [List.size_toArray]; omega)
  rw [PySem.W.krv_pick]
  refine ⟨.ref _, _, I4.laid (t' := s3.toks) (o := .lst xs.reverse) (fun b ob g => Heap.get?_push_of_some _ g) (Nat.le_refl _) ?_, rfl, q _ (I4.hok.fresh (Nat.le_refl _))⟩
  exact ⟨by rw [List.length_reverse]; omega, _, 0, r.reverse, Heap.get?_push_size _ rfl⟩
end
end StK

/-! data of one shape: <, <= and sorted; xs[:0:-1]; C(e, ..) that may raise -/
namespace DaS
open PySem PySem.Spec PyProof.Rows PySem.W L2
/-- two things of one shape, compared -/
def Two (K : PySem.W.Frag) (H : Hp) (x y : V) (d e : PyData) : Prop := Dp K H x d ∧ Dp K H y e ∧ alike d e = true ∧ d ≠ .none ∧ d.depth ≤ 64
def rLeD (K : PySem.W.Frag) : R2 := fun x y H Q => ∃ d e, Two K H x y d e ∧ Q (.bl (!dataLt e d)) H
def rLtD (K : PySem.W.Frag) : R2 := fun x y H Q => ∃ d e, Two K H x y d e ∧ Q (.bl (dataLt d e)) H
section
variable {X : Cx}
theorem op_leD (room : X.A.units + 64 < cLine) : OpR X (compareOp .LtE) (rLeD X.K) := by
  rintro pins s σ H x y v u Q I rx ry ⟨d, e, ⟨hd, he, al, nn, dp⟩, q⟩
  obtain ⟨as, reads1⟩ := Dp.reads I d x v hd rx
  obtain ⟨bs, reads2⟩ := Dp.reads I e y u he ry
  exact le_data reads1 reads2 al nn (by omega) ⟨.bl _, H, I, rfl, q⟩
theorem op_ltD (room : X.A.units + 64 < cLine) : OpR X (compareOp .Lt) (rLtD X.K) := by
  rintro pins s σ H x y v u Q I rx ry ⟨d, e, ⟨hd, he, al, nn, dp⟩, q⟩
  obtain ⟨as, reads1⟩ := Dp.reads I d x v hd rx
  obtain ⟨bs, reads2⟩ := Dp.reads I e y u he ry
  exact lt_data reads1 reads2 al nn (by omega) ⟨.bl _, H, I, rfl, q⟩
/-- sorted of a list of things of one shape -/
def rSortD (K : PySem.W.Frag) : List V → Hp → VK → Prop := fun vs H Q => ∃ (a : Addr) (bs : List (V × PyData)), vs = [.ref a] ∧ SqL K H a (bs.map Prod.fst) ∧ (∀ b ∈ bs, Dp K H b.1 b.2 ∧ b.2.depth ≤ 60) ∧ AllAlike (bs.map Prod.snd) ∧ Sortable (bs.map Prod.snd) ∧
  ∀ p, H p = none → Q (.ref p) (upd H p (.lst ((bs.mergeSort (dataLe false Prod.snd)).map Prod.fst)))
theorem each_vals {R : V × PyData → Prop} : ∀ {bs : List (V × PyData)} {us : List Value}, Vals (bs.map Prod.fst) us → (∀ b ∈ bs, R b) → EachIs (fun v b => RelV b.1 v ∧ R b) us bs
  | [], _, r, _ => by cases r; exact .nil
  | b :: bs, _, r, h => by
    cases r with
    | cons r1 r2 => exact .cons ⟨r1, h b (List.mem_cons_self ..)⟩ (each_vals r2 fun c hc => h c (List.mem_cons_of_mem _ hc))
theorem vals_each {R : V × PyData → Prop} : ∀ {bs : List (V × PyData)} {us : List Value}, EachIs (fun v b => RelV b.1 v ∧ R b) us bs → Vals (bs.map Prod.fst) us
  | _, _, .nil => .nil
  | _, _, .cons h t => .cons h.1 (vals_each t)
theorem each_mono {α β : Type} {R S : α → β → Prop} (h : ∀ a b, R a b → S a b) : ∀ {as : List α} {bs : List β}, EachIs R as bs → EachIs S as bs
  | _, _, .nil => .nil
  | _, _, .cons r t => .cons (h _ _ r) (each_mono h t)
theorem cr_sortD (room : X.A.units + 64 < cLine) : CallR X (.builtin "sorted") (rSortD X.K) := by
  rintro pins s σ H vs us Q I r ⟨a, bs, rfl, hs, hd, al, so, q⟩
  obtain ⟨its, rv, hl, hz⟩ := I.list hs
  rw [Vals.ref1 r]
  have ln : its.length = bs.length := by rw [← rv.length, List.length_map]
  rw [List.length_map] at hz
  have E1 := each_vals (R := fun b => b ∈ bs) rv fun b hb => hb
  refine sorted_data (enc := Prod.snd) hl.isList E1 (each_mono (fun v b rb => Dp.reads I b.2 b.1 v (hd b rb.2).1 rb.1) E1) al so hz (fun b hb => ?_) fun out lo eo => ?_
  · have := (hd b hb).2
    omega
  · obtain ⟨n, hn⟩ := sortedAll_at s.heap its out.toArray
    have rv2 := vals_each eo
    have kp : ∀ b o, s.heap.get? b = some o → (sortedAll s.heap its out.toArray).get? b = some o := fun b o e => sortedAll_old e
    have hz2 : ((bs.mergeSort (dataLe false Prod.snd)).map Prod.fst).length ≤ sizeLine := by
      rw [List.length_map, List.length_mergeSort]
      exact hz
    refine ⟨.ref (s.heap.objs.size + 1), upd H (s.heap.objs.size + 1) (.lst ((bs.mergeSort (dataLe false Prod.snd)).map Prod.fst)), I.laid (t' := s.toks) kp (Nat.le_succ _) ⟨hz2, out, n, rv2, hn⟩, rfl, q _ (I.hok.fresh (Nat.le_succ _))⟩
end
section
variable {X : Cx} {CX : CXT} {k : Nat} {f C : Addr} {fd : FuncData} {ps : List Str} {sp : Sp} {E : L2.St → XK} {x : Str} {p pos : Pos} {e : Expr} {es : List Expr} {t : TA}
/-- C(e, ..), its __init__ may raise -/
def tMakeP (C : Addr) (sp : Sp) (E : L2.St → XK) (t : TA) : TE := fun σ H Q => t σ H fun vs G => ∀ c dx, G c = none → G dx = none → dx ≠ c →
  sp (.ref c :: (vs ++ [])) (upd (upd G dx (.own c)) c (.ins C dx [])) (fun v G2 => v = .non ∧ Q (.ref c) G2) (E σ)
theorem pe_makeP (M : Mk X.K C f) (F : FnOk X.prog X.w X.K X.mg X.base CX k f fd ps sp) (room : Room (k + 1) X.A) (g : Gl X x) (m : X.mg x = some (.ref C)) (b : Binds X.K fd ps []) (pass : ∀ σ, PassesAt CX X σ (E σ)) (args : PA X (e :: es) t)
    (nodebug : (x == ("__debug__" : Str)) = false := by decide) (one : starEach (e :: es) X.env = (false, eval e X.env) :: starEach es X.env := by rfl) (more : (backTo pos (starEach es X.env)).any (·.1) = false := by rfl) :
    PE X (.Call (.Name x p) (e :: es) [] pos) (tMakeP C sp E t) := by
  constructor
  intro pins s σ H Q I had
  refine wpAny_Call_Name_kw (ld_glob I g m ?_ nodebug)
  refine PySem.W.callWith_K (h₀ := X.base) I.ok.mod.kin M.kp (thn (args.run pos pins s σ H _ I had) ?_) one more
  rintro us s1 ⟨vs, G, I1, rel, q⟩
  have free : ∀ c, s1.heap.objs.size ≤ c → G c = none := fun c le => I1.hok.fresh le
  have had1 := q (s1.heap.objs.size + 1) s1.heap.objs.size (free _ (Nat.le_succ _)) (free _ (Nat.le_refl _)) (Nat.ne_of_lt (Nat.lt_succ_self _))
  have I2 := Inv.made I1 (C := C)
  have rel2 : Vals (V.ref (s1.heap.objs.size + 1) :: (vs ++ [])) ((Value.ref (s1.heap.objs.size + 1) :: us) ++ []) := by
    rw [List.append_nil, List.append_nil]
    exact .cons rfl rel
  have len : ((Value.ref (s1.heap.objs.size + 1) :: us) ++ []).length = ps.length := by
    rw [← F.len _ _ _ _ had1]
    exact rel2.length.symm
  refine ⟨I1.kIn, wpAny_call (make_map (f := f) I1.kIn M.makes M.init (beq_iff_eq.mp M.fn) (codeAny_mono (F.run _ X.stack _ _ ⟨Value.ref (s1.heap.objs.size + 1) :: us, []⟩ ((Value.ref (s1.heap.objs.size + 1) :: us) ++ []) _ _ (E σ) (room.make C us [])
    (I2.env0.make C us []) (b _ _ I2.kIn len) rel2 had1) fun r s2 told => ?_))⟩
  match r, told with
  | .error er, told => exact pass σ pins _ _ er s2 I2 told
  | .ok (.ret u), told =>
    obtain ⟨v, G2, I3, ru, rfl, q2⟩ := I2.after told
    exact ⟨ru, V.ref (s1.heap.objs.size + 1), G2, I3, rfl, q2⟩
  | .ok .next, told => exact told.elim
  | .ok .brk, told => exact told.elim
  | .ok .cont, told => exact told.elim
end
end DaS
namespace DaS
open PySem PySem.Spec PyProof.Rows PySem.W L2
theorem low_range (n : Nat) : (List.range n).map (fun k => n - k) = ((List.range n).map (1 + ·)).reverse := by
  apply List.ext_getElem
  · simp
  · intro i h1 h2
    rw [List.length_map, List.length_range] at h1
    rw [List.getElem_map, List.getElem_range, List.getElem_reverse, List.getElem_map, List.getElem_range, List.length_map, List.length_range]
    omega
theorem low_bounds (n : Nat) : sliceBounds none (some 0) (some (-1)) n = ((n : Int) - 1, (if n = 0 then -1 else 0), -1) := by
  unfold sliceBounds
  show ((n : Int) - 1, max (-1) (min 0 ((n : Int) - 1)), (-1 : Int)) = _
  by_cases c : n = 0
  · rw [if_pos c, c]
    rfl
  · rw [if_neg c, show min (0 : Int) ((n : Int) - 1) = 0 by omega]
    rfl
theorem low_sliceRange (n : Nat) : sliceRange ((n : Int) - 1) (if n = 0 then -1 else 0) (-1) = (List.range (n - 1)).map fun k => n - 1 - k := by
  unfold sliceRange
  have h1 : ¬ ((-1 : Int) > 0) := by decide
  by_cases c : n = 0
  · subst c
    rfl
  · rw [if_neg c]
    by_cases h : (n : Int) - 1 > 0
    · have e : ((n : Int) - 1 - 0 - -1 - 1) / (- -1) = ((n - 1 : Nat) : Int) := by
        rw [show (- -1 : Int) = 1 by decide, Int.ediv_one]
        omega
      simp only [h1, if_false, h, if_true, e, Int.toNat_natCast]
      apply List.map_congr_left
      intro k hk
      have := List.mem_range.mp hk
      omega
    · have e : n = 1 := by omega
      subst e
      rfl
theorem low_pick (items : Array Value) : slicePick items none (some 0) (some (-1)) = items.toList.tail.reverse.toArray := by
  unfold slicePick
  rw [low_bounds]
  show ((sliceRange ((items.size : Int) - 1) (if items.size = 0 then -1 else 0) (-1)).filterMap (items[·]?)).toArray = _
  rw [low_sliceRange, low_range, List.filterMap_reverse, pick_run]
  congr 2
  rw [List.take_of_length_le (by rw [List.length_drop, Array.length_toList]; omega), List.drop_one]
section
variable {X : Cx} {e up st : Expr} {te tu tk : TE} {pos p2 : Pos}
/-- xs[:0:-1]: all but the first, backwards -/
def tLow (K : PySem.W.Frag) (te tu tk : TE) : TE := fun σ H Q => te σ H fun x H1 => tu σ H1 fun y H2 => y = .int 0 ∧ tk σ H2 fun z H3 => z = .int (-1) ∧ ∃ a xs, x = .ref a ∧ SqL K H3 a xs ∧ ∀ p, H3 p = none → Q (.ref p) (upd H3 p (.lst xs.tail.reverse))
theorem pe_low (he : PE X e te) (hu : PE X up tu) (hk : PE X st tk) : PE X (.Subscript e (.Slice none (some up) (some st) p2) pos) (tLow X.K te tu tk) := by
  refine ⟨fun pins s σ H Q I h => Subscript_ (thn (he.run pins s σ H _ I h) ?_)⟩
  rintro v s1 ⟨x, H1, I1, r1, q1⟩
  refine wpAny_Slice ?_
  rw [evalPart_none]
  refine wpAny_pure ?_
  rw [evalPart_some]
  refine thn (hu.run pins s1 σ H1 _ I1 q1) ?_
  rintro vu s2 ⟨y, H2, I2, ry, rfl, q2⟩
  rw [evalPart_some]
  refine thn (hk.run pins s2 σ H2 _ I2 q2) ?_
  rintro vk s3 ⟨z, H3, I3, rz, rfl, a, xs, rfl, hx, q⟩
  cases r1
  obtain ⟨tu3, rfl⟩ : ∃ t, vu = .int 0 t := by
    obtain ⟨t, e⟩ := ry
    exact ⟨t, e⟩
  obtain ⟨tk3, rfl⟩ : ∃ t, vk = .int (-1) t := by
    obtain ⟨t, e⟩ := rz
    exact ⟨t, e⟩
  have I4 : Inv X pins σ H3 { s3 with heap := s3.heap.push { cls := .type "slice", data := .fields #[.none, .int 0 tu3, .int (-1) tk3] } } := I3.kept (t' := s3.toks) fun b ob g => Heap.get?_push_of_some _ g
  obtain ⟨its, r, ht, hz⟩ := I4.list hx
  have rl := r.length
  have sl : ({ s3 with heap := s3.heap.push { cls := .type "slice", data := .fields #[.none, .int 0 tu3, .int (-1) tk3] } } : Shared).heap.IsSliceOf s3.heap.objs.size .none (.int 0 tu3) (.int (-1) tk3) := Heap.IsSliceOf.new ..
  refine tail_any (T := "list") (ops := [.ref a, .ref s3.heap.objs.size]) ht.isList.typeIs slot_list_getitem.lookup ?_ rfl
  refine wpAny_getItem_list_slice ht.isList sl .none (.int _ _) (.int _ _) (by decide) ?_ (by rw [List.size_toArray]; omega)
  rw [low_pick]
  have r' : Vals xs.tail its.tail := by
    cases r with
    | nil => exact .nil
    | cons _ r2 => exact r2
  refine ⟨.ref _, _, I4.laid (t' := s3.toks) (o := .lst xs.tail.reverse) (fun b ob g => Heap.get?_push_of_some _ g) (Nat.le_refl _) ?_, rfl, q _ (I4.hok.fresh (Nat.le_refl _))⟩
  exact ⟨by rw [List.length_reverse, List.length_tail]; omega, _, 0, r'.reverse, Heap.get?_push_size _ rfl⟩
end
end DaS

/-! a class in a local name, called by places; its __init__ may raise -/
namespace DaS
open PySem PySem.Spec PyProof.Rows L2
section
variable {X : Cx} {CX : CXT} {k i : Nat} {f C : Addr} {fd : FuncData} {ps : List Str} {sp : Sp} {E : L2.St → XK} {x : Str} {p pos : Pos} {e : Expr} {es : List Expr} {t : TA}
theorem run_makeP {pins : List (Addr × Obj)} {σ : L2.St} {H : Hp} {s : Shared} {Q : VK} {us : List Value} {vs : List V} (M : Mk X.K C f) (F : FnOk X.prog X.w X.K X.mg X.base CX k f fd ps sp) (room : Room (k + 1) X.A) (b : Binds X.K fd ps []) (pass : PassesAt CX X σ (E σ)) (I : Inv X pins σ H s) (rel : Vals vs us)
    (q : ∀ c dx, H c = none → H dx = none → dx ≠ c → sp (.ref c :: (vs ++ [])) (upd (upd H dx (.own c)) c (.ins C dx [])) (fun v G => v = .non ∧ Q (.ref c) G) (E σ)) :
    wpAny (model X.prog X.w) X.A (call (.ref C) us) (EP X pins σ Q) X.xe s := by
  have free : ∀ c, s.heap.objs.size ≤ c → H c = none := fun c le => I.hok.fresh le
  have had1 := q (s.heap.objs.size + 1) s.heap.objs.size (free _ (Nat.le_succ _)) (free _ (Nat.le_refl _)) (Nat.ne_of_lt (Nat.lt_succ_self _))
  have I2 := Inv.made I (C := C)
  have rel2 : Vals (V.ref (s.heap.objs.size + 1) :: (vs ++ [])) ((Value.ref (s.heap.objs.size + 1) :: us) ++ []) := by
    rw [List.append_nil, List.append_nil]
    exact .cons rfl rel
  have len : ((Value.ref (s.heap.objs.size + 1) :: us) ++ []).length = ps.length := by
    rw [← F.len _ _ _ _ had1]
    exact rel2.length.symm
  refine wpAny_call (make_map (f := f) I.kIn M.makes M.init (beq_iff_eq.mp M.fn) (codeAny_mono (F.run _ X.stack _ _ ⟨Value.ref (s.heap.objs.size + 1) :: us, []⟩ ((Value.ref (s.heap.objs.size + 1) :: us) ++ []) _ _ (E σ) (room.make C us [])
    (I2.env0.make C us []) (b _ _ I2.kIn len) rel2 had1) fun r s2 told => ?_))
  match r, told with
  | .error er, told => exact pass pins _ _ er s2 I2 told
  | .ok (.ret u), told =>
    obtain ⟨v, G2, I3, ru, rfl, q2⟩ := I2.after told
    exact ⟨ru, V.ref (s.heap.objs.size + 1), G2, I3, rfl, q2⟩
  | .ok .next, told => exact told.elim
  | .ok .brk, told => exact told.elim
  | .ok .cont, told => exact told.elim
end
end DaS
namespace MkS
open PySem PySem.Spec PyProof.Rows L2
section
variable {X : Cx} {CX : CXT} {k i : Nat} {f C : Addr} {fd : FuncData} {ps : List Str} {sp : Sp} {E : L2.St → XK} {x : Str} {p pos : Pos} {e : Expr} {es : List Expr} {t : TA}
/-- the i-th slot holds the class C: name(e, ..) -/
def tMakeLSP (i : Nat) (C : Addr) (sp : Sp) (E : L2.St → XK) (t : TA) : TE := fun σ H Q => σ[i]? = some (some (.ref C)) ∧ t σ H fun vs H1 => ∀ c dx, H1 c = none → H1 dx = none → dx ≠ c →
  sp (.ref c :: (vs ++ [])) (upd (upd H1 dx (.own c)) c (.ins C dx [])) (fun v G => v = .non ∧ Q (.ref c) G) (E σ)
theorem pe_makeLSP (M : Mk X.K C f) (F : FnOk X.prog X.w X.K X.mg X.base CX k f fd ps sp) (room : Room (k + 1) X.A) (at_ : X.N[i]? = some x) (vis : Vis X.env.scope x) (b : Binds X.K fd ps []) (pass : ∀ σ, PassesAt CX X σ (E σ)) (args : PA X (e :: es) t)
    (d1 : (x == ("__debug__" : Str)) = false := by decide) (d2 : (x == ("__classdict__" : Str)) = false := by decide)
    (one : starEach (e :: es) X.env = (false, eval e X.env) :: starEach es X.env := by rfl) (more : (backTo pos (starEach es X.env)).any (·.1) = false := by rfl) :
    PE X (.Call (.Name x p) (e :: es) [] pos) (tMakeLSP i C sp E t) := by
  constructor
  rintro pins s σ H Q I ⟨slot, had⟩
  refine wpAny_Call_Name_kw (thn ((pe_var (pos := p) at_ vis d1 d2).run pins s σ H (fun v G => v = .ref C ∧ G = H) I ⟨.ref C, slot, rfl, rfl⟩) ?_)
  rintro u s1 ⟨v, G, I1, rv, rfl, rfl⟩
  cases (show u = Value.ref C from rv)
  refine PySem.W.callWith_K (h₀ := X.base) I1.ok.mod.kin M.kp (thn (args.run pos pins s1 σ G _ I1 had) ?_) one more
  rintro us s2 ⟨vs, G2, I2, rel, q⟩
  exact ⟨I2.kIn, DaS.run_makeP M F room b (pass σ) I2 rel q⟩
end
end MkS

/-! sorted of a tuple of data of one shape -/
namespace DaS
open PySem PySem.Spec PyProof.Rows PySem.W PySem.Calls L2
section
variable {X : Cx}
def rSortT (K : PySem.W.Frag) : List V → Hp → VK → Prop := fun vs H Q => ∃ (a : Addr) (bs : List (V × PyData)), vs = [.ref a] ∧ SqT K H a (bs.map Prod.fst) ∧ (∀ b ∈ bs, Dp K H b.1 b.2 ∧ b.2.depth ≤ 60) ∧ AllAlike (bs.map Prod.snd) ∧ Sortable (bs.map Prod.snd) ∧
  ∀ p, H p = none → Q (.ref p) (upd H p (.lst ((bs.mergeSort (dataLe false Prod.snd)).map Prod.fst)))
theorem cr_sortT (room : X.A.units + 64 < cLine) : CallR X (.builtin "sorted") (rSortT X.K) := by
  rintro pins s σ H vs us Q I r ⟨a, bs, rfl, hs, hd, al, so, q⟩
  obtain ⟨its, rv, hl, hz⟩ := I.tuple hs
  rw [Vals.ref1 r]
  have ln : its.length = bs.length := by rw [← rv.length, List.length_map]
  rw [List.length_map] at hz
  have E1 := each_vals (R := fun b => b ∈ bs) rv fun b hb => hb
  obtain ⟨o, ho, hc, n, hdat⟩ := hl
  refine call_function_entry kind_sorted plain_sorted entry_sorted (args_sorted1 _) ?_
  unfold Builtin.«sorted»
  refine wpAny_bind (m := checkCount "sorted" 1 1 _) (wpAny_pure ?_)
  refine wpAny_bind (wpAny_collect_seq a (.inr rfl) ho hc hdat (fun h' kp => ?_) (by rw [List.size_toArray, ln]; exact hz))
  refine wpAny_bind (wpAny_newList ?_ (by show its.length ≤ _; rw [ln]; exact hz))
  have e2 : its.toArray.toList = its := rfl
  show wpAny _ X.A.in1 _ _ _ { s with heap := h'.push (seqObj "list" its.toArray 0) }
  have hD : (h'.push (seqObj "list" its.toArray 0)).get? h'.objs.size = some (seqObj "list" its.toArray 0) := Heap.get?_push_size _ rfl
  have old : ∀ b o, s.heap.get? b = some o → b ≠ h'.objs.size ∧ (h'.push (seqObj "list" its.toArray 0)).get? b = some o := fun b o e =>
    ⟨Nat.ne_of_lt (Heap.lt_size (kp b o e)), Heap.get?_push_of_some _ (kp b o e)⟩
  have er : EachIs (fun v b => ∃ as, Reads (sortingHeap (h'.push (seqObj "list" its.toArray 0)) h'.objs.size its) v b.2 as) its bs := each_mono (fun v b rb => by
    obtain ⟨as, r⟩ := Dp.reads I b.2 b.1 v (hd b rb.2).1 rb.1
    exact ⟨as, PyProof.Rows.Reads.keeps (fun b o e => sortingHeap_old (old b o e).1 (old b o e).2) r⟩) E1
  have run : wpAny (model X.prog X.w) X.A.in1 (call (.builtin "list.sort") [.ref h'.objs.size]) (fun _ s' => s' = { s with heap := sortedHeap (h'.push (seqObj "list" its.toArray 0)) h'.objs.size its (sortVals (dataKind (sortingHeap (h'.push (seqObj "list" its.toArray 0)) h'.objs.size its) (bs.map Prod.snd)) false its its).toArray }) X.xe { s with heap := h'.push (seqObj "list" its.toArray 0) } :=
    wpAny_call_entry slot_list_sort ⟨_, hD, rfl⟩ entry_list_sort (list_sort_vals (κ := dataKind (sortingHeap (h'.push (seqObj "list" its.toArray 0)) h'.objs.size its) (bs.map Prod.snd)) hD
      (SortsAt.data (s := { s with heap := sortingHeap (h'.push (seqObj "list" its.toArray 0)) h'.objs.size its }) (each_map (R := fun v d => ∃ as, Reads (sortingHeap (h'.push (seqObj "list" its.toArray 0)) h'.objs.size its) v d as) Prod.snd er) al so (bound_map fun b hb => by
        have := (hd b hb).2
        show X.A.units + 1 + 1 + b.2.depth < cLine
        omega)) (by rw [ln]; exact hz) ⟨.none, rfl, rfl⟩) (args_list_sort _)
  refine wpAny_bind (wpAny_holding (wpAny_mono run (fun _ s' x => ?_) fun _ _ e => e))
  subst x
  refine wpAny_pure ⟨_, rfl, ?_⟩
  obtain ⟨m, hm⟩ := sortedHeap_at (out := (sortVals (dataKind (sortingHeap (h'.push (seqObj "list" its.toArray 0)) h'.objs.size its) (bs.map Prod.snd)) false its its).toArray) hD
  have rs := vals_each (sortVals_data (enc := Prod.snd) false E1 er al)
  have hz2 : ((bs.mergeSort (dataLe false Prod.snd)).map Prod.fst).length ≤ sizeLine := by
    rw [List.length_map, List.length_mergeSort]
    exact hz
  have I1 : Inv X pins σ H { s with heap := h' } := I.kept (t' := s.toks) kp
  exact ⟨.ref h'.objs.size, upd H h'.objs.size (.lst ((bs.mergeSort (dataLe false Prod.snd)).map Prod.fst)), I1.laid (t' := s.toks) (fun b o e => by rw [sortedHeap_old (Nat.ne_of_lt (Heap.lt_size e)) (Heap.lt_size (Heap.get?_push_of_some _ e))]; exact Heap.get?_push_of_some _ e) (Nat.le_refl _) ⟨hz2, _, m, rs, hm⟩, rfl, q _ (I1.hok.fresh (Nat.le_refl _))⟩
end
end DaS

/-! several except clauses with names, of errors without a context -/
namespace L2N
open PySem PySem.Spec PyProof.Rows L2
inductive HdsNN (X : Cx) : List ExceptHandler → List (Value × Option Nat × (Addr → Value → Option Addr → TS)) → Prop
  | nil : HdsNN X [] []
  | cons {x : Str} {c : Value} {ts : Addr → Value → Option Addr → TS} {b₀ : Stmt} {suite : List Stmt} {np pos' : Pos} {hds : List ExceptHandler} {l : List (Value × Option Nat × (Addr → Value → Option Addr → TS))} (hc : Names X x c)
      (hsu : ∀ (a : Addr) (oe : Obj) (cls : Value) (d : Option Addr) (pn : List (Addr × Obj)), Zn cls d oe → (∃ vs, oe.data = .fields vs) → PSs (X.suite a ((a, oe) :: pn)) (b₀ :: suite) (ts a cls d)) (r : HdsNN X hds l) :
      HdsNN X (.ExceptHandler (some (.Name x np)) none (b₀ :: suite) pos' :: hds) ((c, none, ts) :: l)
  | consN {x n : Str} {i : Nat} {c : Value} {ts : Addr → Value → Option Addr → TS} {b₀ : Stmt} {suite : List Stmt} {np pos' : Pos} {hds : List ExceptHandler} {l : List (Value × Option Nat × (Addr → Value → Option Addr → TS))} (hN : X.N.Nodup) (hi : X.N[i]? = some n) (hln : X.env.kindOf n = some .local) (hc : Names X x c)
      (hsu : ∀ (a : Addr) (oe : Obj) (cls : Value) (d : Option Addr) (pn : List (Addr × Obj)), Zn cls d oe → (∃ vs, oe.data = .fields vs) → PSs (X.suite a ((a, oe) :: pn)) (b₀ :: suite) (ts a cls d)) (r : HdsNN X hds l) :
      HdsNN X (.ExceptHandler (some (.Name x np)) (some n) (b₀ :: suite) pos' :: hds) ((c, some i, ts) :: l)
section
variable {X : Cx} {body : List Stmt} {h₀ : ExceptHandler} {hds : List ExceptHandler} {l : List (Value × Option Nat × (Addr → Value → Option Addr → TS))} {pos : Pos} {tb : WX → TS} {Wout : WX}
theorem ps_try_manyNN (hs : X.stack = X.env :: X.outer) (hf : X.env.frame = some X.env.locals) (tk : Takes X Wout)
    (hb : ∀ (W : WX) (pn : List (Addr × Obj)) (xe : Value → Shared → Prop), Takes (X.tr pn xe) W → PassesOwn (model X.prog X.w) X.A X.env xe → PSs (X.tr pn xe) body (tb W))
    (hh : HdsNN X (h₀ :: hds) l) : PS X (.Try body (h₀ :: hds) [] [] pos) (fun D σ H => tb (wManyN X.K Wout D l) D σ H) := by
  refine ⟨fun pins s σ H D I h => ?_⟩
  have ok := I.ok
  have frA : X.A.frames = some (X.env :: X.outer) := by rw [ok.frames, hs]
  refine wpAny_Try_except ?_
  refine wpAny_mono ((hb (wManyN X.K Wout D l) (X.pn ++ pins) (fun e s₁ => wpAny (model X.prog X.w) X.A (noteFrame e X.env) (fun _ s₂ => wpAny (model X.prog X.w) X.A (setFlight e none) (fun _ s₃ =>
    wpAny (model X.prog X.w) X.A (handleBy e X.env (h₀ :: hds)) (SP X pins D) X.xe s₃) X.xe s₂) X.xe s₁) (fun u s' xx => ?_) PassesOwn.looking).run [] s σ H D (I.toTry _) h) (fun f s1 back => ?_) (fun e s1 he => he)
  · -- the catch
    obtain ⟨a, B, sI, pins', σ', H', cls, d, rfl, J', nb, up, sky, na, os, ag, w⟩ := xx
    have J : Inv X pins σ' H' sI := J'.ofTry ok
    have skyE : Sky B (X.env :: X.outer) a (Zn cls d) X.env.locals s'.heap := by rw [← hs]; exact sky
    show wpAny (model X.prog X.w) X.A (noteFrame (.ref a) X.env) _ _ _
    refine Sky.land Zn.steady frA hf skyE fun h3 fz3 ut3 => ?_
    have Jn3 : Inv X pins σ' H' { s' with heap := h3 } := J.landed nb fz3.1 (up.trans ut3) os ag
    obtain ⟨ox3, xs3, ob3, zc3, dt3⟩ := fz3.there
    have aside : ∀ {h : Heap} {o : Obj} {vs : Array Value}, h.FunFrames B (X.env :: X.outer) → h.get? a = some o → o.data = .fields vs → a ∉ frs (X.env :: X.outer) := fun {h o vs} ff e dd hm => by
      obtain ⟨_, o', e', hnf⟩ := ff.mem hm
      rw [e] at e'; cases e'
      exact hnf _ dd
    have offF := aside fz3.2.2.1 ob3 dt3
    have offL : a ≠ X.env.locals := fun z => offF (List.mem_filterMap.mpr ⟨X.env, List.mem_cons_self, by rw [hf, z]⟩)
    have offS : a ∉ X.fs := fun hm => by
      obtain ⟨e, he, q⟩ := List.mem_filterMap.mp hm
      exact offF (List.mem_filterMap.mpr ⟨e, List.mem_cons_of_mem _ he, q⟩)
    have In3 := Jn3.suite ob3 dt3 na offL offS
    have go : ∀ {hds' : List ExceptHandler} {l' : List (Value × Option Nat × (Addr → Value → Option Addr → TS))}, HdsNN X hds' l' → wManyN X.K Wout D l' cls d σ' H' →
        wpAny (model X.prog X.w) X.A (handleBy (.ref a) X.env hds') (SP X pins D) X.xe { s' with heap := h3 } := by
      intro hds' l' hk
      induction hk with
      | nil =>
        intro w
        refine wpAny_handleBy_nil ?_
        obtain ⟨k1, k2, k3, oe, vs, T, oT, ts', he, hz, hd, h1, hr⟩ := id fz3
        unfold PySem.passOn
        refine wpAny_bind (wpAny_field he hd h1 ?_)
        rw [if_neg (show ¬ ((Value.ref T == Value.none) = true) from by simp)]
        have fin : wpAny (model X.prog X.w) X.A (setFlight (.ref a) X.env.frame) (fun _ s4 => wpAny (model X.prog X.w) X.A (throw (.ref a) : Sem Flow) (SP X pins D) X.xe s4) X.xe { s' with heap := h3 } := by
          rw [hf]
          refine HandSPX.setFlight_upZ fz3 fun h4 hh4 ut4 => wpAny_throw (tk _ _ ?_)
          exact ⟨a, B, sI, pins, σ', H', cls, d, rfl, J, nb, (up.trans ut3).trans ut4, .inr (.inr (by rw [hs]; exact hh4)), na, os, ag, w⟩
        first
          | exact wpAny_bind (wpAny_pure (wpAny_bind fin))
          | exact wpAny_bind fin
      | @cons x c ts b₀ suite np pos' hds2 l2 hc hsu r ih =>
        intro w
        obtain ⟨b, hx1, yes, nay⟩ := w
        refine wpAny_handleBy_cons (codeAny_handlers_test ?_) (by intro q; cases q)
        have lkT : PySem.W.Looks (model X.prog X.w) h3 (typeOf (.ref a)) cls := fun A Q E s k q => wpAny_typeOf_ref (k _ _ ob3) (by rw [zc3.1]; exact q)
        have lkM := PySem.W.exm_one (M := model X.prog X.w) (Jn3.kIn) lkT hx1
        have test : ∀ {Q : Value → Shared → Prop} {E : Value → Shared → Prop}, Q c { s' with heap := h3 } → wpAny (model X.prog X.w) (X.A.mark (some (.ref a))) (eval (.Name x np) X.env) Q E { s' with heap := h3 } := fun {Q E} q => by
          obtain ⟨hg, hdbg, hm | ⟨hm, hv, hnn⟩⟩ := hc
          · exact ld_glob (X := X.suite a ((a, ox3) :: (X.pn ++ pins))) In3 hg hm q hdbg
          · exact ld_blt (X := X.suite a ((a, ox3) :: (X.pn ++ pins))) In3 hg hm hv q hnn hdbg
        refine test (lkM.here ?_)
        cases b with
        | true =>
          refine codeAny_handlers_suite ?_
          refine HandSPX.lands_againZ fz3 fun h4 fz4 ut4 => ?_
          have Jn4 : Inv X pins σ' H' { s' with heap := h4 } := J.landed nb fz4.1 ((up.trans ut3).trans ut4) os ag
          obtain ⟨ox4, xs4, ob4, zc4, dt4⟩ := fz4.there
          have In4 := Jn4.suite ob4 dt4 na offL offS
          refine wpAny_mono ((hsu a ox4 cls d (X.pn ++ pins) zc4 ⟨_, dt4⟩).run [] _ _ H' _ In4 (yes rfl a na)) (fun f t6 back => ?_) (fun _ _ z => False.elim z)
          cases f with
          | next =>
            obtain ⟨σb, Hb, Inb, qb⟩ := back
            exact ⟨_, _, Inb.unsuite ok, qb⟩
          | brk =>
            obtain ⟨σb, Hb, Inb, qb⟩ := back
            exact ⟨_, _, Inb.unsuite ok, qb⟩
          | cont =>
            obtain ⟨σb, Hb, Inb, qb⟩ := back
            exact ⟨_, _, Inb.unsuite ok, qb⟩
          | ret u =>
            obtain ⟨vb, σb, Hb, Inb, rb, qb⟩ := back
            exact ⟨_, _, _, Inb.unsuite ok, rb, qb⟩
        | false =>
          show wpAny _ X.A (handleBy (.ref a) X.env hds2) _ _ _
          exact ih (nay rfl)
      | @consN x n i c ts b₀ suite np pos' hds2 l2 hN hi hln hc hsu r ih =>
        intro w
        obtain ⟨b, hx1, yes, nay⟩ := w
        have hloc : Loc X.env.scope n := .inl hln
        refine wpAny_handleBy_cons (codeAny_handlers_test ?_) (by intro q; cases q)
        have lkT : PySem.W.Looks (model X.prog X.w) h3 (typeOf (.ref a)) cls := fun A Q E s k q => wpAny_typeOf_ref (k _ _ ob3) (by rw [zc3.1]; exact q)
        have lkM := PySem.W.exm_one (M := model X.prog X.w) (Jn3.kIn) lkT hx1
        have test : ∀ {Q : Value → Shared → Prop} {E : Value → Shared → Prop}, Q c { s' with heap := h3 } → wpAny (model X.prog X.w) (X.A.mark (some (.ref a))) (eval (.Name x np) X.env) Q E { s' with heap := h3 } := fun {Q E} q => by
          obtain ⟨hg, hdbg, hm | ⟨hm, hv, hnn⟩⟩ := hc
          · exact ld_glob (X := X.suite a ((a, ox3) :: (X.pn ++ pins))) In3 hg hm q hdbg
          · exact ld_blt (X := X.suite a ((a, ox3) :: (X.pn ++ pins))) In3 hg hm hv q hnn hdbg
        refine test (lkM.here ?_)
        cases b with
        | true =>
          refine codeAny_handlers_suite_as ?_
          refine HandSPX.lands_againZ fz3 fun h4 fz4 ut4 => ?_
          have Jn4 : Inv X pins σ' H' { s' with heap := h4 } := J.landed nb fz4.1 ((up.trans ut3).trans ut4) os ag
          obtain ⟨ox4, xs4, ob4, zc4, dt4⟩ := fz4.there
          have In4 := Jn4.suite ob4 dt4 na offL offS
          refine store_ok (X := X.suite a ((a, ox4) :: (X.pn ++ pins))) (v := .ref a) In4 hN hi hloc rfl (fun t5 In5 => ?_) (.inr hln)
          refine wpAny_mono ((hsu a ox4 cls d (X.pn ++ pins) zc4 ⟨_, dt4⟩).run [] t5 _ H' _ In5 (yes rfl a na)) (fun f t6 back => ?_) (fun _ _ z => False.elim z)
          have gone : ∀ {σb : St} {Hb : Hp} {Q : Shared → Prop}, Inv (X.suite a ((a, ox4) :: (X.pn ++ pins))) [] σb Hb t6 → (∀ s7, Inv X pins (σb.set i none) Hb s7 → Q s7) →
              wpAny (model X.prog X.w) X.A (do bindName X.env n .none; unbindBehindTheSuite X.env n pos') (fun _ s7 => Q s7) X.xe t6 := fun {σb Hb Q} Inb hq => gone_ok (Inb.unsuite ok) hN hi hln hq
          cases f with
          | next =>
            obtain ⟨σb, Hb, Inb, qb⟩ := back
            exact gone Inb fun s7 J7 => ⟨_, _, J7, qb⟩
          | brk =>
            obtain ⟨σb, Hb, Inb, qb⟩ := back
            exact gone Inb fun s7 J7 => ⟨_, _, J7, qb⟩
          | cont =>
            obtain ⟨σb, Hb, Inb, qb⟩ := back
            exact gone Inb fun s7 J7 => ⟨_, _, J7, qb⟩
          | ret u =>
            obtain ⟨vb, σb, Hb, Inb, rb, qb⟩ := back
            exact gone Inb fun s7 J7 => ⟨_, _, _, J7, rb, qb⟩
        | false =>
          show wpAny _ X.A (handleBy (.ref a) X.env hds2) _ _ _
          exact ih (nay rfl)
    exact go hh w
  · cases f with
    | next =>
      obtain ⟨σ', H', J', q⟩ := back
      exact wpAny_execs_nil ⟨σ', H', J'.ofTry ok, q⟩
    | brk =>
      obtain ⟨σ', H', J', q⟩ := back
      exact ⟨σ', H', J'.ofTry ok, q⟩
    | cont =>
      obtain ⟨σ', H', J', q⟩ := back
      exact ⟨σ', H', J'.ofTry ok, q⟩
    | ret u =>
      obtain ⟨v, σ', H', J', r, q⟩ := back
      exact ⟨v, σ', H', J'.ofTry ok, r, q⟩
end
def lstR (K : PySem.W.Frag) : List V → Hp → VK → Prop := fun xs H Q => ∃ p ys, xs = [.ref p] ∧ (SqL K H p ys ∨ SqT K H p ys) ∧ ∀ l, H l = none → Q (.ref l) (upd H l (.lst ys))
theorem call_listK {X : Cx} {K : PySem.W.Frag} (h : X.K = K) : CallR X (.type "list") (lstR K) := by
  subst h
  exact call_list_of
end L2N

/-! one except clause over a tuple of two classes, without a name, of errors without a context -/
namespace PySem.HandSPX
open PySem
theorem TracedZ.keeps {h h' base : Heap} {e : Addr} {Z : Obj → Prop} {fl : Value} (k : ∀ b o, h.get? b = some o → h'.get? b = some o) (t : TracedZ h base e Z fl) : TracedZ h' base e Z fl := by
  obtain ⟨oe, vs, T, oT, ts, h1, h2, h3, h4, h5, h6, h7, h8, h9⟩ := t
  exact ⟨oe, vs, T, oT, ts, k _ _ h1, h2, h3, h4, h5, h6, k _ _ h7, h8, h9⟩
theorem FlyingZ.keeps {base h h' : Heap} {l : List Env} {e : Addr} {Z : Obj → Prop} (k : ∀ b o, h.get? b = some o → h'.get? b = some o) (f : FlyingZ base l e Z h) : FlyingZ base l e Z h' := by
  obtain ⟨a, b, c, d⟩ := f
  exact ⟨fun x o e => k _ _ (a x o e), b, c.of_keeps fun x o e _ => ⟨o, k x o e, rfl⟩, d.keeps k⟩
end PySem.HandSPX
namespace L2N
open PySem PySem.Spec PyProof.Rows L2
/-- what the clause over two classes wishes -/
def wTup2 (K : PySem.W.Frag) (c1 c2 : Value) (ts : Addr → Value → Option Addr → TS) (Wout : WX) (D : Ends) : WX := fun cls d σ H =>
  ∃ b, PySem.W.exmAny K cls [c1, c2] = some b ∧ (b = true → ∀ a, H a = none → ts a cls d D σ H) ∧ (b = false → Wout cls d σ H)
section
variable {X : Cx} {body : List Stmt} {pos : Pos} {tb : WX → TS} {Wout : WX} {x y : Str} {c1 c2 : Value} {ts : Addr → Value → Option Addr → TS} {b₀ : Stmt} {suite : List Stmt} {np1 np2 tpos pos' : Pos} {kk : Nat}
theorem ps_try_tup2 (hs : X.stack = X.env :: X.outer) (hf : X.env.frame = some X.env.locals) (tk : Takes X Wout)
    (hb : ∀ (W : WX) (pn : List (Addr × Obj)) (xe : Value → Shared → Prop), Takes (X.tr pn xe) W → PassesOwn (model X.prog X.w) X.A X.env xe → PSs (X.tr pn xe) body (tb W))
    (hc1 : Names X x c1) (hc2 : Names X y c2)
    (hsu : ∀ (a : Addr) (oe : Obj) (cls : Value) (d : Option Addr) (pn : List (Addr × Obj)), Zn cls d oe → (∃ vs, oe.data = .fields vs) → PSs (X.suite a ((a, oe) :: pn)) (b₀ :: suite) (ts a cls d)) :
    PS X (.Try body [.ExceptHandler (some (.Tuple [.Name x np1, .Name y np2] kk tpos)) none (b₀ :: suite) pos'] [] [] pos) (fun D σ H => tb (wTup2 X.K c1 c2 ts Wout D) D σ H) := by
  refine ⟨fun pins s σ H D I h => ?_⟩
  have ok := I.ok
  have frA : X.A.frames = some (X.env :: X.outer) := by rw [ok.frames, hs]
  refine wpAny_Try_except ?_
  refine wpAny_mono ((hb (wTup2 X.K c1 c2 ts Wout D) (X.pn ++ pins) (fun e s₁ => wpAny (model X.prog X.w) X.A (noteFrame e X.env) (fun _ s₂ => wpAny (model X.prog X.w) X.A (setFlight e none) (fun _ s₃ =>
    wpAny (model X.prog X.w) X.A (handleBy e X.env [.ExceptHandler (some (.Tuple [.Name x np1, .Name y np2] kk tpos)) none (b₀ :: suite) pos']) (SP X pins D) X.xe s₃) X.xe s₂) X.xe s₁) (fun u s' xx => ?_) PassesOwn.looking).run [] s σ H D (I.toTry _) h) (fun f s1 back => ?_) (fun e s1 he => he)
  · -- the catch
    obtain ⟨a, B, sI, pins', σ', H', cls, d, rfl, J', nb, up, sky, na, os, ag, w⟩ := xx
    have J : Inv X pins σ' H' sI := J'.ofTry ok
    have skyE : Sky B (X.env :: X.outer) a (Zn cls d) X.env.locals s'.heap := by rw [← hs]; exact sky
    show wpAny (model X.prog X.w) X.A (noteFrame (.ref a) X.env) _ _ _
    refine Sky.land Zn.steady frA hf skyE fun h3 fz3 ut3 => ?_
    have Jn3 : Inv X pins σ' H' { s' with heap := h3 } := J.landed nb fz3.1 (up.trans ut3) os ag
    obtain ⟨ox3, xs3, ob3, zc3, dt3⟩ := fz3.there
    have aside : ∀ {h : Heap} {o : Obj} {vs : Array Value}, h.FunFrames B (X.env :: X.outer) → h.get? a = some o → o.data = .fields vs → a ∉ frs (X.env :: X.outer) := fun {h o vs} ff e dd hm => by
      obtain ⟨_, o', e', hnf⟩ := ff.mem hm
      rw [e] at e'; cases e'
      exact hnf _ dd
    have offF := aside fz3.2.2.1 ob3 dt3
    have offL : a ≠ X.env.locals := fun z => offF (List.mem_filterMap.mpr ⟨X.env, List.mem_cons_self, by rw [hf, z]⟩)
    have offS : a ∉ X.fs := fun hm => by
      obtain ⟨e, he, q⟩ := List.mem_filterMap.mp hm
      exact offF (List.mem_filterMap.mpr ⟨e, List.mem_cons_of_mem _ he, q⟩)
    have In3 := Jn3.suite ob3 dt3 na offL offS
    obtain ⟨b, hx1, yes, nay⟩ := w
    refine wpAny_handleBy_cons (codeAny_handlers_test ?_) (by intro q; cases q)
    have test : ∀ {z : Str} {c : Value} {np : Pos}, Names X z c → ∀ {Q : Value → Shared → Prop} {E : Value → Shared → Prop}, Q c { s' with heap := h3 } → wpAny (model X.prog X.w) (X.A.mark (some (.ref a))) (eval (.Name z np) X.env) Q E { s' with heap := h3 } := fun {z c np} hc {Q E} q => by
      obtain ⟨hg, hdbg, hm | ⟨hm, hv, hnn⟩⟩ := hc
      · exact ld_glob (X := X.suite a ((a, ox3) :: (X.pn ++ pins))) In3 hg hm q hdbg
      · exact ld_blt (X := X.suite a ((a, ox3) :: (X.pn ++ pins))) In3 hg hm hv q hnn hdbg
    refine wpAny_Tuple ?_
    refine wpAny_items_cons (test hc1 ?_)
    refine wpAny_items_cons (test hc2 ?_)
    refine wpAny_items_nil ⟨by size_fits, ?_⟩
    have kp : ∀ q o, h3.get? q = some o → (h3.push { cls := .type "tuple", data := .seq [c1, c2].toArray }).get? q = some o := fun _ _ z => Heap.get?_push_of_some _ z
    have tp : (h3.push { cls := .type "tuple", data := .seq [c1, c2].toArray }).get? h3.objs.size = some { cls := .type "tuple", data := .seq [c1, c2].toArray } := Heap.get?_push_size h3 rfl
    have fz5 := fz3.keeps kp
    have ut5 : h3.UpToSlots (h3.push { cls := .type "tuple", data := .seq [c1, c2].toArray }) := Heap.UpToSlots.of_keeps kp
    show wpAny _ _ (excMatches (.ref a) (.ref h3.objs.size)) _ _ { s' with heap := h3.push { cls := .type "tuple", data := .seq [c1, c2].toArray } }
    generalize h3.push { cls := .type "tuple", data := .seq [c1, c2].toArray } = h5 at kp tp fz5 ut5 ⊢
    have lkT : PySem.W.Looks (model X.prog X.w) h5 (typeOf (.ref a)) cls := fun A Q E s k q => wpAny_typeOf_ref (k _ _ (kp _ _ ob3)) (by rw [zc3.1]; exact q)
    have lkM := PySem.W.exm_tup2 (M := model X.prog X.w) (Jn3.kIn.keeps kp) lkT tp hx1
    refine lkM.here ?_
    cases b with
    | true =>
      refine codeAny_handlers_suite ?_
      refine HandSPX.lands_againZ fz5 fun h4 fz4 ut4 => ?_
      have Jn4 : Inv X pins σ' H' { s' with heap := h4 } := J.landed nb fz4.1 (((up.trans ut3).trans ut5).trans ut4) os ag
      obtain ⟨ox4, xs4, ob4, zc4, dt4⟩ := fz4.there
      have In4 := Jn4.suite ob4 dt4 na offL offS
      refine wpAny_mono ((hsu a ox4 cls d (X.pn ++ pins) zc4 ⟨_, dt4⟩).run [] _ _ H' _ In4 (yes rfl a na)) (fun f t6 back => ?_) (fun _ _ z => False.elim z)
      cases f with
      | next =>
        obtain ⟨σb, Hb, Inb, qb⟩ := back
        exact ⟨_, _, Inb.unsuite ok, qb⟩
      | brk =>
        obtain ⟨σb, Hb, Inb, qb⟩ := back
        exact ⟨_, _, Inb.unsuite ok, qb⟩
      | cont =>
        obtain ⟨σb, Hb, Inb, qb⟩ := back
        exact ⟨_, _, Inb.unsuite ok, qb⟩
      | ret u =>
        obtain ⟨vb, σb, Hb, Inb, rb, qb⟩ := back
        exact ⟨_, _, _, Inb.unsuite ok, rb, qb⟩
    | false =>
      show wpAny _ X.A (handleBy (.ref a) X.env []) _ _ _
      have w := nay rfl
      refine wpAny_handleBy_nil ?_
      obtain ⟨k1, k2, k3, oe, vs, T, oT, ts', he, hz, hd, h1, hr⟩ := id fz5
      unfold PySem.passOn
      refine wpAny_bind (wpAny_field he hd h1 ?_)
      rw [if_neg (show ¬ ((Value.ref T == Value.none) = true) from by simp)]
      have fin : wpAny (model X.prog X.w) X.A (setFlight (.ref a) X.env.frame) (fun _ s4 => wpAny (model X.prog X.w) X.A (throw (.ref a) : Sem Flow) (SP X pins D) X.xe s4) X.xe { s' with heap := h5 } := by
        rw [hf]
        refine HandSPX.setFlight_upZ fz5 fun h4 hh4 ut4 => wpAny_throw (tk _ _ ?_)
        exact ⟨a, B, sI, pins, σ', H', cls, d, rfl, J, nb, ((up.trans ut3).trans ut5).trans ut4, .inr (.inr (by rw [hs]; exact hh4)), na, os, ag, w⟩
      first
        | exact wpAny_bind (wpAny_pure (wpAny_bind fin))
        | exact wpAny_bind fin
  · cases f with
    | next =>
      obtain ⟨σ', H', J', q⟩ := back
      exact wpAny_execs_nil ⟨σ', H', J'.ofTry ok, q⟩
    | brk =>
      obtain ⟨σ', H', J', q⟩ := back
      exact ⟨σ', H', J'.ofTry ok, q⟩
    | cont =>
      obtain ⟨σ', H', J', q⟩ := back
      exact ⟨σ', H', J'.ofTry ok, q⟩
    | ret u =>
      obtain ⟨v, σ', H', J', r, q⟩ := back
      exact ⟨v, σ', H', J'.ofTry ok, r, q⟩
end
end L2N

namespace Pv
open PySem L2
/-! ### error classes -/
def veM (M : Addr) : List Value := [.ref M, .type "ValueError", .type "Exception", .type "BaseException", .type "object"]
structure ErrK (K : PySem.W.Frag) (mg : Str → Option Value) (M C : Addr) (x : Str) : Prop where
  g : mg x = some (.ref C)
  k : PySem.W.keepIn K (.ref C) = true
  l : ∃ nm q N bs sn sub ab col dd k0 k1 k2 k3 k5, K.lookup C = some (excClassObj nm q C N bs (veM M) true sn sub ab col dd k0 k1 k2 k3 k5 "ValueError.__new__")
  sa : PySem.W.findIn K (.ref C) "__setattr__" = some (some (.builtin "object.__setattr__"))
  ga : PySem.W.findIn K (.ref C) "__getattribute__" = some (some (.builtin "BaseException.__getattribute__"))
  gg : PySem.W.findIn K (.ref C) "__getattr__" = some none
  ca : PySem.W.findIn K (.ref C) "__class__" = some (some (.builtin "object.__class__"))
structure ErrM (K : PySem.W.Frag) (mg : Str → Option Value) (M : Addr) : Prop where
  g : mg "MendError" = some (.ref M)
  l : ∃ nm q N bs bm sn sub ab col dd k0 k1 k2 k3 k5, K.lookup M = some (excClassObj nm q M N bs bm true sn sub ab col dd k0 k1 k2 k3 k5 "ValueError.__new__")
structure ErrF (K : PySem.W.Frag) (C I : Addr) (qual f : Str) (st : Stmt) : Prop where
  i : PySem.W.findIn K (.ref C) "__init__" = some (some (.ref I))
  t : PySem.W.typeIn K (.ref I) = some (.type "function")
  nf : PySem.W.findIn K (.ref C) f = some none
  fn : ∃ fd, Fun K "__init__" qual st I fd
section
variable {K : PySem.W.Frag} {mg : Str → Option Value} {M C D : Addr} {x : Str}
theorem ErrK.ty (E : ErrK K mg M C x) : PySem.W.typeIn K (.ref C) = some (.type "type") := by
  obtain ⟨nm, q, N, bs, sn, sub, ab, col, dd, k0, k1, k2, k3, k5, h⟩ := E.l
  show (K.lookup C).map (·.cls) = _
  rw [h]
  rfl
theorem ErrM.ty (E : ErrM K mg M) : PySem.W.typeIn K (.ref M) = some (.type "type") := by
  obtain ⟨nm, q, N, bs, bm, sn, sub, ab, col, dd, k0, k1, k2, k3, k5, h⟩ := E.l
  show (K.lookup M).map (·.cls) = _
  rw [h]
  rfl
theorem ErrM.cls (E : ErrM K mg M) : (PySem.W.clsIn K M).isSome = true := by
  obtain ⟨nm, q, N, bs, bm, sn, sub, ab, col, dd, k0, k1, k2, k3, k5, h⟩ := E.l
  unfold PySem.W.clsIn
  rw [h]
  rfl
theorem ErrK.mro (E : ErrK K mg M C x) (v : Value) : PySem.W.mroIn K C v = some ((Value.ref C :: veM M).contains v) := by
  obtain ⟨nm, q, N, bs, sn, sub, ab, col, dd, k0, k1, k2, k3, k5, h⟩ := E.l
  unfold PySem.W.mroIn PySem.W.clsIn
  rw [h]
  rfl
theorem ErrK.cls (E : ErrK K mg M C x) : (PySem.W.clsIn K C).isSome = true := by
  obtain ⟨nm, q, N, bs, sn, sub, ab, col, dd, k0, k1, k2, k3, k5, h⟩ := E.l
  unfold PySem.W.clsIn
  rw [h]
  rfl
theorem ErrK.hd (E : ErrK K mg M C x) : PySem.W.hasDictIn K C = true := by
  obtain ⟨nm, q, N, bs, sn, sub, ab, col, dd, k0, k1, k2, k3, k5, h⟩ := E.l
  unfold PySem.W.hasDictIn PySem.W.clsIn
  rw [h]
  rfl
theorem ErrK.sub (E : ErrK K mg M C x) : PySem.W.subIn K (.ref C) (.type "BaseException") = some true := by
  show PySem.W.mroIn K C _ = _
  rw [E.mro]
  simp [veM]
theorem ErrK.xfc (E : ErrK K mg M C x) : XfC K C := ⟨E.ga, E.gg, E.sub, E.hd⟩
theorem ErrK.oex (E : ErrK K mg M C x) : OexC K C := by
  obtain ⟨nm, q, N, bs, sn, sub, ab, col, dd, k0, k1, k2, k3, k5, h⟩ := E.l
  exact ⟨⟨nm, q, N, bs, veM M, sn, sub, ab, col, dd, k0, k1, k2, k3, k5, h, rfl⟩, E.sa, E.sub, E.ty, E.k⟩
theorem ErrK.exc (E : ErrK K mg M C x) (cn : PySem.W.specialIn K (.builtin "object.__class__") "__get__" = some (some (.builtin "getset_descriptor.__get__"))) (ct : PySem.W.takesIn K (.builtin "object.__class__") = some true) : ExcC K C :=
  ⟨E.ga, E.gg, E.sub, E.hd, E.ca, cn, ct, by rw [E.mro]; simp [veM]⟩
theorem kitCls_ref {t : Value} (h1 : (PySem.W.clsIn K D).isSome = true) (h2 : PySem.W.typeIn K (.ref D) = some (.type "type")) : PySem.W.kitCls K t (.ref D) = PySem.W.subIn K t (.ref D) := by
  show (if ((PySem.W.clsIn K D).isSome && PySem.W.typeIn K (.ref D) == some (.type "type")) = true then PySem.W.subIn K t (.ref D) else none) = _
  rw [h1, h2, if_pos (by simp)]
/-- isinstance against the class itself, its base, ValueError, another class -/
theorem kit_self : PySem.W.kitOne K (.ref C) (.ref C) = some true := by
  unfold PySem.W.kitOne
  rw [if_pos (by simp)]
theorem ErrK.kit_ne {y : Str} (E : ErrK K mg M C x) (F : ErrK K mg M D y) (h : C ≠ D) (hM : M ≠ D) : PySem.W.kitOne K (.ref C) (.ref D) = some false := by
  unfold PySem.W.kitOne
  rw [if_neg (by simp [h])]
  rw [kitCls_ref F.cls F.ty]
  show PySem.W.mroIn K C _ = _
  rw [E.mro]
  have h1 : D ≠ C := fun z => h z.symm
  have h2 : D ≠ M := fun z => hM z.symm
  simp [veM, h1, h2]
theorem ErrK.kit_base (E : ErrK K mg M C x) (F : ErrM K mg M) (h : C ≠ M) : PySem.W.kitOne K (.ref C) (.ref M) = some true := by
  unfold PySem.W.kitOne
  rw [if_neg (by simp [h])]
  rw [kitCls_ref F.cls F.ty]
  show PySem.W.mroIn K C _ = _
  rw [E.mro]
  simp [veM]
theorem ErrK.kit_ve (E : ErrK K mg M C x) : PySem.W.kitOne K (.ref C) (.type "ValueError") = some true := by
  unfold PySem.W.kitOne
  rw [if_neg (by simp)]
  unfold PySem.W.kitCls
  show (if PySem.W.kitMeta "ValueError" = true then PySem.W.mroIn K C (.type "ValueError") else none) = _
  rw [if_pos (by decide +kernel), E.mro]
  simp [veM]
theorem ErrK.exm (E : ErrK K mg M C x) : PySem.W.exmOne K (.ref C) (.ref C) = some true := by
  unfold PySem.W.exmOne
  rw [E.sub, if_pos (by simp)]
  rw [kitCls_ref E.cls E.ty]
  show PySem.W.mroIn K C _ = _
  rw [E.mro]
  simp
theorem ErrK.exm_ne {y : Str} (E : ErrK K mg M C x) (F : ErrK K mg M D y) (h : C ≠ D) (hM : M ≠ D) : PySem.W.exmOne K (.ref C) (.ref D) = some false := by
  unfold PySem.W.exmOne
  rw [F.sub, if_pos (by simp)]
  rw [kitCls_ref F.cls F.ty]
  show PySem.W.mroIn K C _ = _
  rw [E.mro]
  have h1 : D ≠ C := fun z => h z.symm
  have h2 : D ≠ M := fun z => hM z.symm
  simp [veM, h1, h2]
end
def word : Nat → Str
  | 0 => "free" | 1 => "pair" | 2 => "claim" | 3 => "hook" | 4 => "relay" | 5 => "clamp" | 6 => "trail" | _ => "wheel"
def wordsV : List V := [.str "free", .str "pair", .str "claim", .str "hook", .str "relay", .str "clamp", .str "trail", .str "wheel"]
def formsT : List (List Nat × Str) := [([0], "free"), ([1, 0], "pair"), ([1, 1], "claim"), ([1, 2, 1], "hook"), ([1, 2, 2], "relay"), ([1, 2, 1, 2], "clamp"), ([1, 2, 3, 2], "trail"), ([1, 2, 3, 0], "wheel")]
/-- a def with its promise: how it binds, too -/
def Okd (P : Program) (w : World) (K : PySem.W.Frag) (mg : Str → Option Value) (base : Heap) (CX : CXT) (k : Nat) (f : Addr) (ps : List Str) (sp : Sp) : Prop := ∃ fd, FnOk P w K mg base CX k f fd ps sp ∧ Binds K fd ps []
/-- a def called where an exception is handled, with its promise -/
def Okh (P : Program) (w : World) (K : PySem.W.Frag) (mg : Str → Option Value) (base : Heap) (CX : CXT) (k : Nat) (f : Addr) (ps : List Str) (sp : Sp) : Prop := ∃ fd, L2H.FnH P w K mg base CX k f fd ps sp ∧ Binds K fd ps []
/-! ### the text -/
def top (i : Nat) : Stmt := PySem.Challenge.pw_peermend_k06_operators_of_updates.main.body.getD i (.Pass ⟨0, 0, 0, 0⟩)
abbrev s_check_image : Stmt := top 9
abbrev s_check_state : Stmt := top 10
abbrev s_check_pair : Stmt := top 11
abbrev s_m_init : Stmt := inClass (top 13) 0
abbrev s_m_records : Stmt := inClass (top 13) 1
abbrev s_m_rest : Stmt := inClass (top 13) 7
abbrev s_m_joint : Stmt := inClass (top 13) 8
abbrev s_m_neg : Stmt := inClass (top 13) 9
abbrev s_m_add : Stmt := inClass (top 13) 10
abbrev s_m_eq : Stmt := inClass (top 13) 11
abbrev s_m_len : Stmt := inClass (top 13) 12
abbrev s_m_contains : Stmt := inClass (top 13) 13
abbrev s_m_repr : Stmt := inClass (top 13) 14
abbrev s_written : Stmt := top 14
abbrev s_law_mix : Stmt := top 16
abbrev s_law_box : Stmt := top 17
abbrev s_law_draw : Stmt := top 18
abbrev s_law_size : Stmt := top 19
abbrev s_law_paired : Stmt := top 20
abbrev s_law_other : Stmt := top 21
abbrev s_law_blocks : Stmt := top 22
abbrev s_law_touched : Stmt := top 23
abbrev s_law_whole : Stmt := top 24
abbrev s_law_row : Stmt := top 25
abbrev s_law_spoil : Stmt := top 26
abbrev s_law_entry : Stmt := top 27
abbrev s_law_unsettled : Stmt := top 28
abbrev s_law_update : Stmt := top 29
abbrev s_law_answer : Stmt := top 30
abbrev s_law_made : Stmt := top 31
abbrev s_law_rows : Stmt := top 32
abbrev s_law_one : Stmt := top 33
abbrev s_law_sum : Stmt := top 34
abbrev s_law_sum_of_all : Stmt := top 35
abbrev s_law_joint : Stmt := top 36
abbrev s_law_plus_kept : Stmt := top 37
abbrev s_law_joint_kept : Stmt := top 38
abbrev s_law_equal_kept : Stmt := top 39
abbrev s_law_rest_kept : Stmt := top 40
abbrev s_law : Stmt := top 41
abbrev s_InvalidImage : Stmt := inClass (top 3) 0
abbrev s_NotState : Stmt := inClass (top 4) 0
abbrev s_Busy : Stmt := inClass (top 5) 0
structure Ad where
  check_image : Addr
  check_state : Addr
  check_pair : Addr
  m_init : Addr
  m_records : Addr
  m_rest : Addr
  m_joint : Addr
  m_neg : Addr
  m_add : Addr
  m_eq : Addr
  m_len : Addr
  m_contains : Addr
  m_repr : Addr
  written : Addr
  law_mix : Addr
  law_box : Addr
  law_draw : Addr
  law_size : Addr
  law_paired : Addr
  law_other : Addr
  law_blocks : Addr
  law_touched : Addr
  law_whole : Addr
  law_row : Addr
  law_spoil : Addr
  law_entry : Addr
  law_unsettled : Addr
  law_update : Addr
  law_answer : Addr
  law_made : Addr
  law_rows : Addr
  law_one : Addr
  law_sum : Addr
  law_sum_of_all : Addr
  law_joint : Addr
  law_plus_kept : Addr
  law_joint_kept : Addr
  law_equal_kept : Addr
  law_rest_kept : Addr
  law : Addr
  MendError : Addr
  InvalidImage : Addr
  NotState : Addr
  Busy : Addr
  UnequalSizes : Addr
  InvalidUpdate : Addr
  i_InvalidImage : Addr
  i_NotState : Addr
  i_Busy : Addr
  Update : Addr
  p_records : Addr
  p_rest : Addr
  p_joint : Addr
abbrev N_check_image : List Str := ["image", "size", "record", "name"]
abbrev P_check_image : List Str := ["image"]
theorem sc_check_image : FnScope N_check_image P_check_image (defScope s_check_image) := ⟨rfl, rfl, rfl, by decide +kernel, rfl, by decide +kernel, by decide +kernel⟩
abbrev N_check_state : List Str := ["state", "record", "name"]
abbrev P_check_state : List Str := ["state"]
theorem sc_check_state : FnScope N_check_state P_check_state (defScope s_check_state) := ⟨rfl, rfl, rfl, by decide +kernel, rfl, by decide +kernel, by decide +kernel⟩
abbrev N_check_pair : List Str := ["first", "second"]
abbrev P_check_pair : List Str := ["first", "second"]
theorem sc_check_pair : FnScope N_check_pair P_check_pair (defScope s_check_pair) := ⟨rfl, rfl, rfl, by decide +kernel, rfl, by decide +kernel, by decide +kernel⟩
abbrev N_m_init : List Str := ["self", "before", "after"]
abbrev P_m_init : List Str := ["self", "before", "after"]
theorem sc_m_init : FnScope N_m_init P_m_init (defScope s_m_init) := ⟨rfl, rfl, rfl, by decide +kernel, rfl, by decide +kernel, by decide +kernel⟩
abbrev N_m_records : List Str := ["self", "after", "name", "record"]
abbrev P_m_records : List Str := ["self"]
theorem sc_m_records : FnScope N_m_records P_m_records (defScope s_m_records) := ⟨rfl, rfl, rfl, by decide +kernel, rfl, by decide +kernel, by decide +kernel⟩
abbrev N_m_rest : List Str := ["cls", "state"]
abbrev P_m_rest : List Str := ["cls", "state"]
theorem sc_m_rest : FnScope N_m_rest P_m_rest (defScope s_m_rest) := ⟨rfl, rfl, rfl, by decide +kernel, rfl, by decide +kernel, by decide +kernel⟩
abbrev N_m_joint : List Str := ["updates", "total", "update"]
abbrev P_m_joint : List Str := ["updates"]
theorem sc_m_joint : FnScope N_m_joint P_m_joint (defScope s_m_joint) := ⟨rfl, rfl, rfl, by decide +kernel, rfl, by decide +kernel, by decide +kernel⟩
abbrev N_m_neg : List Str := ["self"]
abbrev P_m_neg : List Str := ["self"]
theorem sc_m_neg : FnScope N_m_neg P_m_neg (defScope s_m_neg) := ⟨rfl, rfl, rfl, by decide +kernel, rfl, by decide +kernel, by decide +kernel⟩
abbrev N_m_add : List Str := ["self", "other", "theirs", "record"]
abbrev P_m_add : List Str := ["self", "other"]
theorem sc_m_add : FnScope N_m_add P_m_add (defScope s_m_add) := ⟨rfl, rfl, rfl, by decide +kernel, rfl, by decide +kernel, by decide +kernel⟩
abbrev N_m_eq : List Str := ["self", "other"]
abbrev P_m_eq : List Str := ["self", "other"]
theorem sc_m_eq : FnScope N_m_eq P_m_eq (defScope s_m_eq) := ⟨rfl, rfl, rfl, by decide +kernel, rfl, by decide +kernel, by decide +kernel⟩
abbrev N_m_len : List Str := ["self"]
abbrev P_m_len : List Str := ["self"]
theorem sc_m_len : FnScope N_m_len P_m_len (defScope s_m_len) := ⟨rfl, rfl, rfl, by decide +kernel, rfl, by decide +kernel, by decide +kernel⟩
abbrev N_m_contains : List Str := ["self", "x"]
abbrev P_m_contains : List Str := ["self", "x"]
theorem sc_m_contains : FnScope N_m_contains P_m_contains (defScope s_m_contains) := ⟨rfl, rfl, rfl, by decide +kernel, rfl, by decide +kernel, by decide +kernel⟩
abbrev N_m_repr : List Str := ["self"]
abbrev P_m_repr : List Str := ["self"]
theorem sc_m_repr : FnScope N_m_repr P_m_repr (defScope s_m_repr) := ⟨rfl, rfl, rfl, by decide +kernel, rfl, by decide +kernel, by decide +kernel⟩
abbrev N_written : List Str := ["old", "new", "done", "name", "record"]
abbrev P_written : List Str := ["old", "new", "done"]
theorem sc_written : FnScope N_written P_written (defScope s_written) := ⟨rfl, rfl, rfl, by decide +kernel, rfl, by decide +kernel, by decide +kernel⟩
abbrev N_law_mix : List Str := ["seed", "step", "one", "two"]
abbrev P_law_mix : List Str := ["seed", "step"]
theorem sc_law_mix : FnScope N_law_mix P_law_mix (defScope s_law_mix) := ⟨rfl, rfl, rfl, by decide +kernel, rfl, by decide +kernel, by decide +kernel⟩
abbrev N_law_box : List Str := ["script", "seed", "cell"]
abbrev P_law_box : List Str := ["script"]
theorem sc_law_box : FnScope N_law_box P_law_box (defScope s_law_box) := ⟨rfl, rfl, rfl, by decide +kernel, rfl, by decide +kernel, by decide +kernel⟩
abbrev N_law_draw : List Str := ["box", "many", "cell", "digits"]
abbrev P_law_draw : List Str := ["box", "many"]
theorem sc_law_draw : FnScope N_law_draw P_law_draw (defScope s_law_draw) := ⟨rfl, rfl, rfl, by decide +kernel, rfl, by decide +kernel, by decide +kernel⟩
abbrev N_law_size : List Str := ["box"]
abbrev P_law_size : List Str := ["box"]
theorem sc_law_size : FnScope N_law_size P_law_size (defScope s_law_size) := ⟨rfl, rfl, rfl, by decide +kernel, rfl, by decide +kernel, by decide +kernel⟩
abbrev N_law_paired : List Str := ["box", "row", "among", "made", "pool", "x", "turn", "one", "two"]
abbrev P_law_paired : List Str := ["box", "row", "among"]
theorem sc_law_paired : FnScope N_law_paired P_law_paired (defScope s_law_paired) := ⟨rfl, rfl, rfl, by decide +kernel, rfl, by decide +kernel, by decide +kernel⟩
abbrev N_law_other : List Str := ["box", "row", "among", "made"]
abbrev P_law_other : List Str := ["box", "row", "among"]
theorem sc_law_other : FnScope N_law_other P_law_other (defScope s_law_other) := ⟨rfl, rfl, rfl, by decide +kernel, rfl, by decide +kernel, by decide +kernel⟩
abbrev N_law_blocks : List Str := ["row", "found", "x"]
abbrev P_law_blocks : List Str := ["row"]
theorem sc_law_blocks : FnScope N_law_blocks P_law_blocks (defScope s_law_blocks) := ⟨rfl, rfl, rfl, by decide +kernel, rfl, by decide +kernel, by decide +kernel⟩
abbrev N_law_touched : List Str := ["box", "row", "most", "pool", "found", "turn", "block"]
abbrev P_law_touched : List Str := ["box", "row", "most"]
theorem sc_law_touched : FnScope N_law_touched P_law_touched (defScope s_law_touched) := ⟨rfl, rfl, rfl, by decide +kernel, rfl, by decide +kernel, by decide +kernel⟩
abbrev N_law_whole : List Str := ["told", "due"]
abbrev P_law_whole : List Str := ["told", "due"]
theorem sc_law_whole : FnScope N_law_whole P_law_whole (defScope s_law_whole) := ⟨rfl, rfl, rfl, by decide +kernel, rfl, by decide +kernel, by decide +kernel⟩
abbrev N_law_row : List Str := ["told", "due", "k"]
abbrev P_law_row : List Str := ["told", "due"]
theorem sc_law_row : FnScope N_law_row P_law_row (defScope s_law_row) := ⟨rfl, rfl, rfl, by decide +kernel, rfl, by decide +kernel, by decide +kernel⟩
abbrev N_law_spoil : List Str := ["row", "k"]
abbrev P_law_spoil : List Str := ["row"]
theorem sc_law_spoil : FnScope N_law_spoil P_law_spoil (defScope s_law_spoil) := ⟨rfl, rfl, rfl, by decide +kernel, rfl, by decide +kernel, by decide +kernel⟩
abbrev N_law_entry : List Str := ["row", "k"]
abbrev P_law_entry : List Str := ["row"]
theorem sc_law_entry : FnScope N_law_entry P_law_entry (defScope s_law_entry) := ⟨rfl, rfl, rfl, by decide +kernel, rfl, by decide +kernel, by decide +kernel⟩
abbrev N_law_unsettled : List Str := ["row", "x"]
abbrev P_law_unsettled : List Str := ["row"]
theorem sc_law_unsettled : FnScope N_law_unsettled P_law_unsettled (defScope s_law_unsettled) := ⟨rfl, rfl, rfl, by decide +kernel, rfl, by decide +kernel, by decide +kernel⟩
abbrev N_law_update : List Str := ["told", "old", "new", "moved", "x"]
abbrev P_law_update : List Str := ["told", "old", "new"]
theorem sc_law_update : FnScope N_law_update P_law_update (defScope s_law_update) := ⟨rfl, rfl, rfl, by decide +kernel, rfl, by decide +kernel, by decide +kernel⟩
abbrev N_law_answer : List Str := ["told", "due"]
abbrev P_law_answer : List Str := ["told", "due"]
theorem sc_law_answer : FnScope N_law_answer P_law_answer (defScope s_law_answer) := ⟨rfl, rfl, rfl, by decide +kernel, rfl, by decide +kernel, by decide +kernel⟩
abbrev N_law_made : List Str := ["row"]
abbrev P_law_made : List Str := ["row"]
theorem sc_law_made : FnScope N_law_made P_law_made (defScope s_law_made) := ⟨rfl, rfl, rfl, by decide +kernel, rfl, by decide +kernel, by decide +kernel⟩
abbrev N_law_rows : List Str := ["box", "size", "old", "many", "hands", "block", "at", "rows", "way", "more", "both", "base", "k", "hand", "x"]
abbrev P_law_rows : List Str := ["box", "size"]
theorem sc_law_rows : FnScope N_law_rows P_law_rows (defScope s_law_rows) := ⟨rfl, rfl, rfl, by decide +kernel, rfl, by decide +kernel, by decide +kernel⟩
abbrev N_law_one : List Str := ["update", "row", "old", "new", "x", "turned"]
abbrev P_law_one : List Str := ["update", "row"]
theorem sc_law_one : FnScope N_law_one P_law_one (defScope s_law_one) := ⟨rfl, rfl, rfl, by decide +kernel, rfl, by decide +kernel, by decide +kernel⟩
abbrev N_law_sum : List Str := ["one", "two", "old", "x"]
abbrev P_law_sum : List Str := ["one", "two"]
theorem sc_law_sum : FnScope N_law_sum P_law_sum (defScope s_law_sum) := ⟨rfl, rfl, rfl, by decide +kernel, rfl, by decide +kernel, by decide +kernel⟩
abbrev N_law_sum_of_all : List Str := ["rows", "due", "row"]
abbrev P_law_sum_of_all : List Str := ["rows"]
theorem sc_law_sum_of_all : FnScope N_law_sum_of_all P_law_sum_of_all (defScope s_law_sum_of_all) := ⟨rfl, rfl, rfl, by decide +kernel, rfl, by decide +kernel, by decide +kernel⟩
abbrev N_law_joint : List Str := ["row"]
abbrev P_law_joint : List Str := ["row"]
theorem sc_law_joint : FnScope N_law_joint P_law_joint (defScope s_law_joint) := ⟨rfl, rfl, rfl, by decide +kernel, rfl, by decide +kernel, by decide +kernel⟩
abbrev N_law_plus_kept : List Str := ["one", "two", "due", "told", "e"]
abbrev P_law_plus_kept : List Str := ["one", "two", "due"]
theorem sc_law_plus_kept : FnScope N_law_plus_kept P_law_plus_kept (defScope s_law_plus_kept) := ⟨rfl, rfl, rfl, by decide +kernel, rfl, by decide +kernel, by decide +kernel⟩
abbrev N_law_joint_kept : List Str := ["row", "due", "told", "e"]
abbrev P_law_joint_kept : List Str := ["row", "due"]
theorem sc_law_joint_kept : FnScope N_law_joint_kept P_law_joint_kept (defScope s_law_joint_kept) := ⟨rfl, rfl, rfl, by decide +kernel, rfl, by decide +kernel, by decide +kernel⟩
abbrev N_law_equal_kept : List Str := ["box", "update", "row", "near"]
abbrev P_law_equal_kept : List Str := ["box", "update", "row"]
theorem sc_law_equal_kept : FnScope N_law_equal_kept P_law_equal_kept (defScope s_law_equal_kept) := ⟨rfl, rfl, rfl, by decide +kernel, rfl, by decide +kernel, by decide +kernel⟩
abbrev N_law_rest_kept : List Str := ["box", "state", "passed", "told", "bent", "turn", "menu", "bad", "e"]
abbrev P_law_rest_kept : List Str := ["box", "state"]
theorem sc_law_rest_kept : FnScope N_law_rest_kept P_law_rest_kept (defScope s_law_rest_kept) := ⟨rfl, rfl, rfl, by decide +kernel, rfl, by decide +kernel, by decide +kernel⟩
abbrev N_law : List Str := ["script", "box", "rows", "made", "many", "k", "turn", "i", "j", "taken", "row"]
abbrev P_law : List Str := ["script"]
theorem sc_law : FnScope N_law P_law (defScope s_law) := ⟨rfl, rfl, rfl, by decide +kernel, rfl, by decide +kernel, by decide +kernel⟩
abbrev N_InvalidImage : List Str := ["self", "record"]
abbrev P_InvalidImage : List Str := ["self", "record"]
theorem sc_InvalidImage : FnScope N_InvalidImage P_InvalidImage (defScope s_InvalidImage) := ⟨rfl, rfl, rfl, by decide +kernel, rfl, by decide +kernel, by decide +kernel⟩
abbrev N_NotState : List Str := ["self", "record"]
abbrev P_NotState : List Str := ["self", "record"]
theorem sc_NotState : FnScope N_NotState P_NotState (defScope s_NotState) := ⟨rfl, rfl, rfl, by decide +kernel, rfl, by decide +kernel, by decide +kernel⟩
abbrev N_Busy : List Str := ["self", "record"]
abbrev P_Busy : List Str := ["self", "record"]
theorem sc_Busy : FnScope N_Busy P_Busy (defScope s_Busy) := ⟨rfl, rfl, rfl, by decide +kernel, rfl, by decide +kernel, by decide +kernel⟩
structure Txt (K : PySem.W.Frag) (mg : Str → Option Value) (A : Ad) : Prop where
  g_check_image : mg "check_image" = some (.ref A.check_image)
  k_check_image : PySem.W.keepIn K (.ref A.check_image) = true
  d_check_image : ∃ fd, Fun K "check_image" "check_image" s_check_image A.check_image fd
  g_check_state : mg "check_state" = some (.ref A.check_state)
  k_check_state : PySem.W.keepIn K (.ref A.check_state) = true
  d_check_state : ∃ fd, Fun K "check_state" "check_state" s_check_state A.check_state fd
  g_check_pair : mg "check_pair" = some (.ref A.check_pair)
  k_check_pair : PySem.W.keepIn K (.ref A.check_pair) = true
  d_check_pair : ∃ fd, Fun K "check_pair" "check_pair" s_check_pair A.check_pair fd
  d_m_init : ∃ fd, Fun K "__init__" "Update.__init__" s_m_init A.m_init fd
  d_m_records : ∃ fd, Fun K "records" "Update.records" s_m_records A.m_records fd
  d_m_rest : ∃ fd, Fun K "rest" "Update.rest" s_m_rest A.m_rest fd
  d_m_joint : ∃ fd, Fun K "joint" "Update.joint" s_m_joint A.m_joint fd
  d_m_neg : ∃ fd, Fun K "__neg__" "Update.__neg__" s_m_neg A.m_neg fd
  d_m_add : ∃ fd, Fun K "__add__" "Update.__add__" s_m_add A.m_add fd
  d_m_eq : ∃ fd, Fun K "__eq__" "Update.__eq__" s_m_eq A.m_eq fd
  d_m_len : ∃ fd, Fun K "__len__" "Update.__len__" s_m_len A.m_len fd
  d_m_contains : ∃ fd, Fun K "__contains__" "Update.__contains__" s_m_contains A.m_contains fd
  d_m_repr : ∃ fd, Fun K "__repr__" "Update.__repr__" s_m_repr A.m_repr fd
  g_written : mg "_written" = some (.ref A.written)
  k_written : PySem.W.keepIn K (.ref A.written) = true
  d_written : ∃ fd, Fun K "_written" "_written" s_written A.written fd
  g_law_mix : mg "_law_mix" = some (.ref A.law_mix)
  k_law_mix : PySem.W.keepIn K (.ref A.law_mix) = true
  d_law_mix : ∃ fd, Fun K "_law_mix" "_law_mix" s_law_mix A.law_mix fd
  g_law_box : mg "_law_box" = some (.ref A.law_box)
  k_law_box : PySem.W.keepIn K (.ref A.law_box) = true
  d_law_box : ∃ fd, Fun K "_law_box" "_law_box" s_law_box A.law_box fd
  g_law_draw : mg "_law_draw" = some (.ref A.law_draw)
  k_law_draw : PySem.W.keepIn K (.ref A.law_draw) = true
  d_law_draw : ∃ fd, Fun K "_law_draw" "_law_draw" s_law_draw A.law_draw fd
  g_law_size : mg "_law_size" = some (.ref A.law_size)
  k_law_size : PySem.W.keepIn K (.ref A.law_size) = true
  d_law_size : ∃ fd, Fun K "_law_size" "_law_size" s_law_size A.law_size fd
  g_law_paired : mg "_law_paired" = some (.ref A.law_paired)
  k_law_paired : PySem.W.keepIn K (.ref A.law_paired) = true
  d_law_paired : ∃ fd, Fun K "_law_paired" "_law_paired" s_law_paired A.law_paired fd
  g_law_other : mg "_law_other" = some (.ref A.law_other)
  k_law_other : PySem.W.keepIn K (.ref A.law_other) = true
  d_law_other : ∃ fd, Fun K "_law_other" "_law_other" s_law_other A.law_other fd
  g_law_blocks : mg "_law_blocks" = some (.ref A.law_blocks)
  k_law_blocks : PySem.W.keepIn K (.ref A.law_blocks) = true
  d_law_blocks : ∃ fd, Fun K "_law_blocks" "_law_blocks" s_law_blocks A.law_blocks fd
  g_law_touched : mg "_law_touched" = some (.ref A.law_touched)
  k_law_touched : PySem.W.keepIn K (.ref A.law_touched) = true
  d_law_touched : ∃ fd, Fun K "_law_touched" "_law_touched" s_law_touched A.law_touched fd
  g_law_whole : mg "_law_whole" = some (.ref A.law_whole)
  k_law_whole : PySem.W.keepIn K (.ref A.law_whole) = true
  d_law_whole : ∃ fd, Fun K "_law_whole" "_law_whole" s_law_whole A.law_whole fd
  g_law_row : mg "_law_row" = some (.ref A.law_row)
  k_law_row : PySem.W.keepIn K (.ref A.law_row) = true
  d_law_row : ∃ fd, Fun K "_law_row" "_law_row" s_law_row A.law_row fd
  g_law_spoil : mg "_law_spoil" = some (.ref A.law_spoil)
  k_law_spoil : PySem.W.keepIn K (.ref A.law_spoil) = true
  d_law_spoil : ∃ fd, Fun K "_law_spoil" "_law_spoil" s_law_spoil A.law_spoil fd
  g_law_entry : mg "_law_entry" = some (.ref A.law_entry)
  k_law_entry : PySem.W.keepIn K (.ref A.law_entry) = true
  d_law_entry : ∃ fd, Fun K "_law_entry" "_law_entry" s_law_entry A.law_entry fd
  g_law_unsettled : mg "_law_unsettled" = some (.ref A.law_unsettled)
  k_law_unsettled : PySem.W.keepIn K (.ref A.law_unsettled) = true
  d_law_unsettled : ∃ fd, Fun K "_law_unsettled" "_law_unsettled" s_law_unsettled A.law_unsettled fd
  g_law_update : mg "_law_update" = some (.ref A.law_update)
  k_law_update : PySem.W.keepIn K (.ref A.law_update) = true
  d_law_update : ∃ fd, Fun K "_law_update" "_law_update" s_law_update A.law_update fd
  g_law_answer : mg "_law_answer" = some (.ref A.law_answer)
  k_law_answer : PySem.W.keepIn K (.ref A.law_answer) = true
  d_law_answer : ∃ fd, Fun K "_law_answer" "_law_answer" s_law_answer A.law_answer fd
  g_law_made : mg "_law_made" = some (.ref A.law_made)
  k_law_made : PySem.W.keepIn K (.ref A.law_made) = true
  d_law_made : ∃ fd, Fun K "_law_made" "_law_made" s_law_made A.law_made fd
  g_law_rows : mg "_law_rows" = some (.ref A.law_rows)
  k_law_rows : PySem.W.keepIn K (.ref A.law_rows) = true
  d_law_rows : ∃ fd, Fun K "_law_rows" "_law_rows" s_law_rows A.law_rows fd
  g_law_one : mg "_law_one" = some (.ref A.law_one)
  k_law_one : PySem.W.keepIn K (.ref A.law_one) = true
  d_law_one : ∃ fd, Fun K "_law_one" "_law_one" s_law_one A.law_one fd
  g_law_sum : mg "_law_sum" = some (.ref A.law_sum)
  k_law_sum : PySem.W.keepIn K (.ref A.law_sum) = true
  d_law_sum : ∃ fd, Fun K "_law_sum" "_law_sum" s_law_sum A.law_sum fd
  g_law_sum_of_all : mg "_law_sum_of_all" = some (.ref A.law_sum_of_all)
  k_law_sum_of_all : PySem.W.keepIn K (.ref A.law_sum_of_all) = true
  d_law_sum_of_all : ∃ fd, Fun K "_law_sum_of_all" "_law_sum_of_all" s_law_sum_of_all A.law_sum_of_all fd
  g_law_joint : mg "_law_joint" = some (.ref A.law_joint)
  k_law_joint : PySem.W.keepIn K (.ref A.law_joint) = true
  d_law_joint : ∃ fd, Fun K "_law_joint" "_law_joint" s_law_joint A.law_joint fd
  g_law_plus_kept : mg "_law_plus_kept" = some (.ref A.law_plus_kept)
  k_law_plus_kept : PySem.W.keepIn K (.ref A.law_plus_kept) = true
  d_law_plus_kept : ∃ fd, Fun K "_law_plus_kept" "_law_plus_kept" s_law_plus_kept A.law_plus_kept fd
  g_law_joint_kept : mg "_law_joint_kept" = some (.ref A.law_joint_kept)
  k_law_joint_kept : PySem.W.keepIn K (.ref A.law_joint_kept) = true
  d_law_joint_kept : ∃ fd, Fun K "_law_joint_kept" "_law_joint_kept" s_law_joint_kept A.law_joint_kept fd
  g_law_equal_kept : mg "_law_equal_kept" = some (.ref A.law_equal_kept)
  k_law_equal_kept : PySem.W.keepIn K (.ref A.law_equal_kept) = true
  d_law_equal_kept : ∃ fd, Fun K "_law_equal_kept" "_law_equal_kept" s_law_equal_kept A.law_equal_kept fd
  g_law_rest_kept : mg "_law_rest_kept" = some (.ref A.law_rest_kept)
  k_law_rest_kept : PySem.W.keepIn K (.ref A.law_rest_kept) = true
  d_law_rest_kept : ∃ fd, Fun K "_law_rest_kept" "_law_rest_kept" s_law_rest_kept A.law_rest_kept fd
  g_law : mg "law" = some (.ref A.law)
  k_law : PySem.W.keepIn K (.ref A.law) = true
  d_law : ∃ fd, Fun K "law" "law" s_law A.law fd
  e_MendError : ErrM K mg A.MendError
  e_InvalidImage : ErrK K mg A.MendError A.InvalidImage "InvalidImage"
  e_NotState : ErrK K mg A.MendError A.NotState "NotState"
  e_Busy : ErrK K mg A.MendError A.Busy "Busy"
  e_UnequalSizes : ErrK K mg A.MendError A.UnequalSizes "UnequalSizes"
  q_UnequalSizes : PySem.W.excIn K A.UnequalSizes [.type "ValueError", .type "Exception", .type "BaseException", .type "object"] "ValueError.__new__" = true
  e_InvalidUpdate : ErrK K mg A.MendError A.InvalidUpdate "InvalidUpdate"
  q_InvalidUpdate : PySem.W.excIn K A.InvalidUpdate [.type "ValueError", .type "Exception", .type "BaseException", .type "object"] "ValueError.__new__" = true
  f_InvalidImage : ErrF K A.InvalidImage A.i_InvalidImage "InvalidImage.__init__" "record" s_InvalidImage
  f_NotState : ErrF K A.NotState A.i_NotState "NotState.__init__" "record" s_NotState
  f_Busy : ErrF K A.Busy A.i_Busy "Busy.__init__" "record" s_Busy
  g_Update : mg "Update" = some (.ref A.Update)
  cR : Cls K A.Update
  mkR : Mk K A.Update A.m_init
  rd : ClX.CRead K A.Update (.type "type")
  cm : ClX.CMet K A.Update (.type "type") "rest" A.p_rest A.m_rest
  sm : SmX.SMet K A.Update (.type "type") "joint" A.p_joint A.m_joint
  o_neg : PySem.W.findIn K (.ref A.Update) "__neg__" = some (some (.ref A.m_neg)) ∧ PySem.W.isFn K (.ref A.m_neg) = true
  o_add : PySem.W.findIn K (.ref A.Update) "__add__" = some (some (.ref A.m_add)) ∧ PySem.W.isFn K (.ref A.m_add) = true
  o_len : PySem.W.findIn K (.ref A.Update) "__len__" = some (some (.ref A.m_len)) ∧ PySem.W.isFn K (.ref A.m_len) = true
  o_in : PySem.W.findIn K (.ref A.Update) "__contains__" = some (some (.ref A.m_contains)) ∧ PySem.W.isFn K (.ref A.m_contains) = true
  o_eq : PySem.W.findIn K (.ref A.Update) "__eq__" = some (some (.ref A.m_eq)) ∧ PySem.W.isFn K (.ref A.m_eq) = true
  o_repr : PySem.W.findIn K (.ref A.Update) "__repr__" = some (some (.ref A.m_repr)) ∧ PySem.W.isFn K (.ref A.m_repr) = true
  o_nf : PySem.W.notFirst K A.Update (.ref A.Update) = true
  o_sf : PySem.W.selfFirst K A.Update = true
  pp_records : PropOf K A.Update "records" A.p_records A.m_records
  nc_before : NoAttr K A.Update "before"
  nc_after : NoAttr K A.Update "after"
  n_ValueError : mg "ValueError" = none
  n_int : mg "int" = none
  n_bool : mg "bool" = none
  n_str : mg "str" = none
  n_list : mg "list" = none
  n_tuple : mg "tuple" = none
  n_len : mg "len" = none
  n_range : mg "range" = none
  n_enumerate : mg "enumerate" = none
  n_isinstance : mg "isinstance" = none
  n_min : mg "min" = none
  n_abs : mg "abs" = none
  n_sorted : mg "sorted" = none
  n_all : mg "all" = none
  n_any : mg "any" = none
  n_sum : mg "sum" = none
  n_zip : mg "zip" = none
  n_reversed : mg "reversed" = none
  n_max : mg "max" = none
  n_set : mg "set" = none
  n_repr : mg "repr" = none
  cc : PySem.W.findIn K (.ref A.Update) "__class__" = some (some (.builtin "object.__class__"))
  co : PySem.W.mroIn K A.Update (.type "object") = some true
  cn : PySem.W.specialIn K (.builtin "object.__class__") "__get__" = some (some (.builtin "getset_descriptor.__get__"))
  ct : PySem.W.takesIn K (.builtin "object.__class__") = some true
  nd : [A.MendError, A.InvalidImage, A.NotState, A.Busy, A.UnequalSizes, A.InvalidUpdate].Nodup
end Pv

namespace Pv
open PySem L2
/-- all but what stands at b is as it was -/
def Mut (b : Addr) (H H' : Hp) : Prop := ∀ a o, a ≠ b → H a = some o → H' a = some o
theorem Mut.refl (b : Addr) (H : Hp) : Mut b H H := fun _ _ _ e => e
theorem Mut.trans {b : Addr} {H H1 H2 : Hp} (x : Mut b H H1) (y : Mut b H1 H2) : Mut b H H2 := fun a o n e => y a o n (x a o n e)
theorem Mut.upd {b : Addr} {H H1 : Hp} {o : HO} (x : Mut b H H1) : Mut b H (L2.upd H1 b o) := fun a u n e => by
  rw [upd_ne n]
  exact x a u n e
theorem Mut.new {b p : Addr} {H H1 : Hp} {o : HO} (x : Mut b H H1) (hp : H1 p = none) : Mut b H (L2.upd H1 p o) := fun a u n e => by
  have e1 := x a u n e
  rw [upd_ne (ne_of_none e1 hp)]
  exact e1
theorem Mut.free {b p : Addr} {H H1 : Hp} (x : Mut b H H1) (h : p ≠ b) (hp : H1 p = none) : H p = none := by
  cases e : H p with
  | none => rfl
  | some o =>
    rw [x p o h e] at hp
    cases hp
/-- the bag of the draws -/
def bagL (g f s : Int) : List V := [.int g, .int f, .int s]
structure BagOk (g f s : Int) : Prop where
  g0 : 0 ≤ g
  f0 : 0 ≤ f
  f1 : f < 2147483647
  s0 : 0 ≤ s
  s1 : s < 2147483647
def Bag (H : Hp) (b : Addr) : Prop := ∃ g f s : Int, H b = some (.lst (bagL g f s)) ∧ BagOk g f s
def spBag (K : PySem.W.Frag) : Sp := fun vs H Q _ => ∃ (a : Addr) (ns : List Int), vs = [.ref a] ∧ SqL K H a (ns.map V.int) ∧ ∀ b g f s, H b = none → BagOk g f s → Q (.ref b) (upd H b (.lst (bagL g f s)))
def spTake : Sp := fun vs H Q _ => ∃ (b : Addr) (n : Int), vs = [.ref b, .int n] ∧ 0 < n ∧ n < 1152921504606846976 ∧ Bag H b ∧ ∀ d H', 0 ≤ d → d < n → Bag H' b → Mut b H H' → Q (.int d) H'
/-- ints from 0 to below n -/
def Below (n : Int) (xs : List Int) : Prop := ∀ x ∈ xs, 0 ≤ x ∧ x < n
def ListI (H : Hp) (p : Addr) (xs : List Int) : Prop := H p = some (.lst (xs.map V.int))
def spOrder : Sp := fun vs H Q _ => ∃ (b : Addr) (n : Nat), vs = [.ref b, .int (n : Int)] ∧ n ≤ 64 ∧ Bag H b ∧ ∀ p xs H', H p = none → p ≠ b → xs.length = n → Below n xs → ListI H' p xs → Bag H' b → Mut b H H' → Q (.ref p) H'
def spSize : Sp := fun vs H Q _ => ∃ b : Addr, vs = [.ref b] ∧ Bag H b ∧ ∀ (d : Int) H', 0 ≤ d → d ≤ 64 → Bag H' b → Mut b H H' → Q (.int d) H'
def spEntry : Sp := fun vs H Q _ => ∃ (b : Addr) (n : Nat), vs = [.ref b, .int (n : Int)] ∧ 0 < n ∧ n ≤ 64 ∧ Bag H b ∧ ∀ (d : Int) H', Bag H' b → Mut b H H' → Q (.int d) H'
def spDrawn : Sp := fun vs H Q _ => ∃ (b : Addr) (n : Nat), vs = [.ref b, .int (n : Int)] ∧ n ≤ 64 ∧ Bag H b ∧ ∀ p xs H', H p = none → p ≠ b → xs.length = n → ListI H' p xs → Bag H' b → Mut b H H' → Q (.ref p) H'
theorem Bag.ne {H : Hp} {b p : Addr} (B : Bag H b) (h : H p = none) : p ≠ b := fun e => by
  obtain ⟨g, f, s, hb, _⟩ := B
  rw [e, hb] at h
  cases h
theorem Bag.keep {H H' : Hp} {b : Addr} (B : Bag H b) (h : ∀ o, H b = some o → H' b = some o) : Bag H' b := by
  obtain ⟨g, f, s, hb, ok⟩ := B
  exact ⟨g, f, s, h _ hb, ok⟩
theorem map_erase {α β : Type} (f : α → β) : ∀ (l : List α) (i : Nat), (l.map f).eraseIdx i = (l.eraseIdx i).map f
  | [], _ => rfl
  | _ :: _, 0 => rfl
  | a :: l, i + 1 => by
    show f a :: (l.map f).eraseIdx i = f a :: (l.eraseIdx i).map f
    rw [map_erase f l i]
theorem rgV_map (n : Nat) : rgV 0 (n : Int) = ((List.range n).map fun i : Nat => (i : Int)).map V.int := by
  unfold rgV
  have e : ((n : Int) - 0).toNat = n := by omega
  rw [e, List.map_map]
  refine List.map_congr_left fun i _ => ?_
  show V.int (0 + (i : Int)) = V.int (i : Int)
  rw [Int.zero_add]
theorem below_rg (n : Nat) : Below (n : Int) ((List.range n).map fun i : Nat => (i : Int)) := fun x hx => by
  obtain ⟨i, hi, rfl⟩ := List.mem_map.mp hx
  have := List.mem_range.mp hi
  omega
theorem ListI.sz {K : PySem.W.Frag} {H : Hp} {p : Addr} {xs : List Int} (h : ListI H p xs) : SqL K H p (xs.map V.int) := SqL.of h
theorem ix_map {xs : List Int} {j : Nat} (h : j < xs.length) : (xs.map V.int)[j]? = some (V.int xs[j]) := by
  rw [List.getElem?_map, List.getElem?_eq_getElem h]
  rfl
theorem at_map {xs : List Int} {j : Nat} (h : j < xs.length) : atI (xs.map V.int) (j : Int) = some (V.int xs[j]) := atI_nat (ix_map h)
theorem set_map {xs : List Int} {j : Nat} {v : Int} : (xs.map V.int).set j (V.int v) = (xs.set j v).map V.int := List.map_set.symm
theorem ite_b {b : Bool} {X Y : Prop} (h1 : b = true → X) (h2 : b = false → Y) : if b = true then X else Y := by
  cases b with
  | true => exact h1 rfl
  | false => exact h2 rfl
theorem int_at {ns : List Int} {i : Nat} {y : V} (h : (ns.map V.int)[i]? = some y) : ∃ z, ns[i]? = some z ∧ y = V.int z := by
  rw [List.getElem?_map] at h
  cases e : ns[i]? with
  | none =>
    rw [e] at h
    cases h
  | some z =>
    rw [e] at h
    exact ⟨z, rfl, (Option.some.inj h).symm⟩
end Pv

/-! states, walks along two states in turn, chains and rings -/
namespace Pv
open Pm
def gt (A : List Nat) (x : Nat) : Nat := A.getD x 0
/-- a state -/
structure Sta (A : List Nat) : Prop where
  lt : ∀ x, x < A.length → gt A x < A.length
  inv : ∀ x, x < A.length → gt A (gt A x) = x
def sel (A B : List Nat) (j : Nat) : List Nat := if j % 2 = 0 then A else B
theorem sel_len {A B : List Nat} (h : A.length = B.length) (j : Nat) : (sel A B j).length = A.length := by
  unfold sel
  split
  · rfl
  · exact h.symm
theorem sel_sta {A B : List Nat} (a : Sta A) (b : Sta B) (j : Nat) : Sta (sel A B j) := by
  unfold sel
  split
  · exact a
  · exact b
theorem sel_two {A B : List Nat} {i j : Nat} (h : i % 2 = j % 2) : sel A B i = sel A B j := by
  unfold sel
  rw [h]
/-- a walk that has not ended: from s along A and B in turn -/
structure Ptl (A B : List Nat) (s : Nat) (w : List Nat) : Prop where
  pos : 0 < w.length
  st : gt w 0 = s
  nd : w.Nodup
  lt : ∀ x ∈ w, x < A.length
  go : ∀ j, j + 1 < w.length → gt (sel A B j) (gt w j) = gt w (j + 1)
/-- a walk that has ended -/
structure Trl (A B : List Nat) (s : Nat) (w : List Nat) : Prop extends Ptl A B s w where
  fin : gt (sel A B (w.length - 1)) (gt w (w.length - 1)) = gt w (w.length - 1) ∨ gt (sel A B (w.length - 1)) (gt w (w.length - 1)) = s
theorem gt_mem {w : List Nat} {j : Nat} (h : j < w.length) : gt w j ∈ w := getD_mem h
theorem gt_inj {w : List Nat} (nd : w.Nodup) {i j : Nat} (hi : i < w.length) (hj : j < w.length) (h : gt w i = gt w j) : i = j := by
  unfold gt at h
  rw [List.getD_eq_getElem?_getD, List.getElem?_eq_getElem hi, List.getD_eq_getElem?_getD, List.getElem?_eq_getElem hj] at h
  exact (List.getElem_inj nd).mp h
theorem gt_append {w : List Nat} {y j : Nat} : gt (w ++ [y]) j = if j < w.length then gt w j else if j = w.length then y else 0 := by
  unfold gt
  rw [List.getD_eq_getElem?_getD, List.getElem?_append]
  split
  · rw [List.getD_eq_getElem?_getD]
  · rename_i c
    split
    · rename_i c2
      rw [c2, Nat.sub_self]
      rfl
    · rw [List.getElem?_eq_none (by simp; omega)]
      rfl
theorem nodup_len {w : List Nat} {n : Nat} (nd : w.Nodup) (lt : ∀ x ∈ w, x < n) : w.length ≤ n := by
  have hp : w.Perm ((List.range n).filter fun y => decide (y ∈ w)) := (List.perm_ext_iff_of_nodup nd (List.nodup_range.sublist List.filter_sublist)).mpr fun x => by
    rw [List.mem_filter, List.mem_range, decide_eq_true_eq]
    exact ⟨fun h => ⟨lt x h, h⟩, fun h => h.2⟩
  rw [hp.length_eq]
  exact Nat.le_trans (List.length_filter_le _ _) (by rw [List.length_range]; exact Nat.le_refl _)
/-- one step more -/
theorem Ptl.more {A B w : List Nat} {s : Nat} (h : A.length = B.length) (a : Sta A) (b : Sta B) (P : Ptl A B s w) (n1 : gt (sel A B (w.length - 1)) (gt w (w.length - 1)) ≠ gt w (w.length - 1)) (n2 : gt (sel A B (w.length - 1)) (gt w (w.length - 1)) ≠ s) :
    Ptl A B s (w ++ [gt (sel A B (w.length - 1)) (gt w (w.length - 1))]) := by
  have p := P.pos
  have hl := sel_len (A := A) (B := B) h
  have last := P.lt _ (gt_mem (show w.length - 1 < w.length by omega))
  have hy : gt (sel A B (w.length - 1)) (gt w (w.length - 1)) < A.length := by
    have := (sel_sta a b (w.length - 1)).lt _ (by rw [hl]; exact last)
    rw [hl] at this
    exact this
  refine ⟨by rw [List.length_append]; omega, ?_, ?_, fun x hx => ?_, fun j hj => ?_⟩
  · rw [gt_append, if_pos p]
    exact P.st
  · rw [List.nodup_append]
    refine ⟨P.nd, by simp, fun x hx y hy e => ?_⟩
    rw [List.mem_singleton.mp hy] at e
    obtain ⟨i, hi, hx⟩ := mem_getD hx
    have hx : gt w i = x := hx
    rw [← hx] at e
    by_cases c0 : i = 0
    · rw [c0, P.st] at e
      exact n2 e.symm
    · by_cases cl : i = w.length - 1
      · rw [cl] at e
        exact n1 e.symm
      · have hin := P.lt _ (gt_mem hi)
        have back : gt (sel A B (w.length - 1)) (gt w i) = gt w (w.length - 1) := by
          rw [e]
          exact (sel_sta a b _).inv _ (by rw [hl]; exact last)
        by_cases cp : (w.length - 1) % 2 = i % 2
        · rw [sel_two cp, P.go i (by omega)] at back
          have := gt_inj P.nd (by omega) (by omega) back
          omega
        · have e2 : gt (sel A B (i - 1)) (gt w i) = gt w (i - 1) := by
            have g := P.go (i - 1) (by omega)
            rw [show i - 1 + 1 = i by omega] at g
            rw [← g]
            exact (sel_sta a b _).inv _ (by rw [hl]; exact P.lt _ (gt_mem (by omega)))
          rw [sel_two (show (w.length - 1) % 2 = (i - 1) % 2 by omega), e2] at back
          have := gt_inj P.nd (by omega) (by omega) back
          omega
  · rcases List.mem_append.mp hx with hx | hx
    · exact P.lt x hx
    · rw [List.mem_singleton.mp hx]
      exact hy
  · rw [List.length_append, List.length_singleton] at hj
    rw [gt_append, if_pos (by omega), gt_append]
    by_cases c : j + 1 < w.length
    · rw [if_pos c]
      exact P.go j c
    · rw [if_neg c, if_pos (by omega), show w.length - 1 = j by omega]
theorem Ptl.ends {A B : List Nat} {s : Nat} (h : A.length = B.length) (a : Sta A) (b : Sta B) : ∀ (m : Nat) (w : List Nat), Ptl A B s w → A.length - w.length = m → ∃ w', Trl A B s w' := by
  intro m
  induction m with
  | zero =>
    intro w P hm
    by_cases c : gt (sel A B (w.length - 1)) (gt w (w.length - 1)) = gt w (w.length - 1) ∨ gt (sel A B (w.length - 1)) (gt w (w.length - 1)) = s
    · exact ⟨w, P, c⟩
    · have Q := P.more h a b (fun z => c (.inl z)) (fun z => c (.inr z))
      have := nodup_len Q.nd Q.lt
      rw [List.length_append, List.length_singleton] at this
      omega
  | succ m ih =>
    intro w P hm
    by_cases c : gt (sel A B (w.length - 1)) (gt w (w.length - 1)) = gt w (w.length - 1) ∨ gt (sel A B (w.length - 1)) (gt w (w.length - 1)) = s
    · exact ⟨w, P, c⟩
    · have Q := P.more h a b (fun z => c (.inl z)) (fun z => c (.inr z))
      exact ih _ Q (by rw [List.length_append, List.length_singleton]; omega)
theorem trl_ex {A B : List Nat} {s : Nat} (h : A.length = B.length) (a : Sta A) (b : Sta B) (hs : s < A.length) : ∃ w, Trl A B s w :=
  Ptl.ends h a b _ [s] ⟨Nat.succ_pos 0, rfl, by simp, fun x hx => by rw [List.mem_singleton.mp hx]; exact hs, fun j hj => absurd hj (by simp)⟩ rfl
theorem Trl.at_ {A B w w' : List Nat} {s : Nat} (T : Trl A B s w) (T' : Trl A B s w') : ∀ j, j < w.length → j < w'.length → gt w j = gt w' j
  | 0, _, _ => T.st.trans T'.st.symm
  | j + 1, h, h' => by rw [← T.go j h, ← T'.go j h', T.at_ T' j (by omega) (by omega)]
theorem Trl.le {A B w w' : List Nat} {s : Nat} (T : Trl A B s w) (T' : Trl A B s w') : w'.length ≤ w.length := by
  apply Nat.le_of_not_lt
  intro c
  have p := T.pos
  have e := T.at_ T' (w.length - 1) (by omega) (by omega)
  have g := T'.go (w.length - 1) (by omega)
  have f := T.fin
  rw [e, g] at f
  rcases f with f | f
  · have := gt_inj T'.nd (by omega) (by omega) f
    omega
  · rw [← T'.st] at f
    have := gt_inj T'.nd (by omega) (by omega) f
    omega
theorem ext_gt {w w' : List Nat} (hl : w.length = w'.length) (h : ∀ j, j < w.length → gt w j = gt w' j) : w = w' := by
  refine List.ext_getElem hl fun j h1 h2 => ?_
  have := h j h1
  unfold gt at this
  rw [List.getD_eq_getElem?_getD, List.getElem?_eq_getElem h1, List.getD_eq_getElem?_getD, List.getElem?_eq_getElem h2] at this
  exact this
theorem Trl.uniq {A B w w' : List Nat} {s : Nat} (T : Trl A B s w) (T' : Trl A B s w') : w = w' := by
  have hl := Nat.le_antisymm (T'.le T) (T.le T')
  exact ext_gt hl fun j hj => T.at_ T' j hj (by omega)
open Classical in
/-- the walk -/
noncomputable def walkF (A B : List Nat) (s : Nat) : List Nat := if h : ∃ w, Trl A B s w then Classical.choose h else []
theorem walkF_ok {A B : List Nat} {s : Nat} (h : ∃ w, Trl A B s w) : Trl A B s (walkF A B s) := by
  unfold walkF
  rw [dif_pos h]
  exact Classical.choose_spec h
theorem walkF_eq {A B w : List Nat} {s : Nat} (T : Trl A B s w) : walkF A B s = w := (walkF_ok ⟨w, T⟩).uniq T
/-- the part that holds x: a ring or not, its records -/
noncomputable def partF (A B : List Nat) (x : Nat) : Bool × List Nat :=
  if gt B x ∈ (walkF A B x).tail then (true, walkF A B x)
  else (false, if gt ((walkF B A x).tail.reverse ++ walkF A B x) 0 > gt ((walkF B A x).tail.reverse ++ walkF A B x) (((walkF B A x).tail.reverse ++ walkF A B x).length - 1) then ((walkF B A x).tail.reverse ++ walkF A B x).reverse else (walkF B A x).tail.reverse ++ walkF A B x)
noncomputable def partsF (A B : List Nat) : Nat → List (Bool × List Nat)
  | 0 => []
  | i + 1 => if gt A i ≠ gt B i ∧ i ∉ (partsF A B i).flatMap (·.2) then partsF A B i ++ [partF A B i] else partsF A B i
end Pv

/-! pieces laid out: free, pair, chain, ring -/
namespace Pv
open Pm
/-- a word, the records, which sort of link comes first -/
abbrev Pc := Nat × List Nat × Nat
/-- whom the k-th record shows in the row r -/
def nb (r w n s k : Nat) : Nat :=
  if w = 0 then k
  else if w = 1 then 1 - k
  else if (s + k) % 2 = r then (if k + 1 < n then k + 1 else if w = 3 then 0 else k)
  else (if 0 < k then k - 1 else if w = 3 then n - 1 else k)
structure PcOk (p : Pc) : Prop where
  w : p.1 < 4
  s : p.2.2 < 2
  nd : p.2.1.Nodup
  l0 : p.1 = 0 → p.2.1.length = 1
  l1 : p.1 = 1 → p.2.1.length = 2
  l2 : p.1 = 2 → 2 ≤ p.2.1.length
  l3 : p.1 = 3 → 4 ≤ p.2.1.length ∧ p.2.1.length % 2 = 0
def PcAt (A : List Nat) (r : Nat) (p : Pc) : Prop := ∀ k, k < p.2.1.length → gt A (gt p.2.1 k) = gt p.2.1 (nb r p.1 p.2.1.length p.2.2 k)
theorem PcOk.pos {p : Pc} (h : PcOk p) : 0 < p.2.1.length := by
  have h0 := h.l0
  have h1 := h.l1
  have h2 := h.l2
  have h3 := h.l3
  have hw := h.w
  omega
theorem nb_lt {p : Pc} (h : PcOk p) {r k : Nat} (hk : k < p.2.1.length) : nb r p.1 p.2.1.length p.2.2 k < p.2.1.length := by
  have h0 := h.l0
  have h1 := h.l1
  have h2 := h.l2
  have h3 := h.l3
  unfold nb
  split
  · exact hk
  · split
    · omega
    · split
      · split
        · omega
        · split <;> omega
      · split
        · omega
        · split <;> omega
theorem gt_drop {l : List Nat} {q j : Nat} : gt (l.drop q) j = gt l (q + j) := by
  unfold gt
  rw [List.getD_eq_getElem?_getD, List.getElem?_drop, List.getD_eq_getElem?_getD]
theorem gt_take {l : List Nat} {q j : Nat} (h : j < q) : gt (l.take q) j = gt l j := by
  unfold gt
  rw [List.getD_eq_getElem?_getD, List.getElem?_take_of_lt h, List.getD_eq_getElem?_getD]
theorem gt_app {l m : List Nat} {j : Nat} : gt (l ++ m) j = if j < l.length then gt l j else gt m (j - l.length) := by
  unfold gt
  rw [List.getD_eq_getElem?_getD, List.getElem?_append]
  split
  · rw [List.getD_eq_getElem?_getD]
  · rw [List.getD_eq_getElem?_getD]
theorem gt_rev {l : List Nat} {j : Nat} (h : j < l.length) : gt l.reverse j = gt l (l.length - 1 - j) := by
  unfold gt
  rw [List.getD_eq_getElem?_getD, List.getElem?_reverse h, List.getD_eq_getElem?_getD]
/-- a walk told by places -/
theorem trl_of {A B : List Nat} {p : Pc} {r q m : Nat} {ix : Nat → Nat} {W : List Nat} (ok : PcOk p) (hr : r < 2) (a : PcAt A r p) (b : PcAt B (1 - r) p) (lt : ∀ x ∈ p.2.1, x < A.length) (hm : 0 < m) (hl : W.length = m) (h0 : ix 0 = q)
    (hi : ∀ j, j < m → ix j < p.2.1.length) (inj : ∀ i j, i < m → j < m → ix i = ix j → i = j) (hW : ∀ j, j < m → gt W j = gt p.2.1 (ix j)) (go : ∀ j, j + 1 < m → nb ((r + j) % 2) p.1 p.2.1.length p.2.2 (ix j) = ix (j + 1))
    (fin : nb ((r + (m - 1)) % 2) p.1 p.2.1.length p.2.2 (ix (m - 1)) = ix (m - 1) ∨ nb ((r + (m - 1)) % 2) p.1 p.2.1.length p.2.2 (ix (m - 1)) = q) : Trl A B (gt p.2.1 q) W := by
  have row : ∀ j k, k < p.2.1.length → gt (sel A B j) (gt p.2.1 k) = gt p.2.1 (nb ((r + j) % 2) p.1 p.2.1.length p.2.2 k) := fun j k hk => by
    unfold sel
    by_cases c : j % 2 = 0
    · rw [if_pos c, show (r + j) % 2 = r by omega]
      exact a k hk
    · rw [if_neg c, show (r + j) % 2 = 1 - r by omega]
      exact b k hk
  refine ⟨⟨by omega, by rw [hW 0 hm, h0], ?_, fun x hx => ?_, fun j hj => ?_⟩, ?_⟩
  · rw [List.nodup_iff_pairwise_ne, List.pairwise_iff_getElem]
    intro i j hi' hj' hij e
    have ei : W[i] = gt W i := by
      unfold gt
      rw [List.getD_eq_getElem?_getD, List.getElem?_eq_getElem hi']
      rfl
    have ej : W[j] = gt W j := by
      unfold gt
      rw [List.getD_eq_getElem?_getD, List.getElem?_eq_getElem hj']
      rfl
    rw [ei, ej, hW i (by omega), hW j (by omega)] at e
    have := inj i j (by omega) (by omega) (gt_inj ok.nd (hi i (by omega)) (hi j (by omega)) e)
    omega
  · obtain ⟨j, hj, hx⟩ := mem_getD hx
    have hx : gt W j = x := hx
    rw [← hx, hW j (by omega)]
    exact lt _ (gt_mem (hi j (by omega)))
  · rw [hl] at hj
    rw [hW j (by omega), row j _ (hi j (by omega)), go j hj, hW (j + 1) hj]
  · rw [hl, hW (m - 1) (by omega), row _ _ (hi _ (by omega))]
    rcases fin with f | f
    · left
      rw [f]
    · right
      rw [f]
section
variable {A B : List Nat} {p : Pc} {r q : Nat}
theorem trl_up2 (ok : PcOk p) (hw : p.1 = 2) (hr : r < 2) (a : PcAt A r p) (b : PcAt B (1 - r) p) (lt : ∀ x ∈ p.2.1, x < A.length) (hq : q < p.2.1.length) (par : (p.2.2 + q) % 2 = r) : Trl A B (gt p.2.1 q) (p.2.1.drop q) := by
  refine trl_of (m := p.2.1.length - q) (ix := fun j => q + j) ok hr a b lt (by omega) (by rw [List.length_drop]) rfl (fun j hj => by show q + j < _; omega) (fun i j _ _ e => by have e : q + i = q + j := e; omega) (fun j _ => gt_drop) (fun j hj => ?_) (.inl ?_)
  · show nb _ _ _ _ (q + j) = q + (j + 1)
    unfold nb
    rw [if_neg (by omega), if_neg (by omega), if_pos (by omega), if_pos (by omega)]
    rfl
  · show nb _ _ _ _ (q + (p.2.1.length - q - 1)) = q + (p.2.1.length - q - 1)
    unfold nb
    rw [if_neg (by omega), if_neg (by omega), if_pos (by omega), if_neg (by omega), if_neg (by omega)]
theorem trl_dn2 (ok : PcOk p) (hw : p.1 = 2) (hr : r < 2) (a : PcAt A r p) (b : PcAt B (1 - r) p) (lt : ∀ x ∈ p.2.1, x < A.length) (hq : q < p.2.1.length) (par : (p.2.2 + q) % 2 ≠ r) : Trl A B (gt p.2.1 q) (p.2.1.take (q + 1)).reverse := by
  have tl : (p.2.1.take (q + 1)).length = q + 1 := by rw [List.length_take]; omega
  refine trl_of (m := q + 1) (ix := fun j => q - j) ok hr a b lt (by omega) (by rw [List.length_reverse, tl]) rfl (fun j hj => by show q - j < _; omega) (fun i j _ _ e => by have e : q - i = q - j := e; omega) (fun j hj => ?_) (fun j hj => ?_) (.inl ?_)
  · rw [gt_rev (by omega), tl, gt_take (by omega)]
    congr 1
  · show nb _ _ _ _ (q - j) = q - (j + 1)
    unfold nb
    rw [if_neg (by omega), if_neg (by omega), if_neg (by omega), if_pos (by omega)]
    omega
  · show nb _ _ _ _ (q - (q + 1 - 1)) = q - (q + 1 - 1)
    unfold nb
    rw [if_neg (by omega), if_neg (by omega), if_neg (by omega), if_neg (by omega), if_neg (by omega)]
theorem trl_up3 (ok : PcOk p) (hw : p.1 = 3) (hr : r < 2) (a : PcAt A r p) (b : PcAt B (1 - r) p) (lt : ∀ x ∈ p.2.1, x < A.length) (hq : q < p.2.1.length) (par : (p.2.2 + q) % 2 = r) : Trl A B (gt p.2.1 q) (p.2.1.drop q ++ p.2.1.take q) := by
  obtain ⟨n4, n2⟩ := ok.l3 hw
  have tl : (p.2.1.take q).length = q := by rw [List.length_take]; omega
  refine trl_of (m := p.2.1.length) (ix := fun j => if q + j < p.2.1.length then q + j else q + j - p.2.1.length) ok hr a b lt (by omega) (by rw [List.length_append, List.length_drop, tl]; omega) (by show (if q + 0 < _ then q + 0 else _) = q; rw [if_pos (by omega)]; rfl) (fun j hj => ?_) (fun i j hi hj e => ?_) (fun j hj => ?_) (fun j hj => ?_) (.inr ?_)
  · show (if q + j < p.2.1.length then q + j else q + j - p.2.1.length) < _
    split <;> omega
  · have e : (if q + i < p.2.1.length then q + i else q + i - p.2.1.length) = (if q + j < p.2.1.length then q + j else q + j - p.2.1.length) := e
    split at e <;> split at e <;> omega
  · show _ = gt p.2.1 (if q + j < p.2.1.length then q + j else q + j - p.2.1.length)
    rw [gt_app, List.length_drop]
    by_cases c : q + j < p.2.1.length
    · rw [if_pos (by omega), if_pos c, gt_drop]
    · rw [if_neg (by omega), if_neg c, gt_take (by omega)]
      congr 1
      omega
  · show nb _ _ _ _ (if q + j < p.2.1.length then q + j else q + j - p.2.1.length) = (if q + (j + 1) < p.2.1.length then q + (j + 1) else q + (j + 1) - p.2.1.length)
    unfold nb
    rw [if_neg (by omega), if_neg (by omega)]
    by_cases c : q + j < p.2.1.length
    · rw [if_pos c, if_pos (by omega)]
      by_cases c2 : q + j + 1 < p.2.1.length
      · rw [if_pos c2, if_pos (by omega)]
        omega
      · rw [if_neg c2, if_pos hw, if_neg (by omega)]
        omega
    · rw [if_neg c, if_pos (by omega), if_pos (by omega), if_neg (by omega)]
      omega
  · show nb _ _ _ _ (if q + (p.2.1.length - 1) < p.2.1.length then q + (p.2.1.length - 1) else q + (p.2.1.length - 1) - p.2.1.length) = q
    unfold nb
    rw [if_neg (by omega), if_neg (by omega)]
    by_cases c : q + (p.2.1.length - 1) < p.2.1.length
    · rw [if_pos c, if_pos (by omega), if_neg (by omega), if_pos hw]
      omega
    · rw [if_neg c, if_pos (by omega), if_pos (by omega)]
      omega
theorem trl_dn3 (ok : PcOk p) (hw : p.1 = 3) (hr : r < 2) (a : PcAt A r p) (b : PcAt B (1 - r) p) (lt : ∀ x ∈ p.2.1, x < A.length) (hq : q < p.2.1.length) (par : (p.2.2 + q) % 2 ≠ r) : Trl A B (gt p.2.1 q) ((p.2.1.take (q + 1)).reverse ++ (p.2.1.drop (q + 1)).reverse) := by
  obtain ⟨n4, n2⟩ := ok.l3 hw
  have tl : (p.2.1.take (q + 1)).length = q + 1 := by rw [List.length_take]; omega
  have dl : (p.2.1.drop (q + 1)).length = p.2.1.length - (q + 1) := by rw [List.length_drop]
  refine trl_of (m := p.2.1.length) (ix := fun j => if j ≤ q then q - j else q + p.2.1.length - j) ok hr a b lt (by omega) (by rw [List.length_append, List.length_reverse, List.length_reverse, tl, dl]; omega) (by show (if 0 ≤ q then q - 0 else _) = q; rw [if_pos (by omega)]; rfl) (fun j hj => ?_) (fun i j hi hj e => ?_) (fun j hj => ?_) (fun j hj => ?_) (.inr ?_)
  · show (if j ≤ q then q - j else q + p.2.1.length - j) < _
    split <;> omega
  · have e : (if i ≤ q then q - i else q + p.2.1.length - i) = (if j ≤ q then q - j else q + p.2.1.length - j) := e
    split at e <;> split at e <;> omega
  · show _ = gt p.2.1 (if j ≤ q then q - j else q + p.2.1.length - j)
    rw [gt_app, List.length_reverse, tl]
    by_cases c : j ≤ q
    · rw [if_pos (by omega), if_pos c, gt_rev (by omega), tl, gt_take (by omega)]
      congr 1
    · rw [if_neg (by omega), if_neg c, gt_rev (by omega), dl, gt_drop]
      congr 1
      omega
  · show nb _ _ _ _ (if j ≤ q then q - j else q + p.2.1.length - j) = (if j + 1 ≤ q then q - (j + 1) else q + p.2.1.length - (j + 1))
    unfold nb
    rw [if_neg (by omega), if_neg (by omega)]
    by_cases c : j ≤ q
    · rw [if_pos c, if_neg (by omega)]
      by_cases c2 : j = q
      · rw [if_neg (by omega), if_pos hw, if_neg (by omega)]
        omega
      · rw [if_pos (by omega), if_pos (by omega)]
        omega
    · rw [if_neg c, if_neg (by omega), if_pos (by omega), if_neg (by omega)]
      omega
  · show nb _ _ _ _ (if p.2.1.length - 1 ≤ q then q - (p.2.1.length - 1) else q + p.2.1.length - (p.2.1.length - 1)) = q
    unfold nb
    rw [if_neg (by omega), if_neg (by omega)]
    by_cases c : p.2.1.length - 1 ≤ q
    · rw [if_pos c, if_neg (by omega), if_neg (by omega), if_pos hw]
      omega
    · rw [if_neg c, if_neg (by omega), if_pos (by omega)]
      omega
end
end Pv

/-! the parts of pieces laid out -/
namespace Pv
open Pm
/-- how a chain or a ring is written -/
def canonP (A : List Nat) (p : Pc) : List Nat :=
  if p.1 = 2 then (if gt p.2.1 (p.2.1.length - 1) < gt p.2.1 0 then p.2.1.reverse else p.2.1)
  else if gt A (gt (p.2.1.drop (p.2.1.idxOf (mn p.2.1)) ++ p.2.1.take (p.2.1.idxOf (mn p.2.1))) 0) ≠ gt (p.2.1.drop (p.2.1.idxOf (mn p.2.1)) ++ p.2.1.take (p.2.1.idxOf (mn p.2.1))) 1
    then (p.2.1.drop (p.2.1.idxOf (mn p.2.1)) ++ p.2.1.take (p.2.1.idxOf (mn p.2.1))).take 1 ++ (p.2.1.drop (p.2.1.idxOf (mn p.2.1)) ++ p.2.1.take (p.2.1.idxOf (mn p.2.1))).tail.reverse
    else p.2.1.drop (p.2.1.idxOf (mn p.2.1)) ++ p.2.1.take (p.2.1.idxOf (mn p.2.1))
theorem take_succ' {l : List Nat} {q : Nat} (h : q < l.length) : l.take (q + 1) = l.take q ++ [gt l q] := by
  unfold gt
  rw [List.take_add_one, List.getElem?_eq_getElem h, List.getD_eq_getElem?_getD, List.getElem?_eq_getElem h]
  rfl
theorem drop_cons' {l : List Nat} {q : Nat} (h : q < l.length) : l.drop q = gt l q :: l.drop (q + 1) := by
  unfold gt
  rw [List.drop_eq_getElem_cons h, List.getD_eq_getElem?_getD, List.getElem?_eq_getElem h]
  rfl
theorem rev_take {l : List Nat} {q : Nat} (h : q < l.length) : (l.take (q + 1)).reverse = gt l q :: (l.take q).reverse := by
  rw [take_succ' h, List.reverse_append]
  rfl
section
variable {A B : List Nat} {p : Pc} {r q : Nat}
theorem gt_lt' (l : List Nat) {x : Nat} : (¬ gt l 0 > gt l (l.length - 1)) = ¬ gt l (l.length - 1) < gt l 0 := rfl
theorem idx_gt {l : List Nat} {x : Nat} (h : x ∈ l) : l.idxOf x < l.length ∧ gt l (l.idxOf x) = x := by
  have hl := List.idxOf_lt_length_of_mem h
  refine ⟨hl, ?_⟩
  unfold gt
  rw [List.getD_eq_getElem?_getD, List.getElem?_eq_getElem hl]
  exact List.getElem_idxOf hl
/-- a chain from its lesser end: the same from both ends -/
def lessE (l : List Nat) : List Nat := if gt l 0 > gt l (l.length - 1) then l.reverse else l
theorem lessE_rev {l : List Nat} (nd : l.Nodup) (h2 : 2 ≤ l.length) : lessE l.reverse = lessE l := by
  have hl : l.reverse.length = l.length := List.length_reverse
  unfold lessE
  rw [hl, gt_rev (by omega), gt_rev (by omega), show l.length - 1 - 0 = l.length - 1 by omega, show l.length - 1 - (l.length - 1) = 0 by omega, List.reverse_reverse]
  have ne : gt l 0 ≠ gt l (l.length - 1) := fun e => by
    have := gt_inj nd (by omega) (by omega) e
    omega
  by_cases c : gt l (l.length - 1) > gt l 0
  · rw [if_pos c, if_neg (by omega)]
  · rw [if_neg c, if_pos (by omega)]
theorem part_chain (ok : PcOk p) (hw : p.1 = 2) (hr : r < 2) (a : PcAt A r p) (b : PcAt B (1 - r) p) (hl : A.length = B.length) (lt : ∀ x ∈ p.2.1, x < A.length) (hq : q < p.2.1.length) : partF A B (gt p.2.1 q) = (false, lessE p.2.1) := by
  have n2 := ok.l2 hw
  have b' : PcAt A (1 - (1 - r)) p := by rw [show 1 - (1 - r) = r by omega]; exact a
  have lt' : ∀ x ∈ p.2.1, x < B.length := fun x hx => by rw [← hl]; exact lt x hx
  have other : gt B (gt p.2.1 q) = gt p.2.1 (nb (1 - r) p.1 p.2.1.length p.2.2 q) := b q hq
  have pars := ok.s
  by_cases c : (p.2.2 + q) % 2 = r
  · have w1 := walkF_eq (trl_up2 ok hw hr a b lt hq c)
    have w2 := walkF_eq (trl_dn2 ok hw (by omega) b b' lt' hq (by omega))
    have no : gt B (gt p.2.1 q) ∉ (p.2.1.drop q).tail := by
      rw [List.tail_drop, other]
      intro h
      obtain ⟨j, hj, e⟩ := mem_getD h
      rw [List.length_drop] at hj
      have e : gt (p.2.1.drop (q + 1)) j = _ := e
      rw [gt_drop] at e
      have e := gt_inj ok.nd (by omega) (nb_lt ok hq) e
      unfold nb at e
      rw [if_neg (by omega), if_neg (by omega), if_neg (by omega)] at e
      split at e
      · omega
      · rw [if_neg (by omega)] at e
        omega
    have row : (p.2.1.take (q + 1)).reverse.tail.reverse ++ p.2.1.drop q = p.2.1 := by
      rw [rev_take hq]
      show (p.2.1.take q).reverse.reverse ++ _ = _
      rw [List.reverse_reverse, List.take_append_drop]
    unfold partF
    rw [w1, w2, if_neg no, row]
    rfl
  · have w1 := walkF_eq (trl_dn2 ok hw hr a b lt hq c)
    have w2 := walkF_eq (trl_up2 ok hw (by omega) b b' lt' hq (by omega))
    have no : gt B (gt p.2.1 q) ∉ (p.2.1.take (q + 1)).reverse.tail := by
      rw [rev_take hq, other]
      show _ ∉ (p.2.1.take q).reverse
      rw [List.mem_reverse]
      intro h
      obtain ⟨j, hj, e⟩ := mem_getD h
      rw [List.length_take] at hj
      have e : gt (p.2.1.take q) j = _ := e
      rw [gt_take (by omega)] at e
      have e := gt_inj ok.nd (by omega) (nb_lt ok hq) e
      unfold nb at e
      rw [if_neg (by omega), if_neg (by omega), if_pos (by omega)] at e
      split at e
      · omega
      · rw [if_neg (by omega)] at e
        omega
    have row : (p.2.1.drop q).tail.reverse ++ (p.2.1.take (q + 1)).reverse = p.2.1.reverse := by
      rw [List.tail_drop, ← List.reverse_append, List.take_append_drop]
    unfold partF
    rw [w1, w2, if_neg no, row]
    exact congrArg (Prod.mk false) (lessE_rev ok.nd n2)
theorem part_ring (ok : PcOk p) (hw : p.1 = 3) (hr : r < 2) (a : PcAt A r p) (b : PcAt B (1 - r) p) (hl : A.length = B.length) (lt : ∀ x ∈ p.2.1, x < A.length) : partF A B (mn p.2.1) = (true, canonP A p) := by
  obtain ⟨n4, n2⟩ := ok.l3 hw
  have hm : mn p.2.1 ∈ p.2.1 := mn_mem (fun z => by rw [z] at n4; simp at n4)
  obtain ⟨hq, eq⟩ := idx_gt hm
  have pars := ok.s
  unfold canonP
  rw [if_neg (by omega)]
  generalize p.2.1.idxOf (mn p.2.1) = q at hq eq ⊢
  rw [← eq]
  have other : gt B (gt p.2.1 q) = gt p.2.1 (nb (1 - r) p.1 p.2.1.length p.2.2 q) := b q hq
  have mine : gt A (gt p.2.1 q) = gt p.2.1 (nb r p.1 p.2.1.length p.2.2 q) := a q hq
  have tl : (p.2.1.take q).length = q := by rw [List.length_take]; omega
  have f0 : gt (p.2.1.drop q ++ p.2.1.take q) 0 = gt p.2.1 q := by
    rw [gt_app, List.length_drop, if_pos (by omega), gt_drop]
    rfl
  have f1 : gt (p.2.1.drop q ++ p.2.1.take q) 1 = gt p.2.1 (if q + 1 < p.2.1.length then q + 1 else 0) := by
    rw [gt_app, List.length_drop]
    by_cases c : q + 1 < p.2.1.length
    · rw [if_pos (by omega), if_pos c, gt_drop]
    · rw [if_neg (by omega), if_neg c, gt_take (by omega)]
      congr 1
      omega
  have mem_at : ∀ k, k < p.2.1.length → k ≠ q → gt p.2.1 k ∈ p.2.1.drop (q + 1) ++ p.2.1.take q := fun k hk hn => by
    rw [List.mem_append]
    by_cases c : k < q
    · right
      have : gt (p.2.1.take q) k = gt p.2.1 k := gt_take c
      rw [← this]
      exact gt_mem (by omega)
    · left
      have : gt (p.2.1.drop (q + 1)) (k - (q + 1)) = gt p.2.1 k := by
        rw [gt_drop]
        congr 1
        omega
      rw [← this]
      exact gt_mem (by rw [List.length_drop]; omega)
  have nbne : ∀ r', nb r' p.1 p.2.1.length p.2.2 q ≠ q := fun r' => by
    unfold nb
    rw [if_neg (by omega), if_neg (by omega)]
    split
    · split
      · omega
      · omega
    · split
      · omega
      · omega
  by_cases c : (p.2.2 + q) % 2 = r
  · have w1 := walkF_eq (trl_up3 ok hw hr a b lt hq c)
    have e1 : gt A (gt p.2.1 q) = gt p.2.1 (if q + 1 < p.2.1.length then q + 1 else 0) := by
      rw [mine]
      unfold nb
      rw [if_neg (by omega), if_neg (by omega), if_pos c]
      split <;> rfl
    rw [f0, f1, if_neg (fun h => h e1)]
    unfold partF
    rw [w1, if_pos]
    rw [drop_cons' hq]
    show _ ∈ p.2.1.drop (q + 1) ++ p.2.1.take q
    rw [other]
    exact mem_at _ (nb_lt ok hq) (nbne _)
  · have w1 := walkF_eq (trl_dn3 ok hw hr a b lt hq c)
    have e1 : gt A (gt p.2.1 q) ≠ gt p.2.1 (if q + 1 < p.2.1.length then q + 1 else 0) := by
      rw [mine]
      intro e
      have e := gt_inj ok.nd (nb_lt ok hq) (by split <;> omega) e
      unfold nb at e
      rw [if_neg (by omega), if_neg (by omega), if_neg c] at e
      split at e
      · split at e <;> omega
      · split at e <;> omega
    rw [f0, f1, if_pos e1]
    unfold partF
    rw [w1, rev_take hq, if_pos]
    · rw [drop_cons' hq]
      show _ = (true, [gt p.2.1 q] ++ (p.2.1.drop (q + 1) ++ p.2.1.take q).reverse)
      rw [List.reverse_append]
      rfl
    · show _ ∈ (p.2.1.take q).reverse ++ (p.2.1.drop (q + 1)).reverse
      rw [← List.reverse_append, List.mem_reverse, other]
      exact mem_at _ (nb_lt ok hq) (nbne _)
end
end Pv

/-! the parts of two states put together of pieces; gains and entries -/
namespace Pv
open Pm
theorem uniqF {α : Type} {f : α → List Nat} : ∀ {ps : List α} {p q : α} {x : Nat}, (ps.flatMap f).Nodup → p ∈ ps → q ∈ ps → x ∈ f p → x ∈ f q → p = q
  | [], p, q, x, _, hp, _, _, _ => by cases hp
  | a :: ps, p, q, x, nd, hp, hq, xp, xq => by
    rw [List.flatMap_cons, List.nodup_append] at nd
    rcases List.mem_cons.mp hp with e1 | m1
    · rcases List.mem_cons.mp hq with e2 | m2
      · rw [e1, e2]
      · rw [e1] at xp
        exact absurd rfl (nd.2.2 x xp x (List.mem_flatMap.mpr ⟨q, m2, xq⟩))
    · rcases List.mem_cons.mp hq with e2 | m2
      · rw [e2] at xq
        exact absurd rfl (nd.2.2 x xq x (List.mem_flatMap.mpr ⟨p, m1, xp⟩))
      · exact uniqF nd.2.1 m1 m2 xp xq
theorem nb_cr {r w n s k : Nat} (h : 1 < w) : nb r w n s k = if (s + k) % 2 = r then (if k + 1 < n then k + 1 else if w = 3 then 0 else k) else (if 0 < k then k - 1 else if w = 3 then n - 1 else k) := by
  unfold nb
  rw [if_neg (by omega), if_neg (by omega)]
structure Bl (A B : List Nat) (f : Nat) (ps : List Pc) (n : Nat) : Prop where
  la : A.length = n
  lb : B.length = n
  hf : f < 2
  perm : (ps.flatMap (·.2.1)).Perm (List.range n)
  ok : ∀ p ∈ ps, PcOk p
  at_ : ∀ p ∈ ps, PcAt A f p ∧ PcAt B (1 - f) p
theorem Bl.swap {A B : List Nat} {f n : Nat} {ps : List Pc} (b : Bl A B f ps n) : Bl B A (1 - f) ps n :=
  ⟨b.lb, b.la, by omega, b.perm, b.ok, fun p hp => ⟨(b.at_ p hp).2, by rw [show 1 - (1 - f) = f by have := b.hf; omega]; exact (b.at_ p hp).1⟩⟩
def isCR (p : Pc) : Bool := decide (1 < p.1)
def atJ (ps : List Pc) (x : Nat) : Option Pc := ps.find? fun p => isCR p && decide (mn p.2.1 = x)
def psJ (ps : List Pc) (j : Nat) : List Pc := (List.range j).filterMap (atJ ps)
theorem psJ_step {ps : List Pc} {j : Nat} : psJ ps (j + 1) = psJ ps j ++ (match atJ ps j with | none => [] | some b => [b]) := by
  unfold psJ
  rw [List.range_succ, List.filterMap_append]
  congr 1
  rw [List.filterMap_cons, List.filterMap_nil]
  cases atJ ps j <;> rfl
def outP (A : List Nat) (p : Pc) : Bool × List Nat := (decide (p.1 = 3), canonP A p)
theorem canonP_perm {A : List Nat} {p : Pc} : (canonP A p).Perm p.2.1 := by
  have ring : (p.2.1.drop (p.2.1.idxOf (mn p.2.1)) ++ p.2.1.take (p.2.1.idxOf (mn p.2.1))).Perm p.2.1 := by
    refine List.perm_append_comm.trans ?_
    rw [List.take_append_drop]
  unfold canonP
  split
  · split
    · exact List.reverse_perm _
    · exact .refl _
  · split
    · refine List.Perm.trans ?_ ring
      generalize p.2.1.drop (p.2.1.idxOf (mn p.2.1)) ++ p.2.1.take (p.2.1.idxOf (mn p.2.1)) = l
      cases l with
      | nil => exact .refl _
      | cons a l => exact (List.reverse_perm l).cons a
    · exact ring
section
variable {A B : List Nat} {f n : Nat} {ps : List Pc}
theorem Bl.nd (b : Bl A B f ps n) : (ps.flatMap (·.2.1)).Nodup := b.perm.nodup_iff.mpr List.nodup_range
theorem Bl.lt (b : Bl A B f ps n) {p : Pc} (hp : p ∈ ps) : ∀ x ∈ p.2.1, x < n := fun x hx => List.mem_range.mp (b.perm.mem_iff.mp (List.mem_flatMap.mpr ⟨p, hp, hx⟩))
theorem Bl.own (b : Bl A B f ps n) {x : Nat} (hx : x < n) : ∃ p ∈ ps, x ∈ p.2.1 := List.mem_flatMap.mp (b.perm.mem_iff.mpr (List.mem_range.mpr hx))
theorem Bl.uq (b : Bl A B f ps n) {p q : Pc} {x : Nat} (hp : p ∈ ps) (hq : q ∈ ps) (h1 : x ∈ p.2.1) (h2 : x ∈ q.2.1) : p = q := uniqF b.nd hp hq h1 h2
theorem mn_in {p : Pc} (ok : PcOk p) : mn p.2.1 ∈ p.2.1 := mn_mem (fun z => by have := ok.pos; rw [z] at this; simp at this)
theorem atJ_some {x : Nat} {p : Pc} (h : atJ ps x = some p) : p ∈ ps ∧ 1 < p.1 ∧ mn p.2.1 = x := by
  unfold atJ at h
  have h1 := List.mem_of_find?_eq_some h
  have h2 := List.find?_some h
  rw [Bool.and_eq_true] at h2
  exact ⟨h1, of_decide_eq_true h2.1, of_decide_eq_true h2.2⟩
theorem Bl.atJ_is (b : Bl A B f ps n) {p : Pc} (hp : p ∈ ps) (h1 : 1 < p.1) : atJ ps (mn p.2.1) = some p := by
  cases h : atJ ps (mn p.2.1) with
  | none =>
    unfold atJ at h
    have := List.find?_eq_none.mp h p hp
    rw [show isCR p = true from decide_eq_true h1, decide_eq_true rfl] at this
    exact absurd rfl this
  | some q =>
    obtain ⟨hq, h2, h3⟩ := atJ_some h
    have e : q = p := b.uq hq hp (h3 ▸ mn_in (b.ok q hq)) (mn_in (b.ok p hp))
    rw [e]
theorem Bl.parts (b : Bl A B f ps n) : ∀ i, i ≤ n → partsF A B i = (psJ ps i).map (outP A)
  | 0, _ => rfl
  | i + 1, h => by
    have ih := b.parts i (by omega)
    have hi : i < n := h
    obtain ⟨p, hp, hx⟩ := b.own hi
    have ok := b.ok p hp
    obtain ⟨aA, aB⟩ := b.at_ p hp
    obtain ⟨q, hq, eq⟩ := mem_getD hx
    have eq : gt p.2.1 q = i := eq
    have hw4 := ok.w
    have hs := ok.s
    have hf := b.hf
    have seen : i ∈ (partsF A B i).flatMap (·.2) ↔ 1 < p.1 ∧ mn p.2.1 < i := by
      rw [ih, List.mem_flatMap]
      constructor
      · rintro ⟨c, hc, hic⟩
        obtain ⟨p', hp', rfl⟩ := List.mem_map.mp hc
        obtain ⟨x, hxr, hxs⟩ := List.mem_filterMap.mp hp'
        obtain ⟨m1, m2, m3⟩ := atJ_some hxs
        have hic : i ∈ p'.2.1 := canonP_perm.mem_iff.mp hic
        have := b.uq m1 hp hic hx
        subst this
        rw [m3]
        exact ⟨m2, List.mem_range.mp hxr⟩
      · rintro ⟨h1, h2⟩
        exact ⟨outP A p, List.mem_map.mpr ⟨p, List.mem_filterMap.mpr ⟨_, List.mem_range.mpr h2, b.atJ_is hp h1⟩, rfl⟩, canonP_perm.mem_iff.mpr hx⟩
    show (if gt A i ≠ gt B i ∧ i ∉ (partsF A B i).flatMap (·.2) then partsF A B i ++ [partF A B i] else partsF A B i) = _
    have eA : gt A i = gt p.2.1 (nb f p.1 p.2.1.length p.2.2 q) := by rw [← eq]; exact aA q hq
    have eB : gt B i = gt p.2.1 (nb (1 - f) p.1 p.2.1.length p.2.2 q) := by rw [← eq]; exact aB q hq
    rw [psJ_step]
    by_cases c1 : 1 < p.1
    · have differ : gt A i ≠ gt B i := by
        rw [eA, eB]
        intro e
        have e := gt_inj ok.nd (nb_lt ok hq) (nb_lt ok hq) e
        have l2 := ok.l2
        have l3 := ok.l3
        have np : nb f p.1 p.2.1.length p.2.2 q ≠ nb (1 - f) p.1 p.2.1.length p.2.2 q := by
          rw [nb_cr c1, nb_cr c1]
          by_cases par : (p.2.2 + q) % 2 = f
          · have p2 : ¬ (p.2.2 + q) % 2 = 1 - f := by omega
            rw [if_pos par, if_neg p2]
            by_cases c3 : p.1 = 3
            · obtain ⟨n4, n2⟩ := l3 c3
              rw [if_pos c3, if_pos c3]
              by_cases d1 : q + 1 < p.2.1.length
              · rw [if_pos d1]
                split <;> omega
              · rw [if_neg d1, if_pos (show 0 < q by omega)]
                omega
            · have := l2 (by omega)
              rw [if_neg c3, if_neg c3]
              by_cases d1 : q + 1 < p.2.1.length
              · rw [if_pos d1]
                split <;> omega
              · rw [if_neg d1, if_pos (show 0 < q by omega)]
                omega
          · have p2 : (p.2.2 + q) % 2 = 1 - f := by omega
            rw [if_neg par, if_pos p2]
            by_cases c3 : p.1 = 3
            · obtain ⟨n4, n2⟩ := l3 c3
              rw [if_pos c3, if_pos c3]
              by_cases d1 : q + 1 < p.2.1.length
              · rw [if_pos d1]
                split <;> omega
              · rw [if_neg d1, if_pos (show 0 < q by omega)]
                omega
            · have := l2 (by omega)
              rw [if_neg c3, if_neg c3]
              by_cases d1 : q + 1 < p.2.1.length
              · rw [if_pos d1]
                split <;> omega
              · rw [if_neg d1, if_pos (show 0 < q by omega)]
                omega
        exact np e
      by_cases cm : mn p.2.1 = i
      · have at_i : atJ ps i = some p := by rw [← cm]; exact b.atJ_is hp c1
        rw [at_i, if_pos ⟨differ, fun h => by have := (seen.mp h).2; omega⟩, ih, List.map_append]
        congr 1
        show [partF A B i] = [outP A p]
        congr 1
        have lA : ∀ x ∈ p.2.1, x < A.length := fun x hx => by rw [b.la]; exact b.lt hp x hx
        by_cases c3 : p.1 = 3
        · rw [← cm, part_ring ok c3 hf aA aB (b.la.trans b.lb.symm) lA]
          unfold outP
          rw [decide_eq_true c3]
        · rw [← eq, part_chain ok (by omega) hf aA aB (b.la.trans b.lb.symm) lA hq]
          unfold outP canonP
          rw [decide_eq_false c3, if_pos (by omega)]
          rfl
      · have lt_i : mn p.2.1 < i := by
          have := mn_le hx
          omega
        have at_i : atJ ps i = none := by
          cases h : atJ ps i with
          | none => rfl
          | some p' =>
            obtain ⟨m1, m2, m3⟩ := atJ_some h
            have := b.uq m1 hp (m3 ▸ mn_in (b.ok p' m1)) hx
            subst this
            exact absurd m3 cm
        rw [at_i, if_neg (fun h => h.2 (seen.mpr ⟨c1, lt_i⟩)), ih, List.append_nil]
    · have same : gt A i = gt B i := by
        rw [eA, eB]
        unfold nb
        by_cases c0 : p.1 = 0
        · rw [if_pos c0, if_pos c0]
        · rw [if_neg c0, if_neg c0, if_pos (by omega), if_pos (by omega)]
      have at_i : atJ ps i = none := by
        cases h : atJ ps i with
        | none => rfl
        | some p' =>
          obtain ⟨m1, m2, m3⟩ := atJ_some h
          have := b.uq m1 hp (m3 ▸ mn_in (b.ok p' m1)) hx
          subst this
          exact absurd m2 c1
      rw [at_i, if_neg (fun h => h.1 same), ih, List.append_nil]
theorem Bl.psJ_perm (b : Bl A B f ps n) : (psJ ps n).Perm (ps.filter isCR) := by
  have nd1 : (psJ ps n).Nodup := by
    have srt : (psJ ps n).Pairwise fun p q => mn p.2.1 < mn q.2.1 := by
      unfold psJ
      rw [List.pairwise_filterMap]
      refine List.Pairwise.imp ?_ List.pairwise_lt_range
      intro x y hxy p hp q hq
      have h1 := (atJ_some hp).2.2
      have h2 := (atJ_some hq).2.2
      omega
    exact srt.imp fun {p q} h z => by rw [z] at h; exact Nat.lt_irrefl _ h
  have nd2 : ps.Nodup := by
    have g : ∀ qs : List Pc, (qs.flatMap (·.2.1)).Nodup → (∀ p ∈ qs, PcOk p) → qs.Nodup := fun qs => by
      induction qs with
      | nil => exact fun _ _ => List.nodup_nil
      | cons a qs ih =>
        intro nd ok
        rw [List.flatMap_cons, List.nodup_append] at nd
        refine List.nodup_cons.mpr ⟨fun h => ?_, ih nd.2.1 fun p hp => ok p (List.mem_cons_of_mem _ hp)⟩
        have m := mn_in (ok a (List.mem_cons_self ..))
        exact nd.2.2 _ m _ (List.mem_flatMap.mpr ⟨a, h, m⟩) rfl
    exact g ps b.nd b.ok
  refine (List.perm_ext_iff_of_nodup nd1 (nd2.sublist List.filter_sublist)).mpr fun p => ?_
  rw [List.mem_filter]
  constructor
  · intro h
    obtain ⟨x, _, hx⟩ := List.mem_filterMap.mp h
    obtain ⟨m1, m2, _⟩ := atJ_some hx
    exact ⟨m1, decide_eq_true m2⟩
  · rintro ⟨h1, h2⟩
    exact List.mem_filterMap.mpr ⟨mn p.2.1, List.mem_range.mpr (b.lt h1 _ (mn_in (b.ok p h1))), b.atJ_is h1 (of_decide_eq_true h2)⟩
end
/-! gains -/
def cntA (A l : List Nat) : Nat := (l.filter fun x => decide (gt A x ≠ x)).length
def gainF (A B l : List Nat) : Int := ((cntA B l : Int) - (cntA A l : Int)) / 2
def cntF (r w n s : Nat) : Nat := ((List.range n).filter fun k => decide (nb r w n s k ≠ k)).length
theorem gain_tab : ((List.range 65).all fun n => (List.range 2).all fun s => (List.range 2).all fun f => decide (n < 2) || (((cntF (1 - f) 2 n s : Int) - (cntF f 2 n s : Int)) / 2 == if n % 2 = 1 then 0 else if s = f then -1 else 1)) = true := by decide +kernel
theorem line_map {l : List Nat} : l = (List.range l.length).map (gt l) := by
  refine List.ext_getElem (by simp) fun j h1 h2 => ?_
  rw [List.getElem_map, List.getElem_range]
  unfold gt
  rw [List.getD_eq_getElem?_getD, List.getElem?_eq_getElem h1]
  rfl
theorem cnt_line {A : List Nat} {p : Pc} {r : Nat} (ok : PcOk p) (a : PcAt A r p) : cntA A p.2.1 = cntF r p.1 p.2.1.length p.2.2 := by
  unfold cntA cntF
  conv => lhs; rw [line_map (l := p.2.1)]
  rw [List.filter_map, List.length_map]
  congr 1
  refine List.filter_congr fun k hk => ?_
  have hk := List.mem_range.mp hk
  show decide (gt A (gt p.2.1 k) ≠ gt p.2.1 k) = _
  rw [a k hk]
  rw [Bool.eq_iff_iff, decide_eq_true_eq, decide_eq_true_eq]
  constructor
  · intro h e
    rw [e] at h
    exact h rfl
  · intro h e
    exact h (gt_inj ok.nd (nb_lt ok hk) hk e)
def dueG (f : Nat) (p : Pc) : Int := if p.1 = 3 then 0 else if p.2.1.length % 2 = 1 then 0 else if p.2.2 = f then -1 else 1
theorem cnt_perm {A l m : List Nat} (h : l.Perm m) : cntA A l = cntA A m := (h.filter _).length_eq
theorem gain_is {A B : List Nat} {p : Pc} {f : Nat} (ok : PcOk p) (hf : f < 2) (h1 : 1 < p.1) (h64 : p.2.1.length ≤ 64) (a : PcAt A f p) (b : PcAt B (1 - f) p) {l : List Nat} (hl : l.Perm p.2.1) : gainF A B l = dueG f p := by
  unfold gainF dueG
  rw [cnt_perm hl, cnt_perm hl, cnt_line ok a, cnt_line ok b]
  have hw := ok.w
  by_cases c3 : p.1 = 3
  · obtain ⟨n4, n2⟩ := ok.l3 c3
    rw [if_pos c3]
    have all : ∀ r, cntF r p.1 p.2.1.length p.2.2 = p.2.1.length := fun r => by
      unfold cntF
      rw [List.filter_eq_self.mpr, List.length_range]
      intro k hk
      have hk := List.mem_range.mp hk
      refine decide_eq_true ?_
      unfold nb
      rw [if_neg (by omega), if_neg (by omega)]
      split <;> split <;> omega
    rw [all, all, Int.sub_self]
    rfl
  · have n2 := ok.l2 (by omega)
    have hs := ok.s
    rw [if_neg c3, show p.1 = 2 by omega]
    have t := gain_tab
    rw [List.all_eq_true] at t
    have t := t p.2.1.length (List.mem_range.mpr (by omega))
    rw [List.all_eq_true] at t
    have t := t p.2.2 (List.mem_range.mpr hs)
    rw [List.all_eq_true] at t
    have t := t f (List.mem_range.mpr hf)
    rw [decide_eq_false (by omega), Bool.false_or] at t
    exact beq_iff_eq.mp t
/-! entries -/
abbrev Ent := Nat × Int × Int
def entO (A B : List Nat) (c : Bool × List Nat) : Ent := (if c.1 then 1 else 0, (c.2.length : Int), gainF A B c.2)
noncomputable def entsF (A B : List Nat) (n : Nat) : List Ent := (partsF A B n).map (entO A B)
def entD (f : Nat) (p : Pc) : Ent := (if p.1 = 3 then 1 else 0, (p.2.1.length : Int), dueG f p)
def entsD (f : Nat) (ps : List Pc) : List Ent := (ps.filter isCR).map (entD f)
theorem Bl.ents {A B : List Nat} {f n : Nat} {ps : List Pc} (b : Bl A B f ps n) (h64 : n ≤ 64) : (entsF A B n).Perm (entsD f ps) := by
  unfold entsF entsD
  rw [b.parts n (Nat.le_refl _), List.map_map]
  have e : (psJ ps n).map (entO A B ∘ outP A) = (psJ ps n).map (entD f) := by
    refine List.map_congr_left fun p hp => ?_
    obtain ⟨x, _, hx⟩ := List.mem_filterMap.mp hp
    obtain ⟨m1, m2, _⟩ := atJ_some hx
    have len : p.2.1.length ≤ 64 := Nat.le_trans (nodup_len (b.ok p m1).nd (b.lt m1)) h64
    obtain ⟨aA, aB⟩ := b.at_ p m1
    show entO A B (outP A p) = entD f p
    unfold entO entD outP
    show ((if decide (p.1 = 3) = true then 1 else 0 : Nat), ((canonP A p).length : Int), gainF A B (canonP A p)) = _
    rw [gain_is (b.ok p m1) b.hf m2 len aA aB canonP_perm, canonP_perm.length_eq]
    by_cases c3 : p.1 = 3
    · rw [decide_eq_true c3, if_pos rfl, if_pos c3]
    · rw [decide_eq_false c3, if_neg c3]
      rfl
  rw [e]
  exact b.psJ_perm.map _
end Pv

namespace Pv
open PySem L2 Evl Pm
def nI (xs : List Nat) : List V := xs.map fun x : Nat => V.int (x : Int)
def ListN (H : Hp) (p : Addr) (xs : List Nat) : Prop := H p = some (.lst (nI xs))
theorem nI_len (xs : List Nat) : (nI xs).length = xs.length := List.length_map ..
theorem ListN.sz {K : PySem.W.Frag} {H : Hp} {p : Addr} {xs : List Nat} (h : ListN H p xs) : SqL K H p (nI xs) := SqL.of h
theorem ListN.ex {H H1 : Hp} {a : Addr} {xs : List Nat} (e : Ex H H1) (h : ListN H a xs) : ListN H1 a xs := e a _ h
theorem nat_at {ns : List Nat} {i : Nat} {y : V} (h : (nI ns)[i]? = some y) : i < ns.length ∧ y = V.int ((ns.getD i 0 : Nat) : Int) := by
  unfold nI at h
  rw [List.getElem?_map] at h
  cases e : ns[i]? with
  | none =>
    rw [e] at h
    cases h
  | some z =>
    rw [e] at h
    refine ⟨(List.getElem?_eq_some_iff.mp e).1, ?_⟩
    rw [List.getD_eq_getElem?_getD, e]
    exact (Option.some.inj h).symm
theorem ixN_ {xs : List Nat} {j : Nat} (h : j < xs.length) : (nI xs)[j]? = some (V.int ((xs.getD j 0 : Nat) : Int)) := by
  unfold nI
  rw [List.getElem?_map, List.getD_eq_getElem?_getD, List.getElem?_eq_getElem h]
  rfl
theorem atN {xs : List Nat} {j : Nat} (h : j < xs.length) : atI (nI xs) (j : Int) = some (V.int ((xs.getD j 0 : Nat) : Int)) := atI_nat (ixN_ h)
theorem ex_new {H H1 : Hp} {p : Addr} {o : HO} (e : Ex H H1) (h : H1 p = none) : Ex H (upd H1 p o) := e.trans (Ex.new h)
theorem nI_app {xs : List Nat} {v : Nat} : nI (xs ++ [v]) = nI xs ++ [V.int (v : Int)] := by
  unfold nI
  rw [List.map_append]
  rfl
theorem acc_step {G H' : Hp} {D : Addr} {ls : List Nat} {v : Nat} (hD : G D = none) (e : Ex G H') : Ex G (upd H' D (.lst (nI ls ++ [V.int (v : Int)]))) ∧ ListN (upd H' D (.lst (nI ls ++ [V.int (v : Int)]))) D (ls ++ [v]) := by
  refine ⟨fun b o hb => ?_, ?_⟩
  · rw [upd_ne (ne_of_none hb hD)]
    exact e b o hb
  · show upd H' D _ D = _
    rw [upd_same, nI_app]
theorem take_map_succ {xs : List Nat} {j : Nat} (h : j < xs.length) (f : Nat → Nat) : (xs.take (j + 1)).map f = (xs.take j).map f ++ [f (xs.getD j 0)] := by
  rw [List.take_add_one, List.getElem?_eq_getElem h, List.map_append, List.getD_eq_getElem?_getD, List.getElem?_eq_getElem h]
  rfl
theorem take_succ {xs : List Nat} {j : Nat} (h : j < xs.length) : xs.take (j + 1) = xs.take j ++ [xs.getD j 0] := by
  rw [List.take_add_one, List.getElem?_eq_getElem h, List.getD_eq_getElem?_getD, List.getElem?_eq_getElem h]
  rfl
theorem take_filter_pos {xs : List Nat} {j : Nat} (h : j < xs.length) {q : Nat → Bool} (c : q (xs.getD j 0) = true) : (xs.take (j + 1)).filter q = (xs.take j).filter q ++ [xs.getD j 0] := by
  rw [take_succ h, List.filter_append, List.filter_cons, if_pos c]
  rfl
theorem take_filter_neg {xs : List Nat} {j : Nat} (h : j < xs.length) {q : Nat → Bool} (c : q (xs.getD j 0) = false) : (xs.take (j + 1)).filter q = (xs.take j).filter q := by
  rw [take_succ h, List.filter_append, List.filter_cons, if_neg (by rw [c]; decide)]
  exact List.append_nil _
theorem flat_nI : ∀ xs : List Nat, (nI xs).all flatV = true
  | [] => rfl
  | _ :: xs => flat_nI xs
theorem inV_nI {x : Nat} : ∀ xs : List Nat, inV (V.int (x : Int)) (nI xs) = xs.contains x
  | [] => rfl
  | y :: xs => by
    show (eqV (V.int (y : Int)) (V.int (x : Int)) || inV (V.int (x : Int)) (nI xs)) = _
    rw [inV_nI xs, List.contains_cons]
    congr 1
    show ((y : Int) == (x : Int)) = (x == y)
    rw [Bool.eq_iff_iff, beq_iff_eq, beq_iff_eq]
    omega
theorem eqV_nat {x y : Nat} : eqV (V.int (x : Int)) (V.int (y : Int)) = true ↔ x = y := by
  show ((x : Int) == (y : Int)) = true ↔ _
  rw [beq_iff_eq]
  omega
/-! ### images of any integers -/
def ListI' (H : Hp) (p : Addr) (xs : List Int) : Prop := H p = some (.lst (xs.map V.int))
def badN (xs : List Int) (k : Nat) : Bool := decide (xs.getD k 0 < 0) || decide ((xs.length : Int) ≤ xs.getD k 0)
def firstOf (p : Nat → Bool) (n : Nat) : Option Nat := (List.range n).find? p
theorem firstOf_some {p : Nat → Bool} {n i : Nat} (hi : i < n) (hp : p i = true) (h : ∀ j, j < i → p j = false) : firstOf p n = some i := by
  unfold firstOf
  rw [List.find?_range_eq_some]
  exact ⟨hp, List.mem_range.mpr hi, fun j hj => by rw [h j hj]; rfl⟩
theorem firstOf_none {p : Nat → Bool} {n : Nat} (h : ∀ j, j < n → p j = false) : firstOf p n = none := by
  unfold firstOf
  rw [List.find?_range_eq_none]
  exact fun j hj => by rw [h j hj]; rfl
theorem firstOf_no {p : Nat → Bool} {n : Nat} (h : firstOf p n = none) : ∀ j, j < n → p j = false := by
  unfold firstOf at h
  rw [List.find?_range_eq_none] at h
  intro j hj
  have := h j hj
  simpa using this
theorem firstOf_is {p : Nat → Bool} {n i : Nat} (h : firstOf p n = some i) : i < n ∧ p i = true ∧ ∀ j, j < i → p j = false := by
  unfold firstOf at h
  rw [List.find?_range_eq_some] at h
  exact ⟨List.mem_range.mp h.2.1, h.1, fun j hj => by have := h.2.2 j hj; simpa using this⟩
/-- the first entry that is no record -/
def strayI (xs : List Int) : Option Nat := firstOf (badN xs) xs.length
def spInit (C : Addr) (f : Str) : Sp := fun vs H Q _ => ∃ (a : Addr) (v : V), vs = [.ref a, v] ∧ H a = some (exo a C none) ∧ ∀ dx, H dx = none → dx ≠ a → Q .non (upd (upd H dx (exd dx [(f, v)])) a (exo a C (some dx)))
theorem mkO_go {C : Addr} {f : Str} {v : V} {H1 : Hp} {Q : XK} (k : ∀ d H', Ex H1 H' → H' d = some (.xd [(f, v)]) → Q (.ref C) (some d) H') (e : Addr) (he : H1 e = none) :
    spInit C f (.ref e :: ([v] ++ [])) (upd H1 e (exo e C none)) (fun v H2 => v = .non ∧ ∃ (d : Addr) (fs : List (Str × V)), H2 e = some (exo e C (some d)) ∧ H2 d = some (exd d fs) ∧ H1 d = none ∧ Q (.ref C) (some d) (upd (L2.del H2 e) d (.xd fs))) (fun _ _ _ => False) := by
  refine ⟨e, v, rfl, upd_same, fun dx hdx ne => ⟨rfl, dx, _, upd_same, (by rw [upd_ne ne, upd_same]), ?_, k dx _ ?_ upd_same⟩⟩
  · rw [upd_ne ne] at hdx
    exact hdx
  · rw [upd_ne ne] at hdx
    intro b o hb
    have n1 : b ≠ dx := ne_of_none hb hdx
    have n2 : b ≠ e := ne_of_none hb he
    rw [upd_ne n1, del_ne n2, upd_ne n2, upd_ne n1, upd_ne n2]
    exact hb
theorem units65R {k : Nat} {A : Around} (r : Room k A) : A.units + 65 < cLine := by have := r.un; omega
theorem huH {k : Nat} {A : Around} (r : L2H.RoomH k A) : A.units + 1 < cLine := by have := r.un; omega
theorem units65H {k : Nat} {A : Around} (r : L2H.RoomH k A) : A.units + 65 < cLine := by have := r.un; omega
theorem rd_ex {H H' : Hp} {a : Addr} {u : HO} (e : Ex H H') (h : Rd H a u) : Rd H' a u := h.elim (fun z => .inl (e _ _ z)) fun ⟨o, z⟩ => .inr ⟨o, e _ _ z⟩
theorem sqL_ex {K : PySem.W.Frag} {H H' : Hp} {a : Addr} {xs : List V} (e : Ex H H') (h : SqL K H a xs) : SqL K H' a xs := h.elim (fun z => .inl (rd_ex e z)) .inr
theorem back_none {H H1 : Hp} {p : Addr} (e : Ex H H1) (h : H1 p = none) : H p = none := by
  cases q : H p with
  | none => rfl
  | some o =>
    rw [e p o q] at h
    cases h

/-! ### integers and records -/
def natI (xs : List Int) : List Nat := xs.map Int.toNat
theorem natI_len {xs : List Int} : (natI xs).length = xs.length := List.length_map ..
theorem natI_at {xs : List Int} (h : strayI xs = none) {k : Nat} (hk : k < xs.length) : xs.getD k 0 = (((natI xs).getD k 0 : Nat) : Int) ∧ (natI xs).getD k 0 < xs.length := by
  have q := firstOf_no h k hk
  unfold badN at q
  rw [Bool.or_eq_false_iff] at q
  have q1 := of_decide_eq_false q.1
  have q2 := of_decide_eq_false q.2
  have e : (natI xs).getD k 0 = (xs.getD k 0).toNat := by
    unfold natI
    rw [List.getD_eq_getElem?_getD, List.getElem?_map, List.getD_eq_getElem?_getD, List.getElem?_eq_getElem hk]
    rfl
  rw [e]
  omega
theorem natI_map {xs : List Int} (h : strayI xs = none) : nI (natI xs) = xs.map V.int := by
  unfold nI natI
  rw [List.map_map]
  refine List.ext_getElem (by rw [List.length_map, List.length_map]) fun k h1 h2 => ?_
  rw [List.length_map] at h1
  rw [List.getElem_map, List.getElem_map]
  have := (natI_at h h1).1
  have e : (natI xs).getD k 0 = (xs.getD k 0).toNat := by
    unfold natI
    rw [List.getD_eq_getElem?_getD, List.getElem?_map, List.getD_eq_getElem?_getD, List.getElem?_eq_getElem h1]
    rfl
  rw [e, List.getD_eq_getElem?_getD, List.getElem?_eq_getElem h1] at this
  exact congrArg V.int this.symm
def toI (ys : List Nat) : List Int := ys.map fun x : Nat => (x : Int)
theorem toI_len {ys : List Nat} : (toI ys).length = ys.length := List.length_map ..
theorem toI_v {ys : List Nat} : (toI ys).map V.int = nI ys := by
  unfold toI nI
  rw [List.map_map]
  rfl
theorem toI_nat {ys : List Nat} : natI (toI ys) = ys := by
  unfold natI toI
  rw [List.map_map]
  exact (List.map_congr_left fun x _ => Int.toNat_natCast x).trans (List.map_id' ys)
theorem toI_at {ys : List Nat} {j : Nat} (h : j < ys.length) : (toI ys).getD j 0 = ((ys.getD j 0 : Nat) : Int) := by
  unfold toI
  rw [List.getD_eq_getElem?_getD, List.getElem?_map, List.getElem?_eq_getElem h, List.getD_eq_getElem?_getD, List.getElem?_eq_getElem h]
  rfl
theorem ListI.ex {H H1 : Hp} {a : Addr} {xs : List Int} (e : Ex H H1) (h : ListI H a xs) : ListI H1 a xs := e a _ h
theorem ListN.int {H : Hp} {a : Addr} {ys : List Nat} (h : ListN H a ys) : ListI H a (toI ys) := by
  show H a = _
  rw [toI_v]
  exact h
theorem ListI.nat {H : Hp} {a : Addr} {xs : List Int} (h : ListI H a xs) (s : strayI xs = none) : ListN H a (natI xs) := by
  show H a = _
  rw [natI_map s]
  exact h
/-- the first record that is not named by the one that it names -/
def unset (ys : List Nat) : Option Nat := firstOf (fun x => decide (gt ys (gt ys x) ≠ x)) ys.length
def faultS (xs : List Int) : Option (Nat × Nat) := match strayI xs with
  | some k => some (1, k)
  | none => (unset (natI xs)).map fun k => (2, k)
def faultF (xs zs : List Int) : Option (Nat × Nat) := match faultS xs with
  | some f => some f
  | none => match faultS zs with
    | some f => some f
    | none => if xs.length ≠ zs.length then some (3, 0) else none
theorem faultS_no {xs : List Int} (h : faultS xs = none) : strayI xs = none ∧ Sta (natI xs) := by
  unfold faultS at h
  cases s : strayI xs with
  | some k => rw [s] at h; cases h
  | none =>
    rw [s] at h
    have u : unset (natI xs) = none := Option.map_eq_none_iff.mp h
    refine ⟨rfl, fun x hx => ?_, fun x hx => ?_⟩
    · rw [natI_len] at hx ⊢
      exact (natI_at s hx).2
    · have := of_decide_eq_false (firstOf_no u x hx)
      exact Decidable.not_not.mp this
theorem faultF_no {xs zs : List Int} (h : faultF xs zs = none) : faultS xs = none ∧ faultS zs = none ∧ xs.length = zs.length := by
  unfold faultF at h
  cases s : faultS xs with
  | some f => rw [s] at h; cases h
  | none =>
    rw [s] at h
    cases t : faultS zs with
    | some f => simp only [t] at h; cases h
    | none =>
      simp only [t] at h
      by_cases c : xs.length = zs.length
      · exact ⟨rfl, rfl, c⟩
      · rw [if_pos c] at h
        cases h
theorem sta_fault {ys : List Nat} (s : Sta ys) : strayI (toI ys) = none ∧ faultS (toI ys) = none := by
  have a : strayI (toI ys) = none := by
    refine firstOf_none fun j hj => ?_
    rw [toI_len] at hj
    unfold badN
    rw [toI_at hj, toI_len, decide_eq_false (by omega), decide_eq_false (by have := s.lt j hj; unfold gt at this; omega)]
    rfl
  refine ⟨a, ?_⟩
  unfold faultS
  rw [a]
  show (unset (natI (toI ys))).map _ = none
  rw [toI_nat]
  have : unset ys = none := firstOf_none fun j hj => by
    show decide _ = false
    rw [decide_eq_false]
    exact fun h => h (s.inv j hj)
  rw [this]
  rfl
/-! ### what raises -/
def RzI (A : Ad) (k : Nat) (H : Hp) (E : XK) : Prop := ∀ d H', Ex H H' → H' d = some (.xd [("record", .int (k : Int))]) → E (.ref A.InvalidImage) (some d) H'
def RzS (A : Ad) (k : Nat) (H : Hp) (E : XK) : Prop := ∀ d H', Ex H H' → H' d = some (.xd [("record", .int (k : Int))]) → E (.ref A.NotState) (some d) H'
def RzU (A : Ad) (H : Hp) (E : XK) : Prop := ∀ H', Ex H H' → E (.ref A.UnequalSizes) none H'
def RzF (A : Ad) (f : Nat × Nat) (H : Hp) (E : XK) : Prop := (f.1 = 1 → RzI A f.2 H E) ∧ (f.1 = 2 → RzS A f.2 H E) ∧ (f.1 = 3 → RzU A H E)
theorem RzF.mono {A : Ad} {f : Nat × Nat} {H H1 : Hp} {E : XK} (e : Ex H H1) (h : RzF A f H E) : RzF A f H1 E :=
  ⟨fun z d H' e' hd => h.1 z d H' (e.trans e') hd, fun z d H' e' hd => h.2.1 z d H' (e.trans e') hd, fun z H' e' => h.2.2 z H' (e.trans e')⟩
/-! ### promises of the program -/
def spCI (A : Ad) : Sp := fun vs H Q E => ∃ (a : Addr) (xs : List Int), vs = [.ref a] ∧ ListI H a xs ∧ xs.length ≤ 65 ∧ (strayI xs = none → ∀ H', Ex H H' → Q .non H') ∧ ∀ k, strayI xs = some k → RzI A k H E
def spCS (A : Ad) : Sp := fun vs H Q E => ∃ (a : Addr) (xs : List Int), vs = [.ref a] ∧ ListI H a xs ∧ xs.length ≤ 65 ∧ (faultS xs = none → ∀ H', Ex H H' → Q .non H') ∧ ∀ f, faultS xs = some f → RzF A f H E
def spCP (A : Ad) : Sp := fun vs H Q E => ∃ (a b : Addr) (xs zs : List Int), vs = [.ref a, .ref b] ∧ ListI H a xs ∧ ListI H b zs ∧ xs.length ≤ 65 ∧ zs.length ≤ 65 ∧ (faultF xs zs = none → ∀ H', Ex H H' → Q .non H') ∧ ∀ f, faultF xs zs = some f → RzF A f H E
def UpAt (A : Ad) (H : Hp) (u : Addr) (ys zs : List Nat) : Prop := ∃ dx p q, H u = some (.ins A.Update dx [("before", .ref p), ("after", .ref q)]) ∧ ListN H p ys ∧ ListN H q zs ∧ p ≠ u ∧ q ≠ u
def spUi (A : Ad) : Sp := fun vs H Q E => ∃ (u a b dx : Addr) (xs zs : List Int), vs = [.ref u, .ref a, .ref b] ∧ H u = some (.ins A.Update dx []) ∧ ListI H a xs ∧ ListI H b zs ∧ xs.length ≤ 65 ∧ zs.length ≤ 65 ∧
  (faultF xs zs = none → ∀ p q H', H p = none → H q = none → p ≠ q → (∀ x o, x ≠ u → H x = some o → H' x = some o) → H' u = some (.ins A.Update dx [("before", .ref p), ("after", .ref q)]) → ListN H' p (natI xs) → ListN H' q (natI zs) → Q .non H') ∧ ∀ f, faultF xs zs = some f → RzF A f H E
end Pv

namespace Pv
open PySem L2 Evl Pm
/-- the box of the draws at b, the script's numbers at c -/
def Bx (H : Hp) (b c : Addr) : Prop := ∃ (ns : List Int) (d i k s : Int), H b = some (.lst [.ref c, .int d, .int i, .int k, .int s]) ∧ H c = some (.lst (ns.map V.int)) ∧ 0 ≤ d ∧ 0 ≤ i
theorem Bx.ne {H : Hp} {b c p : Addr} (B : Bx H b c) (h : H p = none) : p ≠ b ∧ p ≠ c := by
  obtain ⟨ns, d, i, k, s, h1, h2, _⟩ := B
  exact ⟨(fun e => by rw [e, h1] at h; cases h), (fun e => by rw [e, h2] at h; cases h)⟩
theorem Bx.bc {H : Hp} {b c : Addr} (B : Bx H b c) : b ≠ c := by
  obtain ⟨ns, d, i, k, s, h1, h2, _⟩ := B
  intro e
  rw [e, h2] at h1
  have h3 := HO.lst.inj (Option.some.inj h1)
  cases ns with
  | nil => cases h3
  | cons a l => cases h3
theorem Bx.keep {H H' : Hp} {b c : Addr} (B : Bx H b c) (h1 : ∀ o, H b = some o → H' b = some o) (h2 : ∀ o, H c = some o → H' c = some o) : Bx H' b c := by
  obtain ⟨ns, d, i, k, s, a1, a2, q⟩ := B
  exact ⟨ns, d, i, k, s, h1 _ a1, h2 _ a2, q⟩
theorem Bx.ex {H H' : Hp} {b c : Addr} (e : Ex H H') (B : Bx H b c) : Bx H' b c := B.keep (e b) (e c)
theorem Mut.of_ex {b : Addr} {H H1 : Hp} (e : Ex H H1) : Mut b H H1 := fun a o _ h => e a o h
theorem bx_back {b c : Addr} {H G : Hp} (B : Bx G b c) (M : Mut b H G) {a : Addr} (h : G a = none) : H a = none := by
  cases q : H a with
  | none => rfl
  | some u =>
    rw [M a u (B.ne h).1 q] at h
    cases h
def spMix : Sp := fun vs H Q _ => ∃ x y : Int, vs = [.int x, .int y] ∧ ∀ z : Int, Q (.int z) H
def spDw : Sp := fun vs H Q _ => ∃ (b c : Addr) (n : Int), vs = [.ref b, .int n] ∧ 0 < n ∧ n < 1152921504606846976 ∧ Bx H b c ∧ ∀ (d : Nat) H', (d : Int) < n → Bx H' b c → Mut b H H' → Q (.int d) H'
def spSz : Sp := fun vs H Q _ => ∃ b c : Addr, vs = [.ref b] ∧ Bx H b c ∧ ∀ (n : Nat) H', n ≤ 64 → Bx H' b c → Mut b H H' → Q (.int (n : Int)) H'
/-- an answer that is the whole number asked for -/
def spWh : Sp := fun vs H Q _ => ∃ i j : Int, vs = [.int i, .int j] ∧ Q (.bl (decide (i = j))) H
def spRw : Sp := fun vs H Q _ => ∃ (t d : Addr) (xs : List Nat), vs = [.ref t, .ref d] ∧ ListN H t xs ∧ ListN H d xs ∧ xs.length ≤ 200 ∧ ∀ H', Ex H H' → Q (.bl true) H'
def spSpl : Sp := fun vs H Q _ => ∃ (a : Addr) (xs : List V), vs = [.ref a] ∧ H a = some (.lst xs) ∧ xs.length ≤ 65 ∧ ∀ ys H', (∀ x o, x ≠ a → H x = some o → H' x = some o) → H' a = some (.lst ys) → Q .non H'
/-- -1 or the place of the first that is wrong -/
def orM (o : Option Nat) : Int := match o with
  | some k => k
  | none => -1
def spEn : Sp := fun vs H Q _ => ∃ (a : Addr) (xs : List Int), vs = [.ref a] ∧ ListI H a xs ∧ xs.length ≤ 65 ∧ ∀ H', Ex H H' → Q (.int (orM (strayI xs))) H'
def spUn : Sp := fun vs H Q _ => ∃ (a : Addr) (xs : List Int), vs = [.ref a] ∧ ListI H a xs ∧ strayI xs = none ∧ xs.length ≤ 65 ∧ ∀ H', Ex H H' → Q (.int (orM (unset (natI xs)))) H'
def spLaw (K : PySem.W.Frag) : Sp := fun vs H Q _ => ∃ (a : Addr) (ns : List Int), vs = [.ref a] ∧ SqL K H a (ns.map V.int) ∧ ns.length ≤ 63 ∧ ∀ H', Q (.bl true) H'
end Pv

namespace Pv
open PySem L2 Evl Pm
/-! ### rows as data -/
def Lay (n : Nat) (d : PyData) : Prop := PyData.canLay0 d = true ∧ PyData.depth d ≤ n ∧ PyData.plain d = true
def LayA (n : Nat) (ds : List PyData) : Prop := PyData.canLayAll0 ds = true ∧ PyData.depthAll ds ≤ n ∧ PyData.plainAll ds = true
theorem LayA.nil {n : Nat} : LayA n [] := ⟨rfl, Nat.zero_le _, rfl⟩
theorem LayA.cons {n : Nat} {d : PyData} {ds : List PyData} (h : Lay n d) (t : LayA n ds) : LayA n (d :: ds) := by
  obtain ⟨a1, a2, a3⟩ := h
  obtain ⟨b1, b2, b3⟩ := t
  refine ⟨?_, ?_, ?_⟩
  · simp only [PyData.canLayAll0, a1, b1]
    rfl
  · simp only [PyData.depthAll]
    omega
  · simp only [PyData.plainAll, a3, b3]
    rfl
theorem LayA.map {α : Type} {f : α → PyData} {n : Nat} : ∀ {cs : List α}, (∀ c ∈ cs, Lay n (f c)) → LayA n (cs.map f)
  | [], _ => .nil
  | c :: cs, h => .cons (h c (List.mem_cons_self ..)) (LayA.map fun d hd => h d (List.mem_cons_of_mem _ hd))
theorem LayA.list {n : Nat} {ds : List PyData} (h : LayA n ds) : Lay (n + 1) (.list ds) := by
  obtain ⟨a, b, c⟩ := h
  refine ⟨?_, ?_, ?_⟩
  · simp only [PyData.canLay0, a]
  · simp only [PyData.depth]
    omega
  · simp only [PyData.plain, c]
theorem Lay.int {n : Nat} (i : Int) : Lay (n + 1) (.int i) := ⟨rfl, by simp only [PyData.depth]; omega, rfl⟩
theorem Lay.shaped {n : Nat} {d : PyData} (h : Lay n d) (hn : n ≤ 60) : SeqAt.shaped d = true := by
  unfold SeqAt.shaped
  rw [h.1, decide_eq_true (by have := h.2.1; omega)]
  rfl
theorem Lay.refl {n : Nat} {d : PyData} (h : Lay n d) : PyData.eqv d d = true := PySem.SeqAt.eqv_refl_plain _ h.2.2
def dL (xs : List Int) : PyData := .list (xs.map PyData.int)
theorem lay_L (xs : List Int) : Lay 2 (dL xs) := LayA.list (LayA.map fun x _ => Lay.int x)
theorem dpAll_L {K : PySem.W.Frag} {H : Hp} : ∀ xs : List Int, DpAll K H (xs.map V.int) (xs.map PyData.int)
  | [] => .nil
  | x :: xs => .cons (.int x) (dpAll_L xs)
theorem dp_L {K : PySem.W.Frag} {H : Hp} {a : Addr} {xs : List Int} (h : H a = some (.lst (xs.map V.int))) : Dp K H (.ref a) (dL xs) := .lst (SqL.of h) (dpAll_L xs)
theorem nI_int (xs : List Nat) : nI xs = (xs.map fun x : Nat => (x : Int)).map V.int := by
  unfold nI
  rw [List.map_map]
  rfl
theorem ifF {b : Bool} {p q : Prop} (h : b = false) (k : q) : if b = true then p else q := by
  rw [h, if_neg Bool.false_ne_true]; exact k
theorem ifT {b : Bool} {p q : Prop} (h : b = true) (k : p) : if b = true then p else q := by
  rw [h, if_pos rfl]; exact k
theorem atR {ts : List Addr} {i : Nat} {t : Addr} (h : ts[i]? = some t) : atI (ts.map V.ref) (i : Int) = some (V.ref t) := atI_nat (by rw [List.getElem?_map, h]; rfl)
theorem ref_at {ts : List Addr} {i : Nat} {x : V} (h : (ts.map V.ref)[i]? = some x) : ∃ p, ts[i]? = some p ∧ x = .ref p := by
  rw [List.getElem?_map] at h
  cases e : ts[i]? with
  | none => rw [e] at h; cases h
  | some p =>
    rw [e] at h
    exact ⟨p, rfl, (Option.some.inj h).symm⟩
theorem getD_some9 {l : List Nat} {i : Nat} (h : i < l.length) : l[i]? = some (l.getD i 0) := by
  rw [List.getD_eq_getElem?_getD, List.getElem?_eq_getElem h]
  rfl
def dN (xs : List Nat) : PyData := dL (xs.map fun x : Nat => (x : Int))
theorem lay_N (xs : List Nat) : Lay 2 (dN xs) := lay_L _
theorem dp_N {K : PySem.W.Frag} {H : Hp} {a : Addr} {xs : List Nat} (h : ListN H a xs) : Dp K H (.ref a) (dN xs) := dp_L (by rw [← nI_int]; exact h)
theorem eqv_ints : ∀ xs ys : List Int, PyData.eqvAll (xs.map PyData.int) (ys.map PyData.int) = decide (xs = ys)
  | [], [] => rfl
  | [], _ :: _ => rfl
  | _ :: _, [] => rfl
  | x :: xs, y :: ys => by
    show PyData.eqvAll (PyData.int x :: xs.map PyData.int) (PyData.int y :: ys.map PyData.int) = _
    rw [PyData.eqvAll, eqv_ints xs ys, PyData.eqv, Bool.eq_iff_iff]
    simp
theorem eqv_N (xs ys : List Nat) : PyData.eqv (dN xs) (dN ys) = decide (xs = ys) := by
  unfold dN dL
  rw [PyData.eqv, eqv_ints, decide_eq_decide]
  exact List.map_inj_right fun a b h => by omega
/-! ### the operators of updates -/
def recsF (ys zs : List Nat) : List Nat := (List.range ys.length).filter fun x => decide (ys.getD x 0 ≠ zs.getD x 0)
def spRec (A : Ad) : Sp := fun vs H Q _ => ∃ (u : Addr) (ys zs : List Nat), vs = [.ref u] ∧ UpAt A H u ys zs ∧ zs.length = ys.length ∧ ys.length ≤ 65 ∧ ∀ r H', H r = none → Ex H H' → ListN H' r (recsF ys zs) → Q (.ref r) H'
def spNeg (A : Ad) : Sp := fun vs H Q _ => ∃ (u : Addr) (ys zs : List Nat), vs = [.ref u] ∧ UpAt A H u ys zs ∧ faultF (toI zs) (toI ys) = none ∧ zs.length = ys.length ∧ ys.length ≤ 65 ∧ ∀ t H', H t = none → Ex H H' → UpAt A H' t zs ys → Q (.ref t) H'
def spLen (A : Ad) : Sp := fun vs H Q _ => ∃ (u : Addr) (ys zs : List Nat), vs = [.ref u] ∧ UpAt A H u ys zs ∧ zs.length = ys.length ∧ ys.length ≤ 65 ∧ ∀ H', Ex H H' → Q (.int ((recsF ys zs).length : Int)) H'
def spCon (A : Ad) : Sp := fun vs H Q _ => ∃ (u : Addr) (x : Int) (ys zs : List Nat), vs = [.ref u, .int x] ∧ UpAt A H u ys zs ∧ zs.length = ys.length ∧ ys.length ≤ 65 ∧ ∀ H', Ex H H' → Q (.bl (inV (.int x) (nI (recsF ys zs)))) H'
def spEq (A : Ad) : Sp := fun vs H Q _ => ∃ (u t : Addr) (ys zs ys' zs' : List Nat), vs = [.ref u, .ref t] ∧ UpAt A H u ys zs ∧ UpAt A H t ys' zs' ∧ Q (.bl (decide (ys = ys') && decide (zs = zs'))) H
/-- a def with its promise where no guard stands: how it binds, too -/
def OkdG (P : Program) (w : World) (K : PySem.W.Frag) (mg : Str → Option Value) (base : Heap) (CX : CXT) (k : Nat) (f : Addr) (ps : List Str) (sp : Sp) : Prop := ∃ fd, GdR.FnG P w K mg base CX k f fd ps sp ∧ Binds K fd ps []
def shU (ys zs : List Nat) : Str := "Update(" ++ (dN ys).shown ++ ", " ++ (dN zs).shown ++ ")"
def spRp (A : Ad) : Sp := fun vs H Q _ => ∃ (u : Addr) (ys zs : List Nat), vs = [.ref u] ∧ UpAt A H u ys zs ∧ zs.length = ys.length ∧ ys.length ≤ 65 ∧ (∀ y ∈ ys, y < 65) ∧ (∀ z ∈ zs, z < 65) ∧ ∀ H', Ex H H' → Q (.str (shU ys zs)) H'
theorem RzF.from {A : Ad} {f : Nat × Nat} {H H1 : Hp} {E : XK} (e : Ex H H1) (h : RzF A f H E) : RzF A f H1 E := ⟨fun z d H' e2 g => h.1 z d H' (e.trans e2) g, fun z d H' e2 g => h.2.1 z d H' (e.trans e2) g, fun z H' e2 => h.2.2 z H' (e.trans e2)⟩
/-- an update whose two lists are new -/
def UpFr (A : Ad) (H H' : Hp) (u : Addr) (ys zs : List Nat) : Prop := ∃ dx p q, H' u = some (.ins A.Update dx [("before", .ref p), ("after", .ref q)]) ∧ ListN H' p ys ∧ ListN H' q zs ∧ p ≠ u ∧ q ≠ u ∧ H p = none ∧ H q = none
theorem UpFr.at {A : Ad} {H H' : Hp} {u : Addr} {ys zs : List Nat} (h : UpFr A H H' u ys zs) : UpAt A H' u ys zs := by
  obtain ⟨dx, p, q, h1, h2, h3, h4, h5, _⟩ := h
  exact ⟨dx, p, q, h1, h2, h3, h4, h5⟩
def spRst (A : Ad) : Sp := fun vs H Q E => ∃ (a : Addr) (xs : List Int), vs = [.ref A.Update, .ref a] ∧ ListI H a xs ∧ xs.length ≤ 65 ∧ (faultF xs xs = none → ∀ t H', H t = none → Ex H H' → UpFr A H H' t (natI xs) (natI xs) → Q (.ref t) H') ∧ ∀ f, faultF xs xs = some f → RzF A f H E
def wrF (ys zs ls : List Nat) (n : Nat) : List Nat := (List.range n).map fun x => if ls.contains x then zs.getD x 0 else ys.getD x 0
def spWr : Sp := fun vs H Q _ => ∃ (a b d : Addr) (ys zs ls : List Nat), vs = [.ref a, .ref b, .ref d] ∧ ListN H a ys ∧ ListN H b zs ∧ ListN H d ls ∧ zs.length = ys.length ∧ ys.length ≤ 65 ∧ ∀ r H', H r = none → Ex H H' → ListN H' r (wrF ys zs ls ys.length) → Q (.ref r) H'
end Pv

namespace Pv
open PySem L2 Evl Pm
theorem leaf65 : ∀ y : Fin 65, (PyData.showable (.int (y.val : Int)) && decide ((PyData.shown (.int (y.val : Int))).length ≤ 8)) = true := by decide +kernel
theorem shAll : ∀ {xs : List Nat}, (∀ y ∈ xs, y < 65) → PyData.showableAll ((xs.map fun x : Nat => (x : Int)).map PyData.int) = true ∧ PyData.hasDictAll ((xs.map fun x : Nat => (x : Int)).map PyData.int) = false ∧ PyData.leavesShortAll 8 ((xs.map fun x : Nat => (x : Int)).map PyData.int) = true ∧ PyData.bulkAll ((xs.map fun x : Nat => (x : Int)).map PyData.int) = xs.length
  | [], _ => ⟨rfl, rfl, rfl, rfl⟩
  | x :: xs, h => by
    obtain ⟨a, b, c, d⟩ := shAll (xs := xs) fun y hy => h y (List.mem_cons_of_mem _ hy)
    have l := leaf65 ⟨x, h x List.mem_cons_self⟩
    rw [Bool.and_eq_true] at l
    refine ⟨?_, ?_, ?_, ?_⟩
    · show (PyData.showable (.int (x : Int)) && PyData.showableAll _) = true
      rw [a, Bool.and_true]
      exact l.1
    · show (PyData.hasDict (.int (x : Int)) || PyData.hasDictAll _) = false
      rw [b]
      rfl
    · show (PyData.leavesShort 8 (.int (x : Int)) && PyData.leavesShortAll 8 _) = true
      rw [c, Bool.and_true]
      exact l.2
    · show PyData.bulk (.int (x : Int)) + 1 + PyData.bulkAll _ = _
      rw [d]
      show 0 + 1 + xs.length = xs.length + 1
      omega
theorem shN {xs : List Nat} (h : ∀ y ∈ xs, y < 65) (l : xs.length ≤ 65) : (dN xs).showable = true ∧ (dN xs).hasDict = false ∧ (dN xs).shown.length ≤ 700 := by
  obtain ⟨a, b, c, d⟩ := shAll h
  refine ⟨a, b, ?_⟩
  have q := PyData.shown_le_bulk 8 (by decide) (dN xs) c
  have e : (dN xs).bulk = xs.length := d
  rw [e] at q
  omega
end Pv

namespace Pv
open PySem L2 Evl Pm
/-! ### pairs of states, and their sums -/
abbrev PP := List Nat × List Nat
structure GoodP (p : PP) : Prop where
  a : Sta p.1
  b : Sta p.2
  len : p.2.length = p.1.length
  l64 : p.1.length ≤ 64
inductive Sm where
  | df
  | bz (x : Nat)
  | sm (ys zs : List Nat)
def mgF (ys zs ws : List Nat) (n : Nat) : List Nat := (List.range n).map fun x => if zs.getD x 0 ≠ ys.getD x 0 then zs.getD x 0 else ws.getD x 0
def bothF (a b : PP) (x : Nat) : Bool := decide (a.2.getD x 0 ≠ a.1.getD x 0) && decide (b.2.getD x 0 ≠ a.1.getD x 0)
def sumF (a b : PP) : Sm := if a.1 = b.1 then (match firstOf (bothF a b) a.1.length with
  | some x => .bz x
  | none => .sm a.1 (mgF a.1 a.2 b.2 a.1.length)) else .df
def stepF (d : Sm) (r : PP) : Sm := match d with
  | .sm ys zs => sumF (ys, zs) r
  | .df => .df
  | .bz x => .bz x
def allF : List PP → Sm
  | [] => .df
  | r :: rs => rs.foldl stepF (.sm r.1 r.2)
theorem map_getD {f : Nat → Nat} {n x : Nat} (h : x < n) : ((List.range n).map f).getD x 0 = f x := by
  rw [List.getD_eq_getElem?_getD, List.getElem?_map, List.getElem?_range h]
  rfl
theorem mgF_at {ys zs ws : List Nat} {n x : Nat} (h : x < n) : (mgF ys zs ws n).getD x 0 = if zs.getD x 0 ≠ ys.getD x 0 then zs.getD x 0 else ws.getD x 0 := map_getD h
theorem mgF_len {ys zs ws : List Nat} {n : Nat} : (mgF ys zs ws n).length = n := by
  unfold mgF
  rw [List.length_map, List.length_range]
theorem sumF_sm {a b : PP} {ys zs : List Nat} (h : sumF a b = .sm ys zs) : a.1 = b.1 ∧ firstOf (bothF a b) a.1.length = none ∧ ys = a.1 ∧ zs = mgF a.1 a.2 b.2 a.1.length := by
  unfold sumF at h
  split at h
  · rename_i e
    cases q : firstOf (bothF a b) a.1.length with
    | some x => rw [q] at h; cases h
    | none =>
      rw [q] at h
      injection h with h1 h2
      exact ⟨e, rfl, h1.symm, h2.symm⟩
  · cases h
theorem sum_good {a b : PP} {ys zs : List Nat} (ga : GoodP a) (gb : GoodP b) (h : sumF a b = .sm ys zs) : GoodP (ys, zs) := by
  obtain ⟨e, no, rfl, rfl⟩ := sumF_sm h
  have dj : ∀ x, x < a.1.length → gt a.2 x ≠ gt a.1 x → gt b.2 x = gt a.1 x := fun x hx c => by
    have q := firstOf_no no x hx
    unfold bothF at q
    rw [Bool.and_eq_false_iff] at q
    rcases q with q | q
    · exact absurd c (of_decide_eq_false q)
    · exact Decidable.not_not.mp (of_decide_eq_false q)
  have ta := ga.len
  have tb : b.2.length = a.1.length := by rw [gb.len, e]
  have eb : Sta a.1 := ga.a
  have mv : ∀ {Z : List Nat}, Sta Z → Z.length = a.1.length → ∀ x, x < a.1.length → gt Z x ≠ gt a.1 x → gt Z (gt Z x) ≠ gt a.1 (gt Z x) := fun {Z} sZ lZ x hx c q => by
    have h1 := sZ.inv x (by omega)
    have h2 := sZ.lt x (by omega)
    have h3 := eb.inv (gt Z x) (by omega)
    rw [h1] at q
    rw [← q] at h3
    exact c h3.symm
  have mv2 : ∀ {Z : List Nat}, Sta Z → Z.length = a.1.length → ∀ x, x < a.1.length → gt Z x = gt a.1 x → gt Z (gt Z x) = gt a.1 (gt Z x) := fun {Z} sZ lZ x hx c => by
    rw [sZ.inv x (by omega), c, eb.inv x hx]
  have at_ : ∀ x, x < a.1.length → gt (mgF a.1 a.2 b.2 a.1.length) x = if gt a.2 x ≠ gt a.1 x then gt a.2 x else gt b.2 x := fun x hx => mgF_at hx
  refine ⟨ga.a, ⟨fun x hx => ?_, fun x hx => ?_⟩, mgF_len, ga.l64⟩
  · rw [mgF_len] at hx ⊢
    rw [at_ x hx]
    split
    · exact Nat.lt_of_lt_of_le (ga.b.lt x (by omega)) (by omega)
    · exact Nat.lt_of_lt_of_le (gb.b.lt x (by omega)) (by omega)
  · rw [mgF_len] at hx
    show gt (mgF a.1 a.2 b.2 a.1.length) (gt (mgF a.1 a.2 b.2 a.1.length) x) = x
    rw [at_ x hx]
    by_cases c : gt a.2 x = gt a.1 x
    · rw [if_neg (fun z => z c)]
      have hl : gt b.2 x < a.1.length := Nat.lt_of_lt_of_le (gb.b.lt x (by omega)) (by omega)
      rw [at_ _ hl]
      have k : gt a.2 (gt b.2 x) = gt a.1 (gt b.2 x) := by
        by_cases c2 : gt b.2 x = gt a.1 x
        · rw [c2, ← c]
          rw [mv2 ga.b ta x hx c]
        · have q := mv gb.b tb x hx c2
          by_cases c3 : gt a.2 (gt b.2 x) = gt a.1 (gt b.2 x)
          · exact c3
          · exact absurd (dj _ hl c3) q
      rw [if_neg (fun z => z k)]
      exact gb.b.inv x (by omega)
    · rw [if_pos c]
      have hl : gt a.2 x < a.1.length := Nat.lt_of_lt_of_le (ga.b.lt x (by omega)) (by omega)
      rw [at_ _ hl, if_pos (mv ga.b ta x hx c)]
      exact ga.b.inv x (by omega)
theorem wr_mg {a b : PP} (e : a.1 = b.1) (la : a.2.length = a.1.length) (lb : b.2.length = b.1.length) (no : firstOf (bothF a b) a.1.length = none) : wrF a.2 b.2 (recsF b.1 b.2) a.2.length = mgF a.1 a.2 b.2 a.1.length := by
  unfold wrF mgF
  rw [la]
  refine List.map_congr_left fun x hx => ?_
  have hx := List.mem_range.mp hx
  have q := firstOf_no no x hx
  unfold bothF at q
  rw [Bool.and_eq_false_iff] at q
  have m : (recsF b.1 b.2).contains x = true ↔ b.2.getD x 0 ≠ a.1.getD x 0 := by
    unfold recsF
    rw [List.contains_iff_mem, List.mem_filter, List.mem_range, decide_eq_true_eq, ← e]
    exact ⟨fun h z => h.2 z.symm, fun h => ⟨hx, fun z => h z.symm⟩⟩
  by_cases c : b.2.getD x 0 = a.1.getD x 0
  · rw [if_neg (fun z => m.mp z c)]
    by_cases c2 : a.2.getD x 0 = a.1.getD x 0
    · rw [if_neg (fun z => z c2), c2, c]
    · rw [if_pos c2]
  · rw [if_pos (m.mpr c)]
    rcases q with q | q
    · rw [if_neg (of_decide_eq_false q)]
    · exact absurd c (of_decide_eq_false q)
theorem all_good : ∀ {rs : List PP} {d : Sm}, (∀ r ∈ rs, GoodP r) → (∀ ys zs, d = .sm ys zs → GoodP (ys, zs)) → ∀ ys zs, rs.foldl stepF d = .sm ys zs → GoodP (ys, zs)
  | [], d, _, h, ys, zs, e => h ys zs e
  | r :: rs, d, g, h, ys, zs, e => by
    refine all_good (rs := rs) (d := stepF d r) (fun x hx => g x (List.mem_cons_of_mem _ hx)) (fun y2 z2 e2 => ?_) ys zs e
    cases d with
    | df => cases e2
    | bz x => cases e2
    | sm y3 z3 => exact sum_good (h _ _ rfl) (g r List.mem_cons_self) e2
theorem all_ok {rs : List PP} {ys zs : List Nat} (g : ∀ r ∈ rs, GoodP r) (h : allF rs = .sm ys zs) : GoodP (ys, zs) := by
  match rs, g, h with
  | [], _, h => cases h
  | r :: rs, g, h => exact all_good (fun x hx => g x (List.mem_cons_of_mem _ hx)) (fun y2 z2 e => by cases e; exact g r List.mem_cons_self) ys zs h
theorem rest_step {r : PP} (la : r.2.length = r.1.length) : sumF (r.1, r.1) r = .sm r.1 r.2 := by
  unfold sumF
  rw [if_pos rfl]
  have : firstOf (bothF (r.1, r.1) r) r.1.length = none := firstOf_none fun j _ => by
    unfold bothF
    rw [decide_eq_false (fun z => z rfl), Bool.false_and]
  rw [this]
  show Sm.sm r.1 (mgF r.1 r.1 r.2 r.1.length) = _
  congr 1
  refine List.ext_getElem (by rw [mgF_len, la]) fun i h1 h2 => ?_
  rw [mgF_len] at h1
  have := mgF_at (ys := r.1) (zs := r.1) (ws := r.2) h1
  rw [if_neg (fun z => z rfl), List.getD_eq_getElem?_getD, List.getElem?_eq_getElem (by rw [mgF_len]; exact h1), List.getD_eq_getElem?_getD, List.getElem?_eq_getElem h2] at this
  exact this
theorem recsF_nil {ys : List Nat} : recsF ys ys = [] := by
  unfold recsF
  rw [List.filter_eq_nil_iff]
  intro x _
  simp
theorem fold_df : ∀ rs : List PP, rs.foldl stepF .df = .df
  | [] => rfl
  | _ :: rs => fold_df rs
theorem fold_bz {x : Nat} : ∀ rs : List PP, rs.foldl stepF (.bz x) = .bz x
  | [] => rfl
  | _ :: rs => fold_bz rs
theorem fold_at {rs : List PP} {d : Sm} {i : Nat} {ys zs : List Nat} {r : PP} (h : (rs.take i).foldl stepF d = .sm ys zs) (hr : rs[i]? = some r) : (rs.take (i + 1)).foldl stepF d = sumF (ys, zs) r ∧ (∀ o, sumF (ys, zs) r = o → o = .df ∨ (∃ x, o = .bz x) → rs.foldl stepF d = o) := by
  have e1 : (rs.take (i + 1)).foldl stepF d = sumF (ys, zs) r := by
    rw [List.take_add_one, hr, List.foldl_append, h]
    rfl
  refine ⟨e1, fun o ho h2 => ?_⟩
  have e2 : rs.foldl stepF d = (rs.drop (i + 1)).foldl stepF ((rs.take (i + 1)).foldl stepF d) := by
    rw [← List.foldl_append, List.take_append_drop]
  rw [e2, e1, ho]
  rcases h2 with rfl | ⟨x, rfl⟩
  · exact fold_df _
  · exact fold_bz _
theorem all_rest {r : PP} {rs : List PP} (g : GoodP r) : allF (r :: rs) = (r :: rs).foldl stepF (.sm r.1 r.1) := by
  show rs.foldl stepF (.sm r.1 r.2) = rs.foldl stepF (sumF (r.1, r.1) r)
  rw [rest_step g.len]
theorem seq_nat {d n : Nat} (h : d < n) : seqIndex? (d : Int) n = some d := by
  unfold seqIndex?
  have h0 : ¬ ((d : Int) < 0) := by omega
  have h1 : (decide (0 ≤ (d : Int)) && decide ((d : Int) < (n : Int))) = true := by
    rw [decide_eq_true (by omega), decide_eq_true (by omega)]
    rfl
  simp only [h0, if_false, h1, if_true, Int.toNat_natCast]
/-! ### closed rows of records -/
structure Clo (ys am : List Nat) : Prop where
  nd : am.Nodup
  lt : ∀ x ∈ am, x < ys.length
  go : ∀ x ∈ am, gt ys x ∈ am
theorem gt_set {zs : List Nat} {i v j : Nat} (hi : i < zs.length) : gt (zs.set i v) j = if i = j then v else gt zs j := by
  unfold gt
  rw [List.getD_eq_getElem?_getD, List.getElem?_set]
  by_cases c : i = j
  · rw [if_pos c, if_pos c, if_pos hi]
    rfl
  · rw [if_neg c, if_neg c, List.getD_eq_getElem?_getD]
theorem nI_set {zs : List Nat} {i v : Nat} : (nI zs).set i (V.int (v : Int)) = nI (zs.set i v) := by
  unfold nI
  rw [List.map_set]
theorem clo_sta {ys zs am : List Nat} (s : Sta ys) (c : Clo ys am) (l : zs.length = ys.length) (h : ∀ x, x < ys.length → gt zs x = if x ∈ am then x else gt ys x) : Sta zs := by
  refine ⟨fun x hx => ?_, fun x hx => ?_⟩
  · rw [l] at hx ⊢
    rw [h x hx]
    split
    · exact hx
    · exact s.lt x hx
  · rw [l] at hx
    rw [h x hx]
    by_cases m : x ∈ am
    · rw [if_pos m, h x hx, if_pos m]
    · have m2 : gt ys x ∉ am := fun z => m (by have := c.go _ z; rw [s.inv x hx] at this; exact this)
      rw [if_neg m, h _ (s.lt x hx), if_neg m2, s.inv x hx]
theorem pair_sta {zs : List Nat} {x y : Nat} (s : Sta zs) (hx : x < zs.length) (hy : y < zs.length) (ne : x ≠ y) (fx : gt zs x = x) (fy : gt zs y = y) : Sta ((zs.set x y).set y x) ∧ ∀ j, j ≠ x → j ≠ y → gt ((zs.set x y).set y x) j = gt zs j := by
  have at_ : ∀ j, gt ((zs.set x y).set y x) j = if y = j then x else if x = j then y else gt zs j := fun j => by
    rw [gt_set (by rw [List.length_set]; exact hy), gt_set hx]
  have ll : ((zs.set x y).set y x).length = zs.length := by rw [List.length_set, List.length_set]
  refine ⟨⟨fun j hj => ?_, fun j hj => ?_⟩, fun j h1 h2 => ?_⟩
  · rw [ll] at hj ⊢
    rw [at_ j]
    split
    · exact hx
    · split
      · exact hy
      · exact s.lt j hj
  · rw [ll] at hj
    rw [at_ j]
    by_cases c1 : y = j
    · rw [if_pos c1, at_ x, if_neg (fun z => ne z.symm), if_pos rfl, c1]
    · rw [if_neg c1]
      by_cases c2 : x = j
      · rw [if_pos c2, at_ y, if_pos rfl, c2]
      · rw [if_neg c2, at_ (gt zs j)]
        have i1 := s.inv j hj
        rw [if_neg (fun z => by rw [← z, fy] at i1; exact c1 i1), if_neg (fun z => by rw [← z, fx] at i1; exact c2 i1), i1]
  · rw [at_ j, if_neg (fun z => h2 z.symm), if_neg (fun z => h1 z.symm)]
theorem pop_perm {α : Type} {zs : List α} {d : Nat} {y : α} (h : zs[d]? = some y) : (y :: zs.eraseIdx d).Perm zs := by
  obtain ⟨dl, e⟩ := List.getElem?_eq_some_iff.mp h
  have e1 : zs = zs.take d ++ y :: zs.drop (d + 1) := by
    have := (List.take_append_drop d zs).symm
    rw [List.drop_eq_getElem_cons dl, e] at this
    exact this
  rw [List.eraseIdx_eq_take_drop_succ]
  exact (List.perm_middle.symm).trans (by rw [← e1])
theorem nI_erase {zs : List Nat} {d : Nat} : (nI zs).eraseIdx d = nI (zs.eraseIdx d) := by
  unfold nI
  rw [List.eraseIdx_eq_take_drop_succ, List.eraseIdx_eq_take_drop_succ, List.map_append, List.map_take, List.map_drop]
theorem clo_rng {ys : List Nat} (s : Sta ys) : Clo ys (List.range ys.length) := ⟨List.nodup_range, fun x hx => List.mem_range.mp hx, fun x hx => List.mem_range.mpr (s.lt x (List.mem_range.mp hx))⟩
theorem sta_rng (n : Nat) : Sta (List.range n) := by
  have at_ : ∀ x, x < n → gt (List.range n) x = x := fun x hx => by
    unfold gt
    rw [List.getD_eq_getElem?_getD, List.getElem?_range hx]
    rfl
  refine ⟨fun x hx => ?_, fun x hx => ?_⟩
  · rw [List.length_range] at hx ⊢
    rw [at_ x hx]
    exact hx
  · rw [List.length_range] at hx
    rw [at_ x hx, at_ x hx]
/-! ### lists of objects -/
def AtL {β : Type} (F : Addr → β → Prop) (ps : List Addr) (bs : List β) : Prop := ps.length = bs.length ∧ ∀ (i : Nat) (a : Addr) (b : β), ps[i]? = some a → bs[i]? = some b → F a b
theorem AtL.mono {β : Type} {F G : Addr → β → Prop} {ps : List Addr} {bs : List β} (h : AtL F ps bs) (k : ∀ a b, F a b → G a b) : AtL G ps bs := ⟨h.1, fun i a b h1 h2 => k a b (h.2 i a b h1 h2)⟩
theorem AtL.nil {β : Type} {F : Addr → β → Prop} : AtL F [] [] := ⟨rfl, fun i a b h => by simp at h⟩
theorem AtL.snoc {β : Type} {F : Addr → β → Prop} {ps : List Addr} {bs : List β} {p : Addr} {b : β} (h : AtL F ps bs) (k : F p b) : AtL F (ps ++ [p]) (bs ++ [b]) := by
  refine ⟨by rw [List.length_append, List.length_append, h.1]; rfl, fun i a c h1 h2 => ?_⟩
  by_cases ci : i < ps.length
  · rw [List.getElem?_append_left ci] at h1
    rw [List.getElem?_append_left (by rw [← h.1]; exact ci)] at h2
    exact h.2 i a c h1 h2
  · have e : i = ps.length := by
      have := (List.getElem?_eq_some_iff.mp h1).1
      rw [List.length_append] at this
      have q : i < ps.length + 1 := this
      omega
    subst e
    rw [List.getElem?_append_right (Nat.le_refl _), Nat.sub_self] at h1
    rw [h.1, List.getElem?_append_right (Nat.le_refl _), Nat.sub_self] at h2
    cases h1
    cases h2
    exact k
theorem AtL.set {β : Type} {F : Addr → β → Prop} {ps : List Addr} {bs : List β} {j : Nat} {p : Addr} {b : β} (h : AtL F ps bs) (k : F p b) : AtL F (ps.set j p) (bs.set j b) := by
  refine ⟨by rw [List.length_set, List.length_set, h.1], fun i a c h1 h2 => ?_⟩
  rw [List.getElem?_set] at h1 h2
  by_cases e : j = i
  · rw [if_pos e] at h1 h2
    split at h1
    · split at h2
      · cases h1
        cases h2
        exact k
      · cases h2
    · cases h1
  · rw [if_neg e] at h1 h2
    exact h.2 i a c h1 h2
theorem AtL.erase {β : Type} {F : Addr → β → Prop} {ps : List Addr} {bs : List β} {d : Nat} (h : AtL F ps bs) : AtL F (ps.eraseIdx d) (bs.eraseIdx d) := by
  refine ⟨by rw [List.length_eraseIdx, List.length_eraseIdx, h.1], fun i a c h1 h2 => ?_⟩
  rw [List.getElem?_eraseIdx] at h1 h2
  split at h1
  · rename_i q
    rw [if_pos q] at h2
    exact h.2 i a c h1 h2
  · rename_i q
    rw [if_neg q] at h2
    exact h.2 _ a c h1 h2
theorem AtL.get {β : Type} {F : Addr → β → Prop} {ps : List Addr} {bs : List β} (h : AtL F ps bs) {i : Nat} {a : Addr} (ha : ps[i]? = some a) : ∃ b, bs[i]? = some b ∧ F a b ∧ b ∈ bs := by
  have il := (List.getElem?_eq_some_iff.mp ha).1
  have il2 : i < bs.length := by rw [← h.1]; exact il
  exact ⟨bs[i], List.getElem?_eq_getElem il2, h.2 i a _ ha (List.getElem?_eq_getElem il2), List.getElem_mem il2⟩
theorem AtL.ex_at {β : Type} {F : Addr → β → Prop} {ps : List Addr} {bs : List β} (h : AtL F ps bs) {i : Nat} (hi : i < bs.length) : ∃ a b, ps[i]? = some a ∧ bs[i]? = some b ∧ F a b ∧ b ∈ bs := by
  have il : i < ps.length := by rw [h.1]; exact hi
  exact ⟨ps[i], bs[i], List.getElem?_eq_getElem il, List.getElem?_eq_getElem hi, h.2 i _ _ (List.getElem?_eq_getElem il) (List.getElem?_eq_getElem hi), List.getElem_mem hi⟩
/-- the blocks of the first i records -/
structure BkOk (ys : List Nat) (bs : List (List Nat)) (i : Nat) : Prop where
  len : bs.length ≤ i
  cl : ∀ b ∈ bs, Clo ys b
  nd : bs.flatten.Nodup
  lo : ∀ x ∈ bs.flatten, x < i ∨ gt ys x < i
theorem BkOk.more {ys : List Nat} {bs : List (List Nat)} {i : Nat} (h : BkOk ys bs i) : BkOk ys bs (i + 1) := ⟨by have := h.len; omega, h.cl, h.nd, fun x hx => (h.lo x hx).elim (fun z => .inl (by omega)) fun z => .inr (by omega)⟩
theorem BkOk.add {ys : List Nat} {bs : List (List Nat)} {i : Nat} {b : List Nat} (h : BkOk ys bs i) (c : Clo ys b) (no : ∀ x ∈ b, ¬ (x < i ∨ gt ys x < i)) (yes : ∀ x ∈ b, x < i + 1 ∨ gt ys x < i + 1) : BkOk ys (bs ++ [b]) (i + 1) := by
  refine ⟨by rw [List.length_append]; have := h.len; simp; omega, fun d hd => ?_, ?_, fun x hx => ?_⟩
  · rcases List.mem_append.mp hd with hd | hd
    · exact h.cl d hd
    · rw [List.mem_singleton.mp hd]
      exact c
  · rw [List.flatten_append, List.nodup_append]
    refine ⟨h.nd, by simpa using c.nd, fun x hx y hy e => ?_⟩
    subst e
    have : x ∈ b := by simpa using hy
    exact no x this (h.lo x hx)
  · rw [List.flatten_append, List.mem_append] at hx
    rcases hx with hx | hx
    · exact h.more.lo x hx
    · exact yes x (by simpa using hx)
theorem BkOk.one {ys : List Nat} {bs : List (List Nat)} {i : Nat} (h : BkOk ys bs i) (hi : i < ys.length) (e : gt ys i = i) : BkOk ys (bs ++ [[i]]) (i + 1) := h.add ⟨by simp, fun x hx => by rw [List.mem_singleton.mp hx]; exact hi, fun x hx => by rw [List.mem_singleton.mp hx, e]; exact List.mem_singleton.mpr rfl⟩ (fun x hx => by rw [List.mem_singleton.mp hx, e]; omega) (fun x hx => by rw [List.mem_singleton.mp hx]; omega)
theorem BkOk.two {ys : List Nat} {bs : List (List Nat)} {i : Nat} (h : BkOk ys bs i) (s : Sta ys) (hi : i < ys.length) (e : i < gt ys i) : BkOk ys (bs ++ [[i, gt ys i]]) (i + 1) := by
  have i1 := s.inv i hi
  have m : ∀ x, x ∈ [i, gt ys i] ↔ x = i ∨ x = gt ys i := fun x => by simp
  refine h.add ⟨by simp; omega, fun x hx => ?_, fun x hx => ?_⟩ (fun x hx => ?_) (fun x hx => ?_)
  · rcases (m x).mp hx with rfl | rfl
    · exact hi
    · exact s.lt i hi
  · rcases (m x).mp hx with rfl | rfl
    · simp
    · rw [i1]; simp
  · rcases (m x).mp hx with rfl | rfl
    · omega
    · rw [i1]; omega
  · rcases (m x).mp hx with rfl | rfl
    · omega
    · rw [i1]; omega
/-! ### in the heap -/
def RwAt (H : Hp) (p : Addr) (a : PP) : Prop := ∃ s t, H p = some (.lst [.ref s, .ref t]) ∧ ListN H s a.1 ∧ ListN H t a.2
def RowsAt (H : Hp) (r : Addr) (rs : List PP) : Prop := ∃ ps : List Addr, H r = some (.lst (ps.map V.ref)) ∧ ps.length = rs.length ∧ ∀ (i : Nat) (p : Addr) (a : PP), ps[i]? = some p → rs[i]? = some a → RwAt H p a
def UpsAt (A : Ad) (H : Hp) (m : Addr) (rs : List PP) : Prop := ∃ us : List Addr, H m = some (.lst (us.map V.ref)) ∧ us.length = rs.length ∧ ∀ (i : Nat) (u : Addr) (a : PP), us[i]? = some u → rs[i]? = some a → UpAt A H u a.1 a.2
def NsAt (H : Hp) (r : Addr) (bs : List (List Nat)) : Prop := ∃ ps : List Addr, H r = some (.lst (ps.map V.ref)) ∧ ps.length = bs.length ∧ ∀ (i : Nat) (p : Addr) (b : List Nat), ps[i]? = some p → bs[i]? = some b → ListN H p b
def wdF : Sm → Str
  | .df => "differ"
  | .bz _ => "busy"
  | .sm _ _ => "sum"
def xoF : Sm → Nat
  | .bz x => x
  | _ => 0
def DueAt (H : Hp) (d : Addr) (o : Sm) : Prop := ∃ p q, H d = some (.lst [.str (wdF o), .int ((xoF o : Nat) : Int), .ref p, .ref q]) ∧ ∀ ys zs, o = .sm ys zs → ListN H p ys ∧ ListN H q zs
theorem wd_sum_sm {ys zs : List Nat} : decide (V.str (wdF (.sm ys zs)) = V.str "sum") = true := decide_eq_true rfl
theorem wd_sum_bz {x : Nat} : decide (V.str (wdF (.bz x)) = V.str "sum") = false := by
  show decide (V.str "busy" = V.str "sum") = false
  decide +kernel
theorem wd_sum_df : decide (V.str (wdF .df) = V.str "sum") = false := by decide +kernel
theorem wd_busy_bz {x : Nat} : decide (V.str (wdF (.bz x)) = V.str "busy") = true := decide_eq_true rfl
theorem wd_differ_df : decide (V.str (wdF .df) = V.str "differ") = true := decide_eq_true rfl
theorem ne_ix {l : List Addr} (h : l.Nodup) (i j : Nat) {a b : Addr} (ha : l[i]? = some a) (hb : l[j]? = some b) (hij : i ≠ j) : a ≠ b := fun z => by
  obtain ⟨h1, e1⟩ := List.getElem?_eq_some_iff.mp ha
  obtain ⟨h2, e2⟩ := List.getElem?_eq_some_iff.mp hb
  exact hij ((List.getElem_inj h).mp (e1.trans (z.trans e2.symm)))
theorem raw0 {P : Program} {w : World} {K : PySem.W.Frag} {mg : Str → Option Value} {base : Heap} {CX : CXT} {k : Nat} {f : Addr} {fd : FuncData} {ps : List Str} {sp : Sp} (F : FnOk P w K mg base CX k f fd ps sp) (b : Binds K fd ps []) : FnR P w K mg base CX k f sp := (F.raw b .nil).imp fun vs H Q E h => by
  rw [List.append_nil]
  exact h
theorem UpAt.ex {A : Ad} {H H1 : Hp} {u : Addr} {ys zs : List Nat} (e : Ex H H1) (h : UpAt A H u ys zs) : UpAt A H1 u ys zs := by
  obtain ⟨dx, p, q, h1, h2, h3, h4, h5⟩ := h
  exact ⟨dx, p, q, e _ _ h1, h2.ex e, h3.ex e, h4, h5⟩
theorem RwAt.ex {H H1 : Hp} {p : Addr} {a : PP} (e : Ex H H1) (h : RwAt H p a) : RwAt H1 p a := by
  obtain ⟨s, t, h1, h2, h3⟩ := h
  exact ⟨s, t, e _ _ h1, h2.ex e, h3.ex e⟩
theorem RowsAt.ex {H H1 : Hp} {p : Addr} {rs : List PP} (e : Ex H H1) (h : RowsAt H p rs) : RowsAt H1 p rs := by
  obtain ⟨ps, h1, h2, h3⟩ := h
  exact ⟨ps, e _ _ h1, h2, fun i p a z1 z2 => (h3 i p a z1 z2).ex e⟩
theorem UpsAt.ex {A : Ad} {H H1 : Hp} {p : Addr} {rs : List PP} (e : Ex H H1) (h : UpsAt A H p rs) : UpsAt A H1 p rs := by
  obtain ⟨ps, h1, h2, h3⟩ := h
  exact ⟨ps, e _ _ h1, h2, fun i p a z1 z2 => (h3 i p a z1 z2).ex e⟩
theorem DueAt.ex {H H1 : Hp} {d : Addr} {o : Sm} (e : Ex H H1) (h : DueAt H d o) : DueAt H1 d o := by
  obtain ⟨p, q, h1, h2⟩ := h
  exact ⟨p, q, e _ _ h1, fun ys zs z => ⟨(h2 ys zs z).1.ex e, (h2 ys zs z).2.ex e⟩⟩
theorem Bx.neN {H : Hp} {b c p : Addr} {xs : List Nat} (B : Bx H b c) (h : ListN H p xs) : p ≠ b := by
  obtain ⟨ns, d, i, k, s, h1, _⟩ := B
  intro e
  subst e
  rw [show H p = _ from h] at h1
  have h3 := HO.lst.inj (Option.some.inj h1)
  cases xs with
  | nil => cases h3
  | cons a l => cases h3
theorem Bx.neR {H : Hp} {b c p : Addr} {ps : List Addr} (B : Bx H b c) (h : H p = some (.lst (ps.map V.ref))) : p ≠ b := by
  obtain ⟨ns, d, i, k, s, h1, _⟩ := B
  intro e
  subst e
  rw [h] at h1
  have h3 := HO.lst.inj (Option.some.inj h1)
  match ps with
  | [] => cases h3
  | [_] => cases h3
  | _ :: _ :: _ => cases h3
theorem ListN.mut {H H1 : Hp} {b c p : Addr} {xs : List Nat} (B : Bx H b c) (M : Mut b H H1) (h : ListN H p xs) : ListN H1 p xs := M _ _ (B.neN h) h
theorem UpAt.mut {A : Ad} {H H1 : Hp} {b c u : Addr} {ys zs : List Nat} (B : Bx H b c) (M : Mut b H H1) (h : UpAt A H u ys zs) : UpAt A H1 u ys zs := by
  obtain ⟨dx, p, q, h1, h2, h3, h4, h5⟩ := h
  refine ⟨dx, p, q, M _ _ (fun e => ?_) h1, h2.mut B M, h3.mut B M, h4, h5⟩
  obtain ⟨ns, d, i, k, s, g, _⟩ := B
  rw [e, g] at h1
  cases h1
theorem RwAt.mut {H H1 : Hp} {b c p : Addr} {a : PP} (B : Bx H b c) (M : Mut b H H1) (h : RwAt H p a) : RwAt H1 p a := by
  obtain ⟨s, t, h1, h2, h3⟩ := h
  exact ⟨s, t, M _ _ (B.neR (ps := [s, t]) h1) h1, h2.mut B M, h3.mut B M⟩
theorem RowsAt.mut {H H1 : Hp} {b c p : Addr} {rs : List PP} (B : Bx H b c) (M : Mut b H H1) (h : RowsAt H p rs) : RowsAt H1 p rs := by
  obtain ⟨ps, h1, h2, h3⟩ := h
  exact ⟨ps, M _ _ (B.neR h1) h1, h2, fun i p a z1 z2 => (h3 i p a z1 z2).mut B M⟩
theorem UpsAt.mut {A : Ad} {H H1 : Hp} {b c p : Addr} {rs : List PP} (B : Bx H b c) (M : Mut b H H1) (h : UpsAt A H p rs) : UpsAt A H1 p rs := by
  obtain ⟨ps, h1, h2, h3⟩ := h
  exact ⟨ps, M _ _ (B.neR h1) h1, h2, fun i p a z1 z2 => (h3 i p a z1 z2).mut B M⟩
theorem NsAt.mut {H H1 : Hp} {b c p : Addr} {rs : List (List Nat)} (B : Bx H b c) (M : Mut b H H1) (h : NsAt H p rs) : NsAt H1 p rs := by
  obtain ⟨ps, h1, h2, h3⟩ := h
  exact ⟨ps, M _ _ (B.neR h1) h1, h2, fun i p a z1 z2 => (h3 i p a z1 z2).mut B M⟩
theorem Mut.then {b : Addr} {H H1 H2 : Hp} (x : Mut b H H1) (y : Mut b H1 H2) : Mut b H H2 := fun a o n h => y _ _ n (x a o n h)
/-! ### the sum's own lemmas -/
theorem good_fault {a : PP} (g : GoodP a) : faultF (toI a.1) (toI a.2) = none := by
  unfold faultF
  rw [(sta_fault g.a).2]
  show (match faultS (toI a.2) with
    | some f => some f
    | none => if (toI a.1).length ≠ (toI a.2).length then some (3, 0) else none) = none
  rw [(sta_fault g.b).2]
  show (if (toI a.1).length ≠ (toI a.2).length then some (3, 0) else none) = none
  rw [toI_len, toI_len, g.len]
  exact if_neg (fun z => z rfl)
theorem mem_recs {ys zs : List Nat} {x : Nat} : x ∈ recsF ys zs ↔ x < ys.length ∧ ys.getD x 0 ≠ zs.getD x 0 := by
  unfold recsF
  rw [List.mem_filter, List.mem_range, decide_eq_true_eq]
theorem both_mem {a b : PP} (e : a.1 = b.1) {x : Nat} (hx : x < a.1.length) : bothF a b x = true ↔ x ∈ recsF a.1 a.2 ∧ x ∈ recsF b.1 b.2 := by
  unfold bothF
  rw [mem_recs, mem_recs, ← e, Bool.and_eq_true, decide_eq_true_eq, decide_eq_true_eq]
  exact ⟨fun h => ⟨⟨hx, fun z => h.1 z.symm⟩, hx, fun z => h.2 z.symm⟩, fun h => ⟨fun z => h.1.2 z.symm, fun z => h.2.2 z.symm⟩⟩
theorem first_busy {a b : PP} (e : a.1 = b.1) {i : Nat} (hi : i < (recsF a.1 a.2).length) (no : ∀ y ∈ (recsF a.1 a.2).take i, y ∉ recsF b.1 b.2) (hm : (recsF a.1 a.2).getD i 0 ∈ recsF b.1 b.2) : firstOf (bothF a b) a.1.length = some ((recsF a.1 a.2).getD i 0) := by
  have m : (recsF a.1 a.2).getD i 0 ∈ recsF a.1 a.2 := by
    rw [List.getD_eq_getElem?_getD, List.getElem?_eq_getElem hi]
    exact List.getElem_mem _
  have xl := (mem_recs.mp m).1
  refine firstOf_some xl ((both_mem e xl).mpr ⟨m, hm⟩) fun j hj => ?_
  cases q : bothF a b j with
  | false => rfl
  | true =>
    obtain ⟨q1, q2⟩ := (both_mem e (by omega)).mp q
    obtain ⟨k, hk, ek⟩ := List.getElem_of_mem q1
    have so : (recsF a.1 a.2).Pairwise (· < ·) := List.Pairwise.filter _ List.pairwise_lt_range
    by_cases c : k < i
    · refine absurd q2 (no j ?_)
      rw [← ek]
      exact List.mem_take_iff_getElem.mpr ⟨k, by omega, rfl⟩
    · rw [List.getD_eq_getElem?_getD, List.getElem?_eq_getElem hi] at hj
      have hj : j < (recsF a.1 a.2)[i] := hj
      by_cases c2 : k = i
      · subst c2
        omega
      · have := List.pairwise_iff_getElem.mp so i k hi hk (by omega)
        omega
theorem no_busy {a b : PP} (e : a.1 = b.1) (no : ∀ y ∈ recsF a.1 a.2, y ∉ recsF b.1 b.2) : firstOf (bothF a b) a.1.length = none := firstOf_none fun j hj => by
  cases q : bothF a b j with
  | false => rfl
  | true =>
    obtain ⟨q1, q2⟩ := (both_mem e hj).mp q
    exact absurd q2 (no j q1)
theorem recs_len {ys zs : List Nat} : (recsF ys zs).length ≤ ys.length := by
  unfold recsF
  have := List.length_filter_le (fun x => decide (ys.getD x 0 ≠ zs.getD x 0)) (List.range ys.length)
  rw [List.length_range] at this
  exact this
def recsK (ys zs : List Nat) (j : Nat) : List Nat := (List.range j).filter fun x => decide (ys.getD x 0 ≠ zs.getD x 0)
theorem recsK_pos {ys zs : List Nat} {j : Nat} (c : ys.getD j 0 ≠ zs.getD j 0) : recsK ys zs (j + 1) = recsK ys zs j ++ [j] := by
  unfold recsK
  rw [List.range_succ, List.filter_append, List.filter_cons, if_pos (decide_eq_true c)]
  rfl
theorem recsK_neg {ys zs : List Nat} {j : Nat} (c : ys.getD j 0 = zs.getD j 0) : recsK ys zs (j + 1) = recsK ys zs j := by
  unfold recsK
  rw [List.range_succ, List.filter_append, List.filter_cons, if_neg (by rw [decide_eq_true_eq]; exact fun z => z c)]
  exact List.append_nil _
theorem recsK_len {ys zs : List Nat} {j : Nat} : (recsK ys zs j).length ≤ j := by
  unfold recsK
  have := List.length_filter_le (fun x => decide (ys.getD x 0 ≠ zs.getD x 0)) (List.range j)
  rw [List.length_range] at this
  exact this
theorem dec_ints {x y : Nat} : decide (V.int (x : Int) = V.int (y : Int)) = decide (x = y) := by
  by_cases c : x = y
  · rw [c, decide_eq_true rfl, decide_eq_true rfl]
  · rw [decide_eq_false c, decide_eq_false (fun h => by injection h with h; exact c (Int.ofNat.inj h))]
theorem dec_bls {x y : Bool} : decide (V.bl x = V.bl y) = decide (x = y) := by
  cases x <;> cases y <;> rfl
/-! ### contracts -/
def RzSm (A : Ad) (H : Hp) (o : Sm) (E : XK) : Prop := (o = .df → ∀ H', Ex H H' → E (.ref A.InvalidUpdate) none H') ∧ ∀ x, o = .bz x → ∀ d H', Ex H H' → H' d = some (.xd [("record", .int (x : Int))]) → E (.ref A.Busy) (some d) H'
theorem RzSm.from {A : Ad} {o : Sm} {H H1 : Hp} {E : XK} (e : Ex H H1) (h : RzSm A H o E) : RzSm A H1 o E := ⟨fun z H' e2 => h.1 z H' (e.trans e2), fun x z d H' e2 g => h.2 x z d H' (e.trans e2) g⟩
def spAdd (A : Ad) : Sp := fun vs H Q E => ∃ (u t : Addr) (a b : PP), vs = [.ref u, .ref t] ∧ UpAt A H u a.1 a.2 ∧ UpAt A H t b.1 b.2 ∧ GoodP a ∧ GoodP b ∧ (∀ ys zs, sumF a b = .sm ys zs → ∀ r H', H r = none → Ex H H' → UpAt A H' r ys zs → Q (.ref r) H') ∧ RzSm A H (sumF a b) E
def UsAt (A : Ad) (H : Hp) (us : List Addr) (rs : List PP) : Prop := us.length = rs.length ∧ ∀ (i : Nat) (u : Addr) (a : PP), us[i]? = some u → rs[i]? = some a → UpAt A H u a.1 a.2
def spJn (A : Ad) : Sp := fun vs H Q E => ∃ (us : List Addr) (rs : List PP), vs = us.map V.ref ∧ UsAt A H us rs ∧ (∀ r ∈ rs, GoodP r) ∧ us.length ≤ 6 ∧ (∀ ys zs, allF rs = .sm ys zs → ∀ t H', H t = none → Ex H H' → UpAt A H' t ys zs → Q (.ref t) H') ∧ RzSm A H (allF rs) E
def spJl (A : Ad) : Sp := fun vs H Q E => ∃ (m : Addr) (rs : List PP), vs = [.ref m] ∧ UpsAt A H m rs ∧ (∀ r ∈ rs, GoodP r) ∧ rs.length ≤ 6 ∧ (∀ ys zs, allF rs = .sm ys zs → ∀ t H', H t = none → Ex H H' → UpAt A H' t ys zs → Q (.ref t) H') ∧ RzSm A H (allF rs) E
def spUpd (A : Ad) : Sp := fun vs H Q _ => ∃ (u p q : Addr) (ys zs : List Nat), vs = [.ref u, .ref p, .ref q] ∧ UpAt A H u ys zs ∧ ListN H p ys ∧ ListN H q zs ∧ zs.length = ys.length ∧ ys.length ≤ 65 ∧ ∀ H', Ex H H' → Q (.bl true) H'
def spAns : Sp := fun vs H Q _ => ∃ x y : Bool, vs = [.bl x, .bl y] ∧ Q (.bl (decide (x = y))) H
def spMd (A : Ad) : Sp := fun vs H Q _ => ∃ (p : Addr) (a : PP), vs = [.ref p] ∧ RwAt H p a ∧ GoodP a ∧ ∀ u H', H u = none → Ex H H' → UpFr A H H' u a.1 a.2 → Q (.ref u) H'
def spPd : Sp := fun vs H Q _ => ∃ (b c p q : Addr) (ys am : List Nat), vs = [.ref b, .ref p, .ref q] ∧ Bx H b c ∧ ListN H p ys ∧ ListN H q am ∧ Sta ys ∧ Clo ys am ∧ ys.length ≤ 64 ∧ ∀ r zs H', H r = none → Bx H' b c → Mut b H H' → ListN H' r zs → Sta zs → zs.length = ys.length → Q (.ref r) H'
def spBk : Sp := fun vs H Q _ => ∃ (p : Addr) (ys : List Nat), vs = [.ref p] ∧ ListN H p ys ∧ Sta ys ∧ ys.length ≤ 64 ∧ ∀ (r : Addr) (ps : List Addr) (bs : List (List Nat)) (H' : Hp), H r = none → Ex H H' → H' r = some (.lst (ps.map V.ref)) → AtL (fun a b => a ≠ r ∧ H a = none ∧ ListN H' a b) ps bs → bs.length ≤ 64 → (∀ b ∈ bs, Clo ys b) → bs.flatten.Nodup → Q (.ref r) H'
def spTch : Sp := fun vs H Q _ => ∃ (b c p : Addr) (ys : List Nat) (m : Int), vs = [.ref b, .ref p, .int m] ∧ Bx H b c ∧ ListN H p ys ∧ Sta ys ∧ ys.length ≤ 64 ∧ ∀ r am H', H r = none → Bx H' b c → Mut b H H' → ListN H' r am → Clo ys am → Q (.ref r) H'
def spRws : Sp := fun vs H Q _ => ∃ (b c : Addr) (n : Nat), vs = [.ref b, .int (n : Int)] ∧ n ≤ 64 ∧ Bx H b c ∧ ∀ r rs H', Bx H' b c → Mut b H H' → RowsAt H' r rs → (∀ a ∈ rs, GoodP a) → rs.length ≤ 6 → Q (.ref r) H'
def spOne (A : Ad) : Sp := fun vs H Q _ => ∃ (u p : Addr) (a : PP), vs = [.ref u, .ref p] ∧ UpAt A H u a.1 a.2 ∧ RwAt H p a ∧ GoodP a ∧ ∀ H', Ex H H' → Q (.bl true) H'
def spSum : Sp := fun vs H Q _ => ∃ (p q : Addr) (a b : PP), vs = [.ref p, .ref q] ∧ RwAt H p a ∧ RwAt H q b ∧ GoodP a ∧ GoodP b ∧ ∀ d H', Ex H H' → DueAt H' d (sumF a b) → Q (.ref d) H'
def spAll : Sp := fun vs H Q _ => ∃ (r : Addr) (rs : List PP), vs = [.ref r] ∧ RowsAt H r rs ∧ (∀ a ∈ rs, GoodP a) ∧ rs.length ≤ 6 ∧ ∀ d H', Ex H H' → DueAt H' d (allF rs) → Q (.ref d) H'
def spPk (A : Ad) : Sp := fun vs H Q _ => ∃ (u t d : Addr) (a b : PP), vs = [.ref u, .ref t, .ref d] ∧ UpAt A H u a.1 a.2 ∧ UpAt A H t b.1 b.2 ∧ GoodP a ∧ GoodP b ∧ DueAt H d (sumF a b) ∧ ∀ H', Ex H H' → Q (.bl true) H'
def spJk (A : Ad) : Sp := fun vs H Q _ => ∃ (m d : Addr) (rs : List PP), vs = [.ref m, .ref d] ∧ UpsAt A H m rs ∧ (∀ a ∈ rs, GoodP a) ∧ rs.length ≤ 6 ∧ DueAt H d (allF rs) ∧ ∀ H', Ex H H' → Q (.bl true) H'
def spEk (A : Ad) : Sp := fun vs H Q _ => ∃ (b c u p : Addr) (a : PP), vs = [.ref b, .ref u, .ref p] ∧ Bx H b c ∧ UpAt A H u a.1 a.2 ∧ RwAt H p a ∧ GoodP a ∧ ∀ H', Bx H' b c → Mut b H H' → Q (.bl true) H'
def spRk : Sp := fun vs H Q _ => ∃ (b c p : Addr) (ys : List Nat), vs = [.ref b, .ref p] ∧ Bx H b c ∧ ListN H p ys ∧ Sta ys ∧ ys.length ≤ 64 ∧ ∀ H', Bx H' b c → Mut b H H' → Q (.bl true) H'
def spBox (K : PySem.W.Frag) : Sp := fun vs H Q _ => ∃ (a : Addr) (ns : List Int), vs = [.ref a] ∧ SqL K H a (ns.map V.int) ∧ ns.length ≤ 63 ∧ ∀ b c H', H b = none → H c = none → Ex H H' → Bx H' b c → Q (.ref b) H'
theorem Mut.ext {b : Addr} {H H1 H2 : Hp} (x : Mut b H H1) (e : Ex H1 H2) : Mut b H H2 := fun a o n h => e _ _ (x a o n h)
theorem fault_same {xs : List Int} {f : Nat × Nat} (h : faultF xs xs = some f) : (f.1 = 1 ∧ strayI xs = some f.2) ∨ (f.1 = 2 ∧ strayI xs = none ∧ unset (natI xs) = some f.2) := by
  have e : faultF xs xs = faultS xs := by
    unfold faultF
    cases s : faultS xs with
    | some g => rfl
    | none => exact if_neg (fun z => z rfl)
  rw [e] at h
  unfold faultS at h
  cases s : strayI xs with
  | some k =>
    rw [s] at h
    cases h
    exact .inl ⟨rfl, rfl⟩
  | none =>
    rw [s] at h
    cases u : unset (natI xs) with
    | none => simp only [u] at h; cases h
    | some k =>
      simp only [u] at h
      cases h
      exact .inr ⟨rfl, rfl, rfl⟩
theorem fault_none {xs : List Int} (h : faultF xs xs = none) : strayI xs = none ∧ unset (natI xs) = none := by
  have e : faultF xs xs = faultS xs := by
    unfold faultF
    cases s : faultS xs with
    | some g => rfl
    | none => exact if_neg (fun z => z rfl)
  rw [e] at h
  unfold faultS at h
  cases s : strayI xs with
  | some k => rw [s] at h; cases h
  | none =>
    rw [s] at h
    exact ⟨rfl, Option.map_eq_none_iff.mp h⟩
theorem con_rec {ys zs : List Nat} {x : Nat} (h : x < ys.length) : inV (V.int (x : Int)) (nI (recsF ys zs)) = !decide (V.int ((ys.getD x 0 : Nat) : Int) = V.int ((zs.getD x 0 : Nat) : Int)) := by
  rw [inV_nI, dec_ints, Bool.eq_iff_iff, List.contains_iff_mem, mem_recs, Bool.not_eq_true', decide_eq_false_iff_not]
  exact ⟨fun z => z.2, fun z => ⟨h, z⟩⟩
theorem inV_mem {z : Int} : ∀ {xs : List Nat}, inV (V.int z) (nI xs) = true → ∃ x ∈ xs, z = (x : Int)
  | [], h => by cases h
  | y :: xs, h => by
    have h : (eqV (V.int (y : Int)) (V.int z) || inV (V.int z) (nI xs)) = true := h
    rw [Bool.or_eq_true] at h
    rcases h with h | h
    · have h : ((y : Int) == z) = true := h
      exact ⟨y, List.mem_cons_self, (beq_iff_eq.mp h).symm⟩
    · obtain ⟨x, hx, e⟩ := inV_mem h
      exact ⟨x, List.mem_cons_of_mem _ hx, e⟩
theorem con_out {ys zs : List Nat} {z : Int} (h : z < 0 ∨ (ys.length : Int) ≤ z) : inV (V.int z) (nI (recsF ys zs)) = false := by
  cases q : inV (V.int z) (nI (recsF ys zs)) with
  | false => rfl
  | true =>
    obtain ⟨x, hx, e⟩ := inV_mem q
    have := (mem_recs.mp hx).1
    omega
theorem rgN (n : Nat) : rgV 0 (n : Int) = nI (List.range n) := by
  unfold rgV nI
  rw [show ((n : Int) - 0).toNat = n from by omega]
  exact List.map_congr_left fun i _ => congrArg V.int (by omega)
/-- a row of two lists, none of them at D -/
def RwN (D : Addr) (H : Hp) (p : Addr) (a : PP) : Prop := ∃ s t, p ≠ D ∧ s ≠ D ∧ t ≠ D ∧ H p = some (.lst [.ref s, .ref t]) ∧ ListN H s a.1 ∧ ListN H t a.2
theorem RwN.at {D : Addr} {H : Hp} {p : Addr} {a : PP} (h : RwN D H p a) : RwAt H p a := by
  obtain ⟨s, t, _, _, _, h1, h2, h3⟩ := h
  exact ⟨s, t, h1, h2, h3⟩
theorem RwN.keep {D : Addr} {H H1 : Hp} {p : Addr} {a : PP} (h : RwN D H p a) (k : ∀ x o, x ≠ D → H x = some o → H1 x = some o) : RwN D H1 p a := by
  obtain ⟨s, t, n1, n2, n3, h1, h2, h3⟩ := h
  exact ⟨s, t, n1, n2, n3, k _ _ n1 h1, k _ _ n2 h2, k _ _ n3 h3⟩
theorem RwN.mut {D b c : Addr} {H H1 : Hp} {p : Addr} {a : PP} (B : Bx H b c) (M : Mut b H H1) (h : RwN D H p a) : RwN D H1 p a := by
  obtain ⟨s, t, n1, n2, n3, h1, h2, h3⟩ := h
  exact ⟨s, t, n1, n2, n3, M _ _ (B.neR (ps := [s, t]) h1) h1, h2.mut B M, h3.mut B M⟩
theorem drop_cons {α : Type} {bs : List α} {i : Nat} {bk : α} (h : bs[i]? = some bk) : bs.drop i = bk :: bs.drop (i + 1) := by
  obtain ⟨il, e⟩ := List.getElem?_eq_some_iff.mp h
  rw [List.drop_eq_getElem_cons il, e]
theorem hand_more {h bk : List Nat} {bs : List (List Nat)} {i : Nat} (hb : bs[i]? = some bk) (no : ∀ x ∈ h, x ∉ (bs.drop i).flatten) : ∀ x ∈ h, x ∉ (bs.drop (i + 1)).flatten := fun x hx z => by
  refine no x hx ?_
  rw [drop_cons hb, List.flatten_cons]
  exact List.mem_append.mpr (.inr z)
theorem hand_ok {ys h bk : List Nat} {bs : List (List Nat)} {i : Nat} (hb : bs[i]? = some bk) (nd : bs.flatten.Nodup) (c1 : Clo ys h) (c2 : Clo ys bk) (no : ∀ x ∈ h, x ∉ (bs.drop i).flatten) : Clo ys (h ++ bk) ∧ ∀ x ∈ h ++ bk, x ∉ (bs.drop (i + 1)).flatten := by
  have nd2 : (bs.drop i).flatten.Nodup := by
    have e : bs.flatten = (bs.take i).flatten ++ (bs.drop i).flatten := by rw [← List.flatten_append, List.take_append_drop]
    rw [e] at nd
    exact (List.nodup_append.mp nd).2.1
  rw [drop_cons hb, List.flatten_cons] at nd2
  have q := List.nodup_append.mp nd2
  refine ⟨⟨List.nodup_append.mpr ⟨c1.nd, c2.nd, fun x hx y hy e => ?_⟩, fun x hx => (List.mem_append.mp hx).elim (c1.lt x) (c2.lt x), fun x hx => (List.mem_append.mp hx).elim (fun z => List.mem_append.mpr (.inl (c1.go x z))) fun z => List.mem_append.mpr (.inr (c2.go x z))⟩, fun x hx z => ?_⟩
  · subst e
    refine no x hx ?_
    rw [drop_cons hb, List.flatten_cons]
    exact List.mem_append.mpr (.inl hy)
  · rcases List.mem_append.mp hx with hx | hx
    · exact hand_more hb no x hx z
    · exact q.2.2 x hx x z rfl
theorem clo_both {ys h g : List Nat} (s : Sta ys) (c1 : Clo ys h) (c2 : Clo ys g) : Clo ys (h ++ g.filter fun x => !h.contains x) := by
  have m : ∀ x, x ∈ g.filter (fun x => !h.contains x) ↔ x ∈ g ∧ x ∉ h := fun x => by
    rw [List.mem_filter, Bool.not_eq_true', Bool.eq_false_iff, ne_eq, List.contains_iff_mem]
  refine ⟨List.nodup_append.mpr ⟨c1.nd, c2.nd.sublist List.filter_sublist, fun x hx y hy e => ?_⟩, fun x hx => ?_, fun x hx => ?_⟩
  · subst e
    exact ((m x).mp hy).2 hx
  · rcases List.mem_append.mp hx with hx | hx
    · exact c1.lt x hx
    · exact c2.lt x ((m x).mp hx).1
  · rcases List.mem_append.mp hx with hx | hx
    · exact List.mem_append.mpr (.inl (c1.go x hx))
    · obtain ⟨h1, h2⟩ := (m x).mp hx
      refine List.mem_append.mpr (.inr ((m _).mpr ⟨c2.go x h1, fun z => h2 ?_⟩))
      have := c1.go _ z
      rw [s.inv x (c2.lt x h1)] at this
      exact this
def dR (a : PP) : PyData := .list [dN a.1, dN a.2]
theorem dp_R {K : PySem.W.Frag} {H : Hp} {p : Addr} {a : PP} (h : RwAt H p a) : Dp K H (.ref p) (dR a) := by
  obtain ⟨s, t, h1, h2, h3⟩ := h
  exact .lst (SqL.of h1) (.cons (dp_N h2) (.cons (dp_N h3) .nil))
theorem lay_R (a : PP) : Lay 3 (dR a) := LayA.list (LayA.cons (lay_N _) (.cons (lay_N _) .nil))
theorem eqv_R (a b : PP) : PyData.eqv (dR a) (dR b) = (decide (a.1 = b.1) && decide (a.2 = b.2)) := by
  unfold dR
  rw [PyData.eqv, PyData.eqvAll, eqv_N, PyData.eqvAll, eqv_N, PyData.eqvAll, Bool.and_true]
/-- an update none of whose parts is at D -/
def UpD (D : Addr) (A : Ad) (H : Hp) (u : Addr) (a : PP) : Prop := ∃ dx p q, u ≠ D ∧ p ≠ D ∧ q ≠ D ∧ H u = some (.ins A.Update dx [("before", .ref p), ("after", .ref q)]) ∧ ListN H p a.1 ∧ ListN H q a.2 ∧ p ≠ u ∧ q ≠ u
theorem UpD.at {D : Addr} {A : Ad} {H : Hp} {u : Addr} {a : PP} (h : UpD D A H u a) : UpAt A H u a.1 a.2 := by
  obtain ⟨dx, p, q, _, _, _, h1, h2, h3, h4, h5⟩ := h
  exact ⟨dx, p, q, h1, h2, h3, h4, h5⟩
theorem UpD.keep {D : Addr} {A : Ad} {H H1 : Hp} {u : Addr} {a : PP} (h : UpD D A H u a) (k : ∀ x o, x ≠ D → H x = some o → H1 x = some o) : UpD D A H1 u a := by
  obtain ⟨dx, p, q, n1, n2, n3, h1, h2, h3, h4, h5⟩ := h
  exact ⟨dx, p, q, n1, n2, n3, k _ _ n1 h1, k _ _ n2 h2, k _ _ n3 h3, h4, h5⟩
/-- what stands through the law's rows -/
structure Liv (A : Ad) (b c r m : Addr) (rs : List PP) (G : Hp) : Prop where
  bx : Bx G b c
  rows : RowsAt G r rs
  ups : UpsAt A G m rs
theorem Liv.ex {A : Ad} {b c r m : Addr} {rs : List PP} {G G' : Hp} (e : Ex G G') (h : Liv A b c r m rs G) : Liv A b c r m rs G' := ⟨h.bx.ex e, h.rows.ex e, h.ups.ex e⟩
theorem Liv.mut {A : Ad} {b c r m : Addr} {rs : List PP} {G G' : Hp} (B : Bx G' b c) (M : Mut b G G') (h : Liv A b c r m rs G) : Liv A b c r m rs G' := ⟨B, h.rows.mut h.bx M, h.ups.mut h.bx M⟩
/-- row i and its update -/
theorem Liv.get {A : Ad} {b c r m : Addr} {rs : List PP} {G : Hp} (h : Liv A b c r m rs G) {i : Nat} (hi : i < rs.length) : ∃ (ps us : List Addr) (p u : Addr) (a : PP), G r = some (.lst (ps.map V.ref)) ∧ G m = some (.lst (us.map V.ref)) ∧ ps[i]? = some p ∧ us[i]? = some u ∧ rs[i]? = some a ∧ RwAt G p a ∧ UpAt A G u a.1 a.2 ∧ a ∈ rs := by
  obtain ⟨ps, h1, h2⟩ := h.rows
  obtain ⟨us, h3, h4⟩ := h.ups
  obtain ⟨p, a, e1, e2, e3, e4⟩ := AtL.ex_at (F := RwAt G) h2 hi
  obtain ⟨u, a2, f1, f2, f3, _⟩ := AtL.ex_at (F := fun u (a : PP) => UpAt A G u a.1 a.2) h4 hi
  rw [e2] at f2
  cases f2
  exact ⟨ps, us, p, u, a, h1, h3, e1, f1, e2, e3, f3, e4⟩
theorem up_at {A : Ad} {H : Hp} {c dx p q : Addr} {ys zs : List Nat} {R : VK} {E : XK} (hc : H c = none) (hdx : H dx = none) (ne : dx ≠ c) (hp : ListN H p ys) (hq : ListN H q zs) (g : GoodP (ys, zs)) (k : ∀ H', Ex H H' → UpAt A H' c ys zs → R .non H') :
    spUi A [.ref c, .ref p, .ref q] (upd (upd H dx (.own c)) c (.ins A.Update dx [])) R E := by
  have l1 : ys.length ≤ 64 := g.l64
  have l2 : zs.length = ys.length := g.len
  have e3 : Ex H (upd (upd H dx (.own c)) c (.ins A.Update dx [])) := fun y o hy => by rw [upd_ne (ne_of_none hy hc), upd_ne (ne_of_none hy hdx)]; exact hy
  refine ⟨c, p, q, dx, toI ys, toI zs, rfl, upd_same, (hp.ex e3).int, (hq.ex e3).int, by rw [toI_len]; omega, by rw [toI_len]; omega, fun _ p3 q3 H' hp3 hq3 npq keep g5 g6 g7 => k H' (fun y o hy => keep y o (ne_of_none hy hc) (e3 _ _ hy)) ?_, fun f hf => by rw [good_fault g] at hf; cases hf⟩
  rw [toI_nat] at g6 g7
  exact ⟨dx, p3, q3, g5, g6, g7, (fun z => by rw [z, upd_same] at hp3; cases hp3), (fun z => by rw [z, upd_same] at hq3; cases hq3)⟩
end Pv

/-! star defs that raise, and those whose keyword-only parameter is left out -/
namespace StK
open PySem PySem.Spec PyProof.Rows L2 StX
theorem upN {P : Program} {w : World} : CXUp (L2N.CX P w) := by
  intro outer s H s2 H2 E e s' un kp os h
  obtain ⟨a, B, G, cls, d, r, fly, ok, ub, free, os', bare, he⟩ := h
  have back : ∀ b o, s.heap.get? b = some o → H b = none → H2 b = none := fun b o q n => un.free b o q n (by simp)
  have ub' : UB (frs outer) H G s.heap B s'.heap := {
    keep := fun b o q n out => ub.keep b o (kp b o q) (back b o q n) out
    slot := fun b o q => ub.slot b o (kp b o q)
    free := fun b o q n => ub.free b o (kp b o q) (back b o q n)
    there := fun b o q => ub.there b o (kp b o q)
    tups := fun b xs q => ub.tups b xs (un.tups b xs q)
    frzs := fun b o xs q => ub.frzs b o xs (un.frzs b o xs q)
    tbls := fun b ps q => by
      obtain ⟨m1, x1⟩ := un.tbls b ps q
      obtain ⟨m2, x2⟩ := ub.tbls b _ x1
      exact ⟨m1 ++ m2, by rw [x2, Array.append_assoc]⟩ }
  exact ⟨a, B, G, cls, d, r, fly, ok, ub', free, os'.trans os, bare, he⟩
section
variable {CX : CXT} {P : Program} {w : World} {K : PySem.W.Frag} {mg : Str → Option Value} {base : Heap} {k n : Nat} {f : Addr} {name qual : Str} {params : Arguments} {body : List Stmt} {scope : Scope} {dV kV doc pm cdv ct oc : Value} {an od : Option Addr}
  {osl : Array (Option Value)} {N ps : List Str} {sp : Sp}
/-- def f(a, .., *v, q = dv), called without q -/
theorem fn_starD {pv q : Str} {D : Addr} {dv : V} {du : Value} (at_ : K.lookup f = some ⟨oc, od, .func (PySem.W.fnOf name qual params body scope dV kV doc pm an cdv ct), osl⟩) (code : PySem.W.codeIn K cdv qual = true) (S : FnScope N (ps ++ [pv]) scope) (up : CXUp CX) (hps : ps.length = n + 1)
    (isq : PySem.W.nsIn K D q = some (some du)) (rq : RelV dv du)
    (bind : ∀ us rest : List Value, us.length = n → ∃ (β γ : Type) (k1 : Option Value → Sem β) (k2 : β → Sem γ) (k3 : γ → Sem (List (Str × Value))) (a : β), bindArgs (PySem.W.fnOf name qual params body scope dV kV doc pm an cdv ct) ⟨us ++ rest, []⟩ = ((nsGet D q >>= k1) >>= k2) >>= k3 ∧
      k1 (some du) = pure a ∧ (k2 a >>= k3) = (newTuple rest >>= fun t => pure (ps.zip (us ++ [du]) ++ [(pv, t)])))
    (run : ∀ (A : Around) (outer : List Env) (s : Shared) (H : Hp) (vs : List V) (Q : VK) (E : XK), Room k (A.deeper (envOfC qual scope s.heap.objs.size f cdv)) → sp vs H Q E →
      ∃ t, PSs (cxOf CX P w K mg base N qual scope f cdv A outer s H E) body t ∧ t { nx := fun _ H' => Q .non H', rt := Q } (start N vs) H) :
    FnR P w K mg base CX (k + 1) f (fun vs H Q E => ∃ hd rest, vs = hd ++ rest ∧ hd.length = n ∧ rest.length ≤ sizeLine ∧ ∀ p, H p = none → sp ((hd ++ [dv]) ++ [V.ref p]) (upd H p (.tup rest)) Q E) := by
  rintro A outer s H us vs Q E room env rv ⟨hd, rest, rfl, lh, small, goes⟩
  obtain ⟨u1, u2, rfl, r1, r2⟩ := vals_split rv
  have free : H s.heap.objs.size = none := env.hok.fresh (Nat.le_refl _)
  have l1 : u1.length = n := r1.length.symm.trans lh
  have few : u2.length ≤ sizeLine := by
    rw [← r2.length]
    exact small
  have KX : K.In s.heap := env.mod.kin.keeps fun b o e => (env.bs b o e).1
  let here : Obj := { cls := .type "tuple", data := .seq u2.toArray }
  refine run_bnd at_ code S room env (G := fun xs G => ∃ p, H p = none ∧ xs = (hd ++ [dv]) ++ [V.ref p] ∧ G = upd H p (.tup rest)) (fun A' Ex Q' told => ?_) ?_
  · obtain ⟨β, γ, k1, k2, k3, a, e1, e2, e3⟩ := bind u1 u2 l1
    rw [e1, bind_assoc]
    refine wpAny_bind (((PySem.W.looks_nsIn KX isq).andThen (PySem.W.Looks.of_pure e2)).here ?_)
    rw [e3]
    refine wpAny_bind (wpAny_newTuple (wpAny_pure ?_) few)
    have laid : ObjOk P w (upd H s.heap.objs.size (.tup rest)) (s.heap.push here) s.heap.objs.size (.tup rest) := ⟨small, u2, r2, _, Heap.get?_push_size _ rfl, rfl, _, rfl⟩
    have un : Un (frs outer) [] H (upd H s.heap.objs.size (.tup rest)) s.heap (s.heap.push here) := un_laid free
    have len : ((hd ++ [dv]) ++ [V.ref s.heap.objs.size]).length = (ps ++ [pv]).length := by
      rw [List.length_append, List.length_append, List.length_append, lh, hps]
      rfl
    have got := told _ _ ((hd ++ [dv]) ++ [V.ref s.heap.objs.size]) ((u1 ++ [du]) ++ [Value.ref s.heap.objs.size]) (env0_laid env laid) un rfl
      (fun e s' => up outer s H _ _ E e s' un (fun b o q => Heap.get?_push_of_some _ q) rfl) ((r1.append (.cons rq .nil)).append (.cons rfl .nil)) len ⟨_, free, rfl, rfl⟩
    have cut : ps.length = (u1 ++ [du]).length := by rw [List.length_append, l1, hps]; rfl
    rw [List.zip_append cut] at got
    exact got
  · rintro s2 _ _ ⟨p, hp, rfl, rfl⟩ room'
    exact run A outer s2 _ _ Q E room' (goes p hp)
end
section
variable {X : Cx} {CX : CXT} {k : Nat} {f : Addr} {ks : List Str} {q : List V → List V → Hp → VK → XK → Prop} {sp : Sp} {x : Str} {p pos : Pos} {e : Expr} {es : List Expr} {kws : List Keyword} {t tk : TA}
def tCallFKS (q : List V → List V → Hp → VK → XK → Prop) (n : Nat) (E : L2.St → XK) (t tk : TA) : TE := fun σ H Q => t σ H fun vs H1 => tk σ H1 fun zs H2 => zs.length = n ∧ q vs zs H2 Q (E σ)
/-- the same of a def that may raise -/
theorem pe_callFKS {E : L2.St → XK} (F : FnK X.prog X.w X.K X.mg X.base CX k f ks q) (room : Room k X.A) (gl : Gl X x) (there : X.mg x = some (.ref f)) (kp : PySem.W.keepIn X.K (.ref f) = true) (pass : ∀ σ, PassesAt CX X σ (E σ))
    (ha : PA X (e :: es) t) (hk : PK X kws tk) (each : (backToKw pos (keywordEach kws X.env)).all (·.1.isSome) = true := by rfl) (names : (backToKw pos (keywordEach kws X.env)).filterMap (·.1) = ks := by rfl)
    (nd : (x == ("__debug__" : Str)) = false := by decide) (st : starEach (e :: es) X.env = (false, eval e X.env) :: starEach es X.env := by rfl)
    (pl : ((backTo pos (starEach (e :: es) X.env)).any (·.1) || (backToKw pos (keywordEach kws X.env)).any (·.1.isNone)) = false := by rfl) :
    PE X (.Call (.Name x p) (e :: es) kws pos) (tCallFKS q ks.length E t tk) := by
  refine ⟨fun pins s σ H Q I h => wpAny_Call_Name_kw (ld_glob I gl there ?_ nd)⟩
  refine PySem.W.callWith_KW (h₀ := X.base) I.ok.mod.kin kp each (thn (ha.run pos pins s σ H _ I h) ?_) pl st
  rintro us s1 ⟨vs, H1, I1, r, g1⟩
  refine thn (hk.run pos pins s1 σ H1 _ I1 g1) ?_
  rintro ws s2 ⟨zs, H2, I2, rz, lz, g2⟩
  refine ⟨I2.kIn, ?_⟩
  rw [names]
  refine wpAny_call (codeAny_mono (F X.A X.stack s2 H2 us ws vs zs Q (E σ) room I2.env0 r rz lz g2) fun out s' h' => ?_)
  match out, h' with
  | .error e, h' => exact pass σ pins H2 s2 e s' I2 h'
  | .ok (.ret u), h' => exact I2.after h'
  | .ok .next, h' => exact h'.elim
  | .ok .brk, h' => exact h'.elim
  | .ok .cont, h' => exact h'.elim
/-- f(e, ..), f told of its values alone -/
theorem pe_callR {E : XK} (F : FnR X.prog X.w X.K X.mg X.base CX k f sp) (room : Room k X.A) (gl : Gl X x) (there : X.mg x = some (.ref f)) (kp : PySem.W.keepIn X.K (.ref f) = true) (pass : Passes CX X E)
    (ha : PA X (e :: es) t) (nd : (x == ("__debug__" : Str)) = false := by decide) (st : starEach (e :: es) X.env = (false, eval e X.env) :: starEach es X.env := by rfl) (pl : (backTo pos (starEach es X.env)).any (·.1) = false := by rfl) :
    PE X (.Call (.Name x p) (e :: es) [] pos) (fun σ H Q => t σ H fun vs H1 => sp vs H1 Q E) := by
  refine ⟨fun pins s σ H Q I h => wpAny_Call_Name_kw (ld_glob I gl there ?_ nd)⟩
  refine PySem.W.callWith_K (h₀ := X.base) I.ok.mod.kin kp (thn (ha.run pos pins s σ H _ I h) ?_) st pl
  rintro us s1 ⟨vs, H1, I1, r, g1⟩
  exact ⟨I1.kIn, wpAny_call (run_fnR F room pass I1 r g1)⟩
end
end StK

namespace Pv
open PySem L2 Evl Pm
local macro_rules | `(tactic| walk_at "r1") => `(tactic| first
  | refine ⟨_, rfl, ?_⟩
  | refine ⟨rfl, ?_⟩
  | refine ⟨_, _, rfl, rfl, (show (_ : Prop) from by first | decide | omega | assumption | exact Or.inr ⟨by decide, by decide⟩ | exact Or.inl ⟨by omega, by omega⟩ | exact ⟨by decide, by decide, by decide⟩ | exact ⟨by decide, by decide⟩ | exact wide_div (b := 60) (by omega) (by omega) (by decide) (by decide)), ?_⟩
  | refine ⟨_, _, rfl, rfl, ?_⟩
  | refine ⟨_, _, _, _, rfl, rfl, (show (_ : Prop) from by first | exact SqL.of (by assumption) | exact SqL.of upd_same | assumption | exact upd_same), rfl, ?_⟩
  | refine Or.inl ⟨_, rfl, ?_⟩)
local macro_rules | `(tactic| walk_at "ex") => `(tactic| first | exact Ex.refl _ | assumption | (refine ex_new ?_ (by assumption); walk_at "ex"))
local macro_rules | `(tactic| walk_at "r") => `(tactic| repeat (walk_at "r1"))

section
variable {P : Program} {w : World} {K : PySem.W.Frag} {mg : Str → Option Value} {base : Heap} {A : Ad}
theorem ok_Busy (T : Txt K mg A)   : Okd P w K mg base CX0 1 A.i_Busy P_Busy (spInit A.Busy "record") := by
  obtain ⟨fd, F⟩ := T.f_Busy.fn

  refine ⟨fd, F.ok sc_Busy (fun vs H Q E h => ?_) (fun cdv A' outer s H vs Q E hr h => ?_), F.binds fun _ _ _ _ _ _ us hl => match us, hl with | [_, _], _ => rfl⟩
  · obtain ⟨a, v, rfl, _⟩ := h
    rfl
  · obtain ⟨a, v, rfl, ha, k⟩ := h
    refine ⟨_, (pss_one (ps_ost (pv 0) (pv 1))), ?_⟩
    exact ⟨_, rfl, _, rfl, a, A.Busy, rfl, T.e_Busy.oex, T.f_Busy.nf, Or.inl ⟨ha, fun dx hdx ne => k dx hdx ne⟩⟩

end

section
variable {P : Program} {w : World} {K : PySem.W.Frag} {mg : Str → Option Value} {base : Heap} {A : Ad}
theorem ok_m_add (T : Txt K mg A)  (g_m_records : Okd P w K mg base CX0 1 A.m_records P_m_records (spRec A)) (g_Busy : Okd P w K mg base CX0 1 A.i_Busy P_Busy (spInit A.Busy "record")) (g_written : Okd P w K mg base CX0 1 A.written P_written spWr) (g_m_init : Okd P w K mg base (L2N.CX P w) 6 A.m_init P_m_init (spUi A)) : Okd P w K mg base (L2N.CX P w) 8 A.m_add P_m_add (spAdd A) := by
  obtain ⟨fd, F⟩ := T.d_m_add
  obtain ⟨fd_m_records, G_m_records, b_m_records⟩ := g_m_records
  obtain ⟨fd_Busy, G_Busy, b_Busy⟩ := g_Busy
  obtain ⟨fd_written, G_written, b_written⟩ := g_written
  obtain ⟨fd_m_init, G_m_init, b_m_init⟩ := g_m_init
  refine ⟨fd, F.okN sc_m_add (fun vs H Q E h => ?_) (fun cdv A' outer s H vs Q E hr h => ?_), F.binds fun _ _ _ _ _ _ us hl => match us, hl with | [_, _], _ => rfl⟩
  · obtain ⟨u, t, a, b, rfl, _⟩ := h
    rfl
  · obtain ⟨u, t, a, b, rfl, hu, ht, ga, gb, k, kz⟩ := h
    refine ⟨_, (pss_cons (ps_if (pt_not (pt_val (pe_callB call_isi (by rfl) T.n_isinstance (by decide +kernel) (pa_cons (pv 1) (pa_cons (pe_glob (v := .ref A.Update) rfl T.g_Update rfl) pa_nil))))) (pss_one (ps_ret OwI.pe_never)) pss_nil)
      (pss_cons (ps_if (pt_cmpR (op_neD hr.units) (pe_fld (pv 0) rfl) (pe_fld (pv 1) rfl) (nomark _)) (pss_one (L2N.ps_raise rfl (L2N.takes_of rfl rfl rfl rfl) (L2N.pmk_own0N PySem.F.excBase_ValueError T.q_InvalidUpdate T.e_InvalidUpdate.g T.e_InvalidUpdate.k (raises_own T.e_InvalidUpdate.sub T.e_InvalidUpdate.ty) rfl))) pss_nil)
      (pss_cons (ps_set (i := 2) sc_m_add.nd rfl (Or.inl rfl) (pe_prop (pv 1) T.cR T.pp_records G_m_records (hr.mono (by decide)) b_m_records .nil pass0 rfl))
      (pss_cons (ps_for (passes_of rfl) rfl (pi_list (pe_prop (pv 0) T.cR T.pp_records G_m_records (hr.mono (by decide)) b_m_records .nil pass0 rfl)) (pg_name (i := 3) sc_m_add.nd rfl (Or.inl rfl)) (pss_one (ps_if (pt_cmpR op_in_seq (pv 3) (pv 2) (by with_unfolding_all rfl)) (pss_one (L2N.ps_raise rfl (L2N.takes_of rfl rfl rfl rfl) (L2N.pmk_oexN T.e_Busy.oex T.f_Busy.i T.f_Busy.t G_Busy (hr.mono (by decide)) b_Busy pass0 rfl T.e_Busy.g (pa_cons (pv 3) pa_nil)))) pss_nil)))
      (pss_one (ps_ret (DaS.pe_makeP T.mkR G_m_init (hr.mono (by decide)) (by rfl) T.g_Update b_m_init (fun σ => L2N.passAt (L2N.takes_of rfl rfl rfl rfl) σ) (pa_cons (pe_fld (pv 0) rfl) (pa_cons (pe_call G_written (hr.mono (by decide)) (by rfl) T.g_written T.k_written b_written .nil pass0 (pa_cons (pe_fld (pv 0) rfl) (pa_cons (pe_fld (pv 1) rfl) (pa_cons (pv 2) pa_nil)))) pa_nil))))))))), ?_⟩
    obtain ⟨dx, p, q, h1, hp, hq, np, nq⟩ := id hu
    obtain ⟨dx2, p2, q2, h2, hp2, hq2, np2, nq2⟩ := id ht
    have la := ga.l64
    have lb := gb.l64
    refine ⟨_, rfl, _, _, _, _, true, rfl, ClsV.own _, TyX.base (TyOf.ins h2 T.cR T.cc T.cn T.ct T.co), kit_self, ?_⟩
    refine ⟨_, rfl, iteF ?_⟩
    refine ⟨_, rfl, u, _, dx, _, _, rfl, h1, T.cR, T.nc_before, rfl, _, rfl, t, _, dx2, _, _, rfl, h2, T.cR, T.nc_before, rfl, dN a.1, dN b.1, dp_N hp, dp_N hp2, (lay_N _).shaped (by decide), (lay_N _).shaped (by decide), ?_⟩
    rw [eqv_N]
    refine ⟨_, rfl, ?_⟩
    by_cases e : a.1 = b.1
    rotate_left
    · rw [decide_eq_false e]
      refine iteT ?_
      exact kz.1 (by unfold sumF; rw [if_neg e]) H (Ex.refl H)
    rw [decide_eq_true e]
    refine iteF ?_
    refine ⟨_, rfl, t, dx2, _, rfl, h2, t, b.1, b.2, rfl, ht, gb.len, by omega, fun r H1 hr1 e1 g1 => ?_⟩
    refine ⟨_, rfl, u, dx, _, rfl, e1 _ _ h1, u, a.1, a.2, rfl, hu.ex e1, ga.len, by omega, fun r2 H2 hr2 e2 g2 => ?_⟩
    refine ⟨r2, rfl, ⟨_, SqL.of g2⟩, for_list (K := K) (a := r2) (xs := nI (recsF a.1 a.2)) (fun i σ G => ∃ v3 : Option V, σ = [some (.ref u), some (.ref t), some (.ref r), v3] ∧ Ex H2 G ∧ ∀ y ∈ (recsF a.1 a.2).take i, y ∉ recsF b.1 b.2) ⟨none, rfl, Ex.refl H2, fun y hy => by cases hy⟩ (fun i σ G _ ⟨_, _, e3, _⟩ => SqL.of (e3 _ _ g2)) ?_ ?_⟩
    · rintro i x σ G hx ⟨v3, rfl, e3, no⟩
      obtain ⟨il, rfl⟩ := nat_at hx
      have rl := recs_len (ys := b.1) (zs := b.2)
      refine ⟨_, rfl, _, rfl, r, _, rfl, .inl (SqL.of (e3 _ _ (e2 _ _ g1))), rfl, flat_nI _, ?_⟩
      refine ⟨_, rfl, ?_⟩
      rw [inV_nI]
      by_cases c : (recsF b.1 b.2).contains ((recsF a.1 a.2).getD i 0) = true
      · rw [c]
        refine iteT ?_
        have fb := first_busy e il no (List.contains_iff_mem.mp c)
        exact ⟨_, rfl, (by show 1 ≤ 1000; decide), mkO_go fun d H5 e5 g5 => kz.2 _ (by unfold sumF; rw [if_pos e, fb]) d H5 ((e1.trans e2).trans (e3.trans e5)) g5⟩
      · rw [Bool.eq_false_iff.mpr c]
        refine iteF ⟨_, rfl, e3, fun y hy => ?_⟩
        rw [take_succ il] at hy
        rcases List.mem_append.mp hy with hy | hy
        · exact no y hy
        · rw [List.mem_singleton.mp hy]
          exact fun z => c (List.contains_iff_mem.mpr z)
    · rintro σ G ⟨v3, rfl, e3, no⟩
      rw [nI_len, List.take_length] at no
      have fb := no_busy e no
      have e03 := (e1.trans e2).trans e3
      refine ⟨_, rfl, u, _, dx, _, _, rfl, e03 _ _ h1, T.cR, T.nc_before, rfl, ?_⟩
      refine ⟨_, rfl, u, _, dx, _, _, rfl, e03 _ _ h1, T.cR, T.nc_after, rfl, _, rfl, t, _, dx2, _, _, rfl, e03 _ _ h2, T.cR, T.nc_after, rfl, _, rfl, q, q2, r, a.2, b.2, recsF b.1 b.2, rfl, hq.ex e03, hq2.ex e03, g1.ex (e2.trans e3), by rw [gb.len, ga.len, e], by have := ga.len; omega, fun w2 H4 hw e4 g4 => ?_⟩
      have gs := sum_good ga gb (ys := a.1) (zs := mgF a.1 a.2 b.2 a.1.length) (by unfold sumF; rw [if_pos e, fb])
      rw [wr_mg e ga.len gb.len fb] at g4
      have e05 := e03.trans e4
      refine fun c dx3 hc hdx ne => ?_
      have e6 : Ex H4 (upd (upd H4 dx3 (.own c)) c (.ins A.Update dx3 [])) := fun y o hy => by rw [upd_ne (ne_of_none hy hc), upd_ne (ne_of_none hy hdx)]; exact hy
      refine ⟨c, p, w2, dx3, toI a.1, toI (mgF a.1 a.2 b.2 a.1.length), rfl, upd_same, ((hp.ex e05).ex e6).int, (g4.ex e6).int, by rw [toI_len]; omega, by rw [toI_len, mgF_len]; omega, fun _ p3 q3 H' hp3 hq3 npq keep g5 g6 g7 => ⟨rfl, k _ _ (by unfold sumF; rw [if_pos e, fb]) c H' (back_none e05 hc) (fun y o hy => keep y o (ne_of_none (e05 _ _ hy) hc) (e6 _ _ (e05 _ _ hy))) ?_⟩, fun f hf => by rw [good_fault gs] at hf; cases hf⟩
      rw [toI_nat] at g6 g7
      exact ⟨dx3, p3, q3, g5, g6, g7, (fun z => by rw [z, upd_same] at hp3; cases hp3), (fun z => by rw [z, upd_same] at hq3; cases hq3)⟩

end

section
variable {P : Program} {w : World} {K : PySem.W.Frag} {mg : Str → Option Value} {base : Heap} {A : Ad}
theorem ok_law_sum_of_all (T : Txt K mg A)  (g_law_sum : Okd P w K mg base CX0 1 A.law_sum P_law_sum spSum) : Okd P w K mg base CX0 2 A.law_sum_of_all P_law_sum_of_all spAll := by
  obtain ⟨fd, F⟩ := T.d_law_sum_of_all
  obtain ⟨fd_law_sum, G_law_sum, b_law_sum⟩ := g_law_sum
  refine ⟨fd, F.ok sc_law_sum_of_all (fun vs H Q E h => ?_) (fun cdv A' outer s H vs Q E hr h => ?_), F.binds fun _ _ _ _ _ _ us hl => match us, hl with | [_], _ => rfl⟩
  · obtain ⟨r, rs, rfl, _⟩ := h
    rfl
  · obtain ⟨r, rs, rfl, hr1, gg, l6, k⟩ := h
    refine ⟨_, (pss_cons (ps_if (pt_cmpR op_eq (pe_callB call_len_seq (by rfl) T.n_len PySem.boot_len (pa_cons (pv 0) pa_nil)) pe_int (nomark _)) (pss_one (ps_ret (pe_lst (pa_cons pe_str (pa_cons pe_int (pa_cons (pe_lst pa_nil) (pa_cons (pe_lst pa_nil) pa_nil))))))) pss_nil)
      (pss_cons (ps_set (i := 1) sc_law_sum_of_all.nd rfl (Or.inl rfl) (pe_lst (pa_cons pe_str (pa_cons pe_int (pa_cons (pe_ix ix_list (pe_ix ix_list (pv 0) pe_int (fun _ _ => rfl)) pe_int (fun _ _ => rfl)) (pa_cons (pe_ix ix_list (pe_ix ix_list (pv 0) pe_int (fun _ _ => rfl)) pe_int (fun _ _ => rfl)) pa_nil))))))
      (pss_cons (ps_for PassesOwn.never rfl (pi_list (pe_slice sl_list (pv 0) (po_some pe_int) po_none)) (pg_name (i := 2) sc_law_sum_of_all.nd rfl (Or.inl rfl)) (pss_one (ps_if (pt_cmpR op_eq (pe_ix ix_list (pv 1) pe_int (fun _ _ => rfl)) pe_str (nomark _)) (pss_one (ps_set (i := 1) sc_law_sum_of_all.nd rfl (Or.inl rfl) (pe_call G_law_sum (hr.mono (by decide)) (by rfl) T.g_law_sum T.k_law_sum b_law_sum .nil pass0 (pa_cons (pe_lst (pa_cons (pe_ix ix_list (pv 1) pe_int (fun _ _ => rfl)) (pa_cons (pe_ix ix_list (pv 1) pe_int (fun _ _ => rfl)) pa_nil))) (pa_cons (pv 2) pa_nil))))) pss_nil)))
      (pss_one (ps_ret (pv 1)))))), ?_⟩
    obtain ⟨ps, h1, at_⟩ := hr1
    have at_ : AtL (fun p a => RwAt H p a) ps rs := at_
    have lp : (ps.map V.ref).length = ps.length := List.length_map ..
    have lb := at_.1
    refine ⟨_, rfl, r, _, rfl, .inl (SqL.of h1), rfl, _, rfl, ?_⟩
    match ps, rs, at_, lb with
    | [], [], at_, lb =>
      refine ifT rfl ?_
      exact ⟨(by show 0 ≤ sizeLine; decide), fun x hx => ⟨(by show 0 ≤ sizeLine; decide), fun y hy => ⟨(by show 4 ≤ sizeLine; decide), fun d hd => k d _ (((Ex.new hx).trans (Ex.new hy)).trans (Ex.new hd)) ⟨x, y, by rw [upd_same]; rfl, fun ys zs z => by cases z⟩⟩⟩⟩
    | [], _ :: _, at_, lb => cases lb
    | _ :: _, [], at_, lb => cases lb
    | p0 :: pt, r0 :: rt, at_, lb =>
    obtain ⟨s0, t0, g0, gs0, gt0⟩ := at_.2 0 p0 r0 rfl rfl
    refine ifF (decide_eq_false (fun z => by injection z with z; rw [lp] at z; have z : ((pt.length + 1 : Nat) : Int) = 0 := z; omega)) ?_
    refine ⟨_, rfl, r, _, _, _, rfl, rfl, SqL.of h1, atI_nat (j := 0) rfl, p0, _, _, _, rfl, rfl, SqL.of g0, atI_nat (j := 0) rfl, _, rfl, r, _, _, _, rfl, rfl, SqL.of h1, atI_nat (j := 0) rfl, p0, _, _, _, rfl, rfl, SqL.of g0, atI_nat (j := 1) rfl, (by show 4 ≤ sizeLine; decide), fun d hd => ?_⟩
    have e0 : Ex H (upd H d (.lst [.str "sum", .int 0, .ref s0, .ref t0])) := Ex.new hd
    have gd : DueAt (upd H d (.lst [.str "sum", .int 0, .ref s0, .ref t0])) d (.sm r0.1 r0.2) := ⟨s0, t0, upd_same, fun ys zs z => by cases z; exact ⟨gs0.ex e0, gt0.ex e0⟩⟩
    generalize upd H d (.lst [.str "sum", .int 0, .ref s0, .ref t0]) = H1 at e0 gd ⊢
    refine ⟨_, rfl, _, rfl, r, _, rfl, SqL.of (e0 _ _ h1), fun l1 hl1 => ?_⟩
    have cutA : cutV ((p0 :: pt).map V.ref) (some (1 : Int)) none = pt.map V.ref := by
      unfold cutV
      rw [show HT.sIx ((p0 :: pt).map V.ref).length 0 (some (1 : Int)) = min 1 ((p0 :: pt).map V.ref).length from HT.sIx_nat _ _ 1, show HT.sIx ((p0 :: pt).map V.ref).length ((p0 :: pt).map V.ref).length none = ((p0 :: pt).map V.ref).length from rfl]
      rw [Nat.min_eq_left (by show 1 ≤ (pt.map V.ref).length + 1; omega)]
      exact List.take_of_length_le (Nat.le_refl _)
    rw [cutA]
    have e1 := Ex.new (o := .lst (pt.map V.ref)) hl1
    have g1 : upd H1 l1 (.lst (pt.map V.ref)) l1 = some (.lst (pt.map V.ref)) := upd_same
    generalize upd H1 l1 (.lst (pt.map V.ref)) = H2 at e1 g1 ⊢
    have e01 := e0.trans e1
    refine ⟨l1, rfl, ⟨_, SqL.of g1⟩, for_list (K := K) (a := l1) (xs := pt.map V.ref) (fun i σ G => ∃ (v2 : Option V) (d : Addr), σ = [some (.ref r), some (.ref d), v2] ∧ Ex H2 G ∧ DueAt G d ((rt.take i).foldl stepF (.sm r0.1 r0.2)) ∧ ∀ ys zs, (rt.take i).foldl stepF (.sm r0.1 r0.2) = .sm ys zs → GoodP (ys, zs)) ⟨none, d, rfl, Ex.refl H2, gd.ex e1, fun ys zs z => by cases z; exact gg r0 List.mem_cons_self⟩ (fun i σ G _ ⟨_, _, _, e, _⟩ => SqL.of (e _ _ g1)) ?_ ?_⟩
    · rintro i x σ G hx ⟨v2, d, rfl, e2, gd, go⟩
      obtain ⟨pi, hpi, rfl⟩ := ref_at hx
      have il : i < rt.length := by
        have q1 := (List.getElem?_eq_some_iff.mp hpi).1
        have q2 : pt.length + 1 = rt.length + 1 := lb
        omega
      have hri : rt[i]? = some rt[i] := List.getElem?_eq_getElem il
      have gi := gg _ (List.mem_cons_of_mem r0 (List.getElem_mem il))
      generalize rt[i] = ri at hri gi
      have gr := (at_.2 (i + 1) pi ri (by rw [List.getElem?_cons_succ]; exact hpi) (by rw [List.getElem?_cons_succ]; exact hri)).ex (e01.trans e2)
      have tk : (rt.take (i + 1)).foldl stepF (.sm r0.1 r0.2) = stepF ((rt.take i).foldl stepF (.sm r0.1 r0.2)) ri := by
        rw [List.take_add_one, hri, List.foldl_append]
        rfl
      rw [tk]
      generalize (rt.take i).foldl stepF (.sm r0.1 r0.2) = o at gd go ⊢
      obtain ⟨x, y, h2, h3⟩ := gd
      refine ⟨_, rfl, d, _, _, _, rfl, rfl, SqL.of h2, atI_nat (j := 0) rfl, rfl, _, rfl, ?_⟩
      cases o with
      | df =>
        refine ifF wd_sum_df ?_
        exact ⟨_, d, rfl, e2, ⟨x, y, h2, h3⟩, fun ys zs z => by cases z⟩
      | bz n =>
        refine ifF wd_sum_bz ?_
        exact ⟨_, d, rfl, e2, ⟨x, y, h2, h3⟩, fun ys zs z => by cases z⟩
      | sm ys zs =>
        refine ifT wd_sum_sm ?_
        obtain ⟨g2, g3⟩ := h3 ys zs rfl
        refine ⟨_, rfl, d, _, _, _, rfl, rfl, SqL.of h2, atI_nat (j := 2) rfl, _, rfl, d, _, _, _, rfl, rfl, SqL.of h2, atI_nat (j := 3) rfl, (by show 2 ≤ sizeLine; decide), fun l hl => ?_⟩
        have e3 := Ex.new (o := .lst [.ref x, .ref y]) hl
        refine ⟨_, rfl, l, pi, (ys, zs), ri, rfl, ⟨x, y, upd_same, g2.ex e3, g3.ex e3⟩, gr.ex e3, go ys zs rfl, gi, fun d2 H4 e4 gd2 => ?_⟩
        exact ⟨_, d2, rfl, e2.trans (e3.trans e4), gd2, fun y2 z2 z => sum_good (go ys zs rfl) gi z⟩
    · rintro σ G ⟨v2, d, rfl, e2, gd, go⟩
      have q2 : pt.length + 1 = rt.length + 1 := lb
      rw [List.length_map, show pt.length = rt.length from by omega, List.take_length] at gd
      exact ⟨_, rfl, k d G (e01.trans e2) gd⟩

end

section
variable {P : Program} {w : World} {K : PySem.W.Frag} {mg : Str → Option Value} {base : Heap} {A : Ad}
theorem ok_law_answer (T : Txt K mg A)   : Okd P w K mg base CX0 1 A.law_answer P_law_answer spAns := by
  obtain ⟨fd, F⟩ := T.d_law_answer

  refine ⟨fd, F.ok sc_law_answer (fun vs H Q E h => ?_) (fun cdv A' outer s H vs Q E hr h => ?_), F.binds fun _ _ _ _ _ _ us hl => match us, hl with | [_, _], _ => rfl⟩
  · obtain ⟨x, y, rfl, _⟩ := h
    rfl
  · obtain ⟨x, y, rfl, k⟩ := h
    refine ⟨_, (pss_one (ps_ret (pe_and (pe_callB call_isi (by rfl) T.n_isinstance (by decide +kernel) (pa_cons (pv 0) (pa_cons (pe_bltn (v := .ty "bool") (u := .type "bool") (by rfl) T.n_bool (by decide +kernel) rfl) pa_nil))) (pe_one (pe_cmpR op_eq (pv 0) (pv 1) (nomark _)))))), ?_⟩
    refine ⟨_, rfl, _, _, _, _, true, rfl, ClsV.ty "bool", TyX.base (TyOf.bl _), kit_ty (by decide +kernel), ?_⟩
    refine ⟨true, rfl, ?_⟩
    refine iteT ?_
    exact ⟨_, rfl, _, rfl, rfl, by rw [dec_bls]; exact k⟩

end

section
variable {P : Program} {w : World} {K : PySem.W.Frag} {mg : Str → Option Value} {base : Heap} {A : Ad}
theorem ok_law_blocks (T : Txt K mg A)   : Okd P w K mg base CX0 1 A.law_blocks P_law_blocks spBk := by
  obtain ⟨fd, F⟩ := T.d_law_blocks

  refine ⟨fd, F.ok sc_law_blocks (fun vs H Q E h => ?_) (fun cdv A' outer s H vs Q E hr h => ?_), F.binds fun _ _ _ _ _ _ us hl => match us, hl with | [_], _ => rfl⟩
  · obtain ⟨p, ys, rfl, _⟩ := h
    rfl
  · obtain ⟨p, ys, rfl, hp, sy, l64, k⟩ := h
    refine ⟨_, (pss_cons (ps_set (i := 1) sc_law_blocks.nd rfl (Or.inl rfl) (pe_lst pa_nil))
      (pss_cons (ps_for PassesOwn.never rfl (pi_range1 (by rfl) T.n_range (pa_cons (pe_callB call_len_seq (by rfl) T.n_len PySem.boot_len (pa_cons (pv 0) pa_nil)) pa_nil)) (pg_name (i := 2) sc_law_blocks.nd rfl (Or.inl rfl)) (pss_one (ps_if (pt_cmpR op_eq (pe_ix ix_list (pv 0) (pv 2) (fun _ _ => rfl)) (pv 2) (nomark _)) (pss_one (ps_expr (pe_bm PySem.F.plainAttrs_list PySem.F.slot_list_append PySem.F.type_list_append mt_append (pv 1) (pa_cons (pe_lst (pa_cons (pv 2) pa_nil)) pa_nil)))) (pss_one (ps_if (pt_cmpR op_gt (pe_ix ix_list (pv 0) (pv 2) (fun _ _ => rfl)) (pv 2) (nomark _)) (pss_one (ps_expr (pe_bm PySem.F.plainAttrs_list PySem.F.slot_list_append PySem.F.type_list_append mt_append (pv 1) (pa_cons (pe_lst (pa_cons (pv 2) (pa_cons (pe_ix ix_list (pv 0) (pv 2) (fun _ _ => rfl)) pa_nil))) pa_nil)))) pss_nil)))))
      (pss_one (ps_ret (pv 1))))), ?_⟩
    refine ⟨(by show 0 ≤ sizeLine; decide), fun f hf => ?_⟩
    have e0 := Ex.new (o := .lst []) hf
    have gf : upd H f (.lst []) f = some (.lst []) := upd_same
    generalize upd H f (.lst []) = H1 at e0 gf ⊢
    refine ⟨_, rfl, p, _, rfl, .inl (hp.ex e0).sz, _, rfl, by rw [nI_len]; omega, by rw [nI_len]; omega, ?_⟩
    rw [nI_len, Int.toNat_natCast]
    refine for_range (lo := 0) (n := ys.length) (fun i σ G => ∃ (v2 : Option V) (ps : List Addr) (bs : List (List Nat)), σ = [some (.ref p), some (.ref f), v2] ∧ G f = some (.lst (ps.map V.ref)) ∧ (∀ x o, x ≠ f → H1 x = some o → G x = some o) ∧ AtL (fun a b => a ≠ f ∧ H a = none ∧ ListN G a b) ps bs ∧ BkOk ys bs i)
      ⟨none, [], [], rfl, gf, fun x o _ h => h, AtL.nil, ⟨Nat.le_refl _, (fun b h => by cases h), List.nodup_nil, (fun x h => by cases h)⟩⟩ ?_ ?_
    · rintro i σ G hi ⟨v2, ps, bs, rfl, gf, kp, at_, bo⟩
      have nfp : p ≠ f := ne_of_none hp hf
      have hpG : ListN G p ys := kp _ _ nfp (hp.ex e0)
      rw [Int.zero_add]
      refine ⟨_, rfl, _, rfl, p, _, _, _, rfl, rfl, hpG.sz, atN hi, _, rfl, rfl, _, rfl, ?_⟩
      rw [dec_ints]
      by_cases c : gt ys i = i
      · refine ifT (decide_eq_true c) ?_
        refine ⟨_, rfl, .inl ⟨rfl, _, SqL.of gf⟩, _, rfl, (by show 1 ≤ sizeLine; decide), fun e he => ?_⟩
        have nef : f ≠ e := ne_of_none gf he
        have npe : p ≠ e := ne_of_none hpG he
        refine ⟨f, ps.map V.ref, _, rfl, rfl, (by rw [upd_ne nef]; exact gf), small1000 (by rw [List.length_map, at_.1]; have := bo.len; omega), ?_⟩
        refine ⟨_, ps ++ [e], bs ++ [[i]], rfl, by rw [upd_same, List.map_append]; rfl, fun x o n h => by rw [upd_ne n, upd_ne (ne_of_none (kp x o n h) he)]; exact kp x o n h, ?_, bo.one hi c⟩
        refine AtL.snoc (at_.mono fun a b h => ⟨h.1, h.2.1, ?_⟩) ⟨nef.symm, ?_, ?_⟩
        · show upd _ f _ a = _
          rw [upd_ne h.1, upd_ne (ne_of_none h.2.2 he)]
          exact h.2.2
        · cases q : H e with
          | none => rfl
          | some o =>
            have := kp e o nef.symm (e0 _ _ q)
            rw [he] at this
            cases this
        · show upd _ f _ e = _
          rw [upd_ne nef.symm, upd_same]
          rfl
      refine ifF (decide_eq_false c) ?_
      refine ⟨_, rfl, _, rfl, p, _, _, _, rfl, rfl, hpG.sz, atN hi, _, rfl, _, _, rfl, rfl, _, rfl, ?_⟩
      by_cases c2 : i < gt ys i
      · refine ifT (decide_eq_true (by show (i : Int) < ((ys.getD i 0 : Nat) : Int); unfold gt at c2; omega)) ?_
        refine ⟨_, rfl, .inl ⟨rfl, _, SqL.of gf⟩, _, rfl, _, rfl, _, rfl, p, _, _, _, rfl, rfl, hpG.sz, atN hi, (by show 2 ≤ sizeLine; decide), fun e he => ?_⟩
        have nef : f ≠ e := ne_of_none gf he
        have npe : p ≠ e := ne_of_none hpG he
        refine ⟨f, ps.map V.ref, _, rfl, rfl, (by rw [upd_ne nef]; exact gf), small1000 (by rw [List.length_map, at_.1]; have := bo.len; omega), ?_⟩
        refine ⟨_, ps ++ [e], bs ++ [[i, gt ys i]], rfl, by rw [upd_same, List.map_append]; rfl, fun x o n h => by rw [upd_ne n, upd_ne (ne_of_none (kp x o n h) he)]; exact kp x o n h, ?_, bo.two sy hi c2⟩
        refine AtL.snoc (at_.mono fun a b h => ⟨h.1, h.2.1, ?_⟩) ⟨nef.symm, ?_, ?_⟩
        · show upd _ f _ a = _
          rw [upd_ne h.1, upd_ne (ne_of_none h.2.2 he)]
          exact h.2.2
        · cases q : H e with
          | none => rfl
          | some o =>
            have := kp e o nef.symm (e0 _ _ q)
            rw [he] at this
            cases this
        · show upd _ f _ e = _
          rw [upd_ne nef.symm, upd_same]
          rfl
      · refine ifF (decide_eq_false (by show ¬ (i : Int) < ((ys.getD i 0 : Nat) : Int); unfold gt at c2; omega)) ?_
        exact ⟨_, ps, bs, rfl, gf, kp, at_, bo.more⟩
    · rintro σ G ⟨v2, ps, bs, rfl, gf, kp, at_, bo⟩
      exact ⟨_, rfl, k f ps bs G hf (fun x o h => kp x o (ne_of_none h hf) (e0 _ _ h)) gf at_ (by have := bo.len; omega) bo.cl bo.nd⟩

end

section
variable {P : Program} {w : World} {K : PySem.W.Frag} {mg : Str → Option Value} {base : Heap} {A : Ad}
theorem strip_getD_of {xs : List Int} {k : Nat} {z : Int} (h : xs[k]? = some z) : xs.getD k 0 = z := by
  rw [List.getD_eq_getElem?_getD, h]
  rfl
theorem markV_int {xs : List Int} {i : Nat} {y : V} (h : (xs.map V.int)[i]? = some y) : ∃ z, xs[i]? = some z ∧ y = V.int z := by
  rw [List.getElem?_map] at h
  cases e : xs[i]? with
  | none => rw [e] at h; cases h
  | some z =>
    rw [e] at h
    exact ⟨z, rfl, (Option.some.inj h).symm⟩
theorem deq (x y : Nat) : decide (V.int (x : Int) = V.int (y : Int)) = decide (x = y) := by
  by_cases c : x = y
  · rw [c, decide_eq_true rfl, decide_eq_true rfl]
  · rw [decide_eq_false c, decide_eq_false]
    intro h
    injection h with h
    exact c (Int.ofNat.inj h)
theorem dne (x y : Nat) : (!decide (V.int (x : Int) = V.int (y : Int))) = decide (x ≠ y) := by
  rw [deq]
  by_cases c : x = y
  · rw [decide_eq_true c, decide_eq_false (fun h => h c)]
    rfl
  · rw [decide_eq_false c, decide_eq_true c]
    rfl
theorem atLast {l : List Nat} (h : 0 < l.length) : atI (nI l) (-1) = some (V.int ((gt l (l.length - 1) : Nat) : Int)) := by
  have e : l = l.take (l.length - 1) ++ [gt l (l.length - 1)] := by
    have t := take_succ' (l := l) (q := l.length - 1) (by omega)
    rw [show l.length - 1 + 1 = l.length by omega, List.take_length] at t
    exact t
  have g := atI_last (nI (l.take (l.length - 1))) (V.int ((gt l (l.length - 1) : Nat) : Int))
  rw [← nI_app, ← e] at g
  exact g
theorem cutDrop {l : List Nat} {k : Nat} (h : k ≤ l.length) : cutV (nI l) (some (k : Int)) none = nI (l.drop k) := by
  unfold cutV
  rw [HT.sIx_nat, HT.sIx_none, nI_len, Nat.min_eq_left h]
  unfold nI
  rw [← List.map_drop, ← List.map_take, List.take_of_length_le (by rw [List.length_drop]; exact Nat.le_refl _)]
theorem cutTake {l : List Nat} {k : Nat} (h : k ≤ l.length) : cutV (nI l) none (some (k : Int)) = nI (l.take k) := by
  unfold cutV
  rw [HT.sIx_nat, HT.sIx_none, nI_len, Nat.min_eq_left h, Nat.sub_zero]
  unfold nI
  rw [List.drop_zero, List.map_take]
theorem cat_nI {l m : List Nat} : nI l ++ nI m = nI (l ++ m) := (List.map_append ..).symm
theorem rev_nI {l : List Nat} : (nI l).reverse = nI l.reverse := (List.map_reverse ..).symm
theorem tail_nI {l : List Nat} : (nI l).tail = nI l.tail := (List.map_tail ..).symm
theorem nat_in {x : Nat} {xs : List Nat} : inV (V.int (x : Int)) (nI xs) = decide (x ∈ xs) := by
  rw [inV_nI, Bool.eq_iff_iff, decide_eq_true_eq]
  exact List.contains_iff_mem
theorem ok_InvalidImage (T : Txt K mg A)   : Okd P w K mg base CX0 1 A.i_InvalidImage P_InvalidImage (spInit A.InvalidImage "record") := by
  obtain ⟨fd, F⟩ := T.f_InvalidImage.fn

  refine ⟨fd, F.ok sc_InvalidImage (fun vs H Q E h => ?_) (fun cdv A' outer s H vs Q E hr h => ?_), F.binds fun _ _ _ _ _ _ us hl => match us, hl with | [_, _], _ => rfl⟩
  · obtain ⟨a, v, rfl, _⟩ := h
    rfl
  · obtain ⟨a, v, rfl, ha, k⟩ := h
    refine ⟨_, (pss_one (ps_ost (pv 0) (pv 1))), ?_⟩
    exact ⟨_, rfl, _, rfl, a, A.InvalidImage, rfl, T.e_InvalidImage.oex, T.f_InvalidImage.nf, Or.inl ⟨ha, fun dx hdx ne => k dx hdx ne⟩⟩


theorem ok_NotState (T : Txt K mg A)   : Okd P w K mg base CX0 1 A.i_NotState P_NotState (spInit A.NotState "record") := by
  obtain ⟨fd, F⟩ := T.f_NotState.fn

  refine ⟨fd, F.ok sc_NotState (fun vs H Q E h => ?_) (fun cdv A' outer s H vs Q E hr h => ?_), F.binds fun _ _ _ _ _ _ us hl => match us, hl with | [_, _], _ => rfl⟩
  · obtain ⟨a, v, rfl, _⟩ := h
    rfl
  · obtain ⟨a, v, rfl, ha, k⟩ := h
    refine ⟨_, (pss_one (ps_ost (pv 0) (pv 1))), ?_⟩
    exact ⟨_, rfl, _, rfl, a, A.NotState, rfl, T.e_NotState.oex, T.f_NotState.nf, Or.inl ⟨ha, fun dx hdx ne => k dx hdx ne⟩⟩

end

section
variable {P : Program} {w : World} {K : PySem.W.Frag} {mg : Str → Option Value} {base : Heap} {A : Ad}
theorem ok_law_box (T : Txt K mg A)   : Okd P w K mg base CX0 1 A.law_box P_law_box (spBox K) := by
  obtain ⟨fd, F⟩ := T.d_law_box

  refine ⟨fd, F.ok sc_law_box (fun vs H Q E h => ?_) (fun cdv A' outer s H vs Q E hr h => ?_), F.binds fun _ _ _ _ _ _ us hl => match us, hl with | [_], _ => rfl⟩
  · obtain ⟨a, ns, rfl, _⟩ := h
    rfl
  · obtain ⟨a, ns, rfl, hs, hl, k⟩ := h
    refine ⟨_, (pss_cons (ps_set (i := 1) sc_law_box.nd rfl (Or.inl rfl) pe_int)
      (pss_cons (ps_for PassesOwn.never rfl (pi_list (pe_slice sl_list (pv 0) po_none (po_some pe_int))) (pg_name (i := 2) sc_law_box.nd rfl (Or.inl rfl)) (pss_one (ps_set (i := 1) sc_law_box.nd rfl (Or.inl rfl) (pe_op op_mod (pe_callTy call_int1 (by rfl) T.n_int (by decide +kernel) (pa_cons (pe_op op_add (pe_op op_mul (pv 1) pe_int) (pv 2)) pa_nil)) pe_int))))
      (pss_one (ps_ret (pe_lst (pa_cons (pe_callTy call_list_of (by rfl) T.n_list (by decide +kernel) (pa_cons (pe_slice sl_list (pv 0) po_none (po_some pe_int)) pa_nil)) (pa_cons pe_int (pa_cons pe_int (pa_cons pe_int (pa_cons (pv 1) pa_nil)))))))))), ?_⟩
    have cutA : cutV (ns.map V.int) none (some (63 : Int)) = ns.map V.int := by
      unfold cutV
      rw [show HT.sIx (ns.map V.int).length 0 none = 0 from rfl, show HT.sIx (ns.map V.int).length (ns.map V.int).length (some (63 : Int)) = min 63 (ns.map V.int).length from HT.sIx_nat _ _ 63, List.drop_zero, Nat.sub_zero]
      exact List.take_of_length_le (by rw [List.length_map]; omega)
    refine ⟨_, rfl, _, rfl, a, _, rfl, hs, fun l1 hl1 => ?_⟩
    rw [cutA]
    have e1 := Ex.new (o := .lst (ns.map V.int)) hl1
    have h1 : upd H l1 (.lst (ns.map V.int)) l1 = some (.lst (ns.map V.int)) := upd_same
    generalize upd H l1 (.lst (ns.map V.int)) = H1 at e1 h1 ⊢
    refine ⟨l1, rfl, ⟨_, SqL.of h1⟩, for_list (K := K) (a := l1) (xs := ns.map V.int) (fun i σ G => ∃ (v2 : Option V) (sd : Int), σ = [some (.ref a), some (.int sd), v2] ∧ G = H1) ⟨none, 19, rfl, rfl⟩ (fun i σ G _ ⟨_, _, _, e⟩ => by rw [e]; exact SqL.of h1) ?_ ?_⟩
    · rintro i x σ G hx ⟨v2, sd, rfl, rfl⟩
      obtain ⟨z, hz, rfl⟩ := markV_int hx
      walk_at "r"
      exact ⟨_, _, rfl, rfl⟩
    rintro σ G ⟨v2, sd, rfl, rfl⟩
    refine ⟨_, rfl, _, rfl, a, _, rfl, sqL_ex e1 hs, fun l2 hl2 => ?_⟩
    rw [cutA]
    have e2 := Ex.new (o := .lst (ns.map V.int)) hl2
    have h2 : upd G l2 (.lst (ns.map V.int)) l2 = some (.lst (ns.map V.int)) := upd_same
    generalize upd G l2 (.lst (ns.map V.int)) = H2 at e2 h2 ⊢
    refine ⟨l2, _, rfl, Or.inl (SqL.of h2), fun c hc => ?_⟩
    have e3 := Ex.new (o := .lst (ns.map V.int)) hc
    have h3 : upd H2 c (.lst (ns.map V.int)) c = some (.lst (ns.map V.int)) := upd_same
    generalize upd H2 c (.lst (ns.map V.int)) = H3 at e3 h3 ⊢
    refine ⟨_, rfl, (by show 5 ≤ sizeLine; decide), fun b hb => ?_⟩
    have e4 := Ex.new (o := .lst [V.ref c, V.int 0, V.int 0, V.int 0, V.int sd]) hb
    have e13 := (e1.trans e2).trans e3
    exact k b c _ (back_none e13 hb) (back_none (e1.trans e2) hc) (e13.trans e4) ⟨ns, 0, 0, 0, sd, upd_same, e4 _ _ h3, by decide, by decide⟩


end

section
variable {P : Program} {w : World} {K : PySem.W.Frag} {mg : Str → Option Value} {base : Heap} {A : Ad}
theorem ok_check_image (T : Txt K mg A)  (g_InvalidImage : Okd P w K mg base CX0 1 A.i_InvalidImage P_InvalidImage (spInit A.InvalidImage "record")) : Okd P w K mg base (L2N.CX P w) 3 A.check_image P_check_image (spCI A) := by
  obtain ⟨fd, F⟩ := T.d_check_image
  obtain ⟨fd_InvalidImage, G_InvalidImage, b_InvalidImage⟩ := g_InvalidImage
  refine ⟨fd, F.okN sc_check_image (fun vs H Q E h => ?_) (fun cdv A' outer s H vs Q E hr h => ?_), F.binds fun _ _ _ _ _ _ us hl => match us, hl with | [_], _ => rfl⟩
  · obtain ⟨a, xs, rfl, _⟩ := h
    rfl
  · obtain ⟨a, xs, rfl, hx, hl, kq, kr⟩ := h
    refine ⟨_, (pss_cons (ps_set (i := 1) sc_check_image.nd rfl (Or.inl rfl) (pe_callB call_len_seq (by rfl) T.n_len PySem.boot_len (pa_cons (pv 0) pa_nil)))
      (pss_one (ps_for (passes_of rfl) rfl (pi_enum (by rfl) T.n_enumerate (pa_cons (pv 0) pa_nil)) (pg_tup (by rfl) (pgs_cons (pg_name (i := 2) sc_check_image.nd rfl (Or.inl rfl)) (pgs_cons (pg_name (i := 3) sc_check_image.nd rfl (Or.inl rfl)) pgs_nil))) (pss_one (ps_if (PW.pt (pw_or (pt_cmpR op_lt (pv 3) pe_int (nomark _)) (pw_or1 (pt_cmpR op_ge (pv 3) (pv 1) (nomark _))))) (pss_one (L2N.ps_raise rfl (L2N.takes_of rfl rfl rfl rfl) (L2N.pmk_oexN T.e_InvalidImage.oex T.f_InvalidImage.i T.f_InvalidImage.t G_InvalidImage (hr.mono (by decide)) b_InvalidImage pass0 rfl T.e_InvalidImage.g (pa_cons (pv 2) pa_nil)))) pss_nil))))), ?_⟩
    refine ⟨_, rfl, _, _, rfl, Or.inl (SqL.of hx), ?_⟩
    refine ⟨_, rfl, _, _, rfl, SqL.of hx, for_it walk_enum (fun i σ H' => ∃ v1 v2 : Option V, σ = [some (.ref a), some (.int ((xs.map V.int).length : Int)), v1, v2] ∧ Ex H H' ∧ ∀ j, j < i → badN xs j = false)
      ⟨none, none, rfl, Ex.refl H, fun j hj => absurd hj (Nat.not_lt_zero _)⟩ (fun i σ H' _ ⟨_, _, _, e, _⟩ => SqL.of (e _ _ hx)) ?_ ?_⟩
    · rintro i x σ H' H2 hi ⟨v1, v2, rfl, e, nb⟩ ⟨T0, y1, y2, rfl, hT, rfl, e1, e2⟩
      rw [List.length_map] at hi
      obtain ⟨z, hz, rfl⟩ := markV_int e2
      cases e1
      have hbad : badN xs i = (decide (z < 0) || decide ((xs.length : Int) ≤ z)) := by
        unfold badN
        rw [strip_getD_of hz]
      have raise : badN xs i = true → ∀ d H3, Ex (upd H' T0 (.tup [.int (i : Nat), .int z])) H3 → H3 d = some (.xd [("record", .int (i : Int))]) → E (.ref A.InvalidImage) (some d) H3 := fun hb d H3 ex hd =>
        kr i (firstOf_some hi hb nb) d H3 ((ex_new e hT).trans ex) hd
      refine ⟨T0, _, rfl, SqT.of upd_same, rfl, _, _, rfl, _, _, rfl, rfl, ?_⟩
      walk_at "r"
      refine ite_b (fun c => ?_) (fun c => ?_)
      · exact ⟨_, rfl, (by show 1 ≤ 1000; decide), mkO_go (raise (by rw [hbad, c]; rfl))⟩
      walk_at "r"
      rw [List.length_map]
      refine ite_b (fun c2 => ?_) (fun c2 => ?_)
      · exact ⟨_, rfl, (by show 1 ≤ 1000; decide), mkO_go (raise (by rw [hbad, c2, Bool.or_true]))⟩
      refine ⟨_, _, rfl, ex_new e hT, fun j hj => ?_⟩
      by_cases hji : j = i
      · rw [hji, hbad, c, c2]
        rfl
      · exact nb j (by omega)
    · rintro σ H' ⟨v1, v2, rfl, e, nb⟩
      rw [List.length_map] at nb
      exact kq (firstOf_none nb) H' e

end

section
variable {P : Program} {w : World} {K : PySem.W.Frag} {mg : Str → Option Value} {base : Heap} {A : Ad}
theorem ok_m_contains (T : Txt K mg A)  (g_m_records : Okd P w K mg base CX0 1 A.m_records P_m_records (spRec A)) : Okd P w K mg base CX0 3 A.m_contains P_m_contains (spCon A) := by
  obtain ⟨fd, F⟩ := T.d_m_contains
  obtain ⟨fd_m_records, G_m_records, b_m_records⟩ := g_m_records
  refine ⟨fd, F.ok sc_m_contains (fun vs H Q E h => ?_) (fun cdv A' outer s H vs Q E hr h => ?_), F.binds fun _ _ _ _ _ _ us hl => match us, hl with | [_, _], _ => rfl⟩
  · obtain ⟨u, x, ys, zs, rfl, _⟩ := h
    rfl
  · obtain ⟨u, x, ys, zs, rfl, hu, lz, l65, k⟩ := h
    refine ⟨_, (pss_one (ps_ret (pe_cmpR op_in_seq (pv 1) (pe_prop (pv 0) T.cR T.pp_records G_m_records (hr.mono (by decide)) b_m_records .nil pass0 rfl) (by with_unfolding_all rfl)))), ?_⟩
    obtain ⟨dx, p, q, h1, hp, hq, np, nq⟩ := id hu
    exact ⟨_, rfl, _, rfl, u, dx, _, rfl, h1, u, ys, zs, rfl, hu, lz, l65, fun r H' hr e g => ⟨r, _, rfl, .inl (SqL.of g), rfl, flat_nI _, k H' e⟩⟩

end

section
variable {P : Program} {w : World} {K : PySem.W.Frag} {mg : Str → Option Value} {base : Heap} {A : Ad}
theorem ok_check_state (T : Txt K mg A)  (g_check_image : Okd P w K mg base (L2N.CX P w) 3 A.check_image P_check_image (spCI A)) (g_NotState : Okd P w K mg base CX0 1 A.i_NotState P_NotState (spInit A.NotState "record")) : Okd P w K mg base (L2N.CX P w) 4 A.check_state P_check_state (spCS A) := by
  obtain ⟨fd, F⟩ := T.d_check_state
  obtain ⟨fd_check_image, G_check_image, b_check_image⟩ := g_check_image
  obtain ⟨fd_NotState, G_NotState, b_NotState⟩ := g_NotState
  refine ⟨fd, F.okN sc_check_state (fun vs H Q E h => ?_) (fun cdv A' outer s H vs Q E hr h => ?_), F.binds fun _ _ _ _ _ _ us hl => match us, hl with | [_], _ => rfl⟩
  · obtain ⟨a, xs, rfl, _⟩ := h
    rfl
  · obtain ⟨a, xs, rfl, hx, hl, kq, kr⟩ := h
    refine ⟨_, (pss_cons (ps_expr (pe_callS G_check_image (hr.mono (by decide)) rfl T.g_check_image T.k_check_image b_check_image (fun σ => L2N.passAt (L2N.takes_of rfl rfl rfl rfl) σ) (pa_cons (pv 0) pa_nil)))
      (pss_one (ps_for (passes_of rfl) rfl (pi_enum (by rfl) T.n_enumerate (pa_cons (pv 0) pa_nil)) (pg_tup (by rfl) (pgs_cons (pg_name (i := 1) sc_check_state.nd rfl (Or.inl rfl)) (pgs_cons (pg_name (i := 2) sc_check_state.nd rfl (Or.inl rfl)) pgs_nil))) (pss_one (ps_if (pt_cmpR op_ne (pe_ix ix_list (pv 0) (pv 2) (fun _ _ => rfl)) (pv 1) (nomark _)) (pss_one (L2N.ps_raise rfl (L2N.takes_of rfl rfl rfl rfl) (L2N.pmk_oexN T.e_NotState.oex T.f_NotState.i T.f_NotState.t G_NotState (hr.mono (by decide)) b_NotState pass0 rfl T.e_NotState.g (pa_cons (pv 1) pa_nil)))) pss_nil))))), ?_⟩
    refine ⟨_, rfl, a, xs, rfl, hx, hl, fun h0 H1 e1 => ?_, fun k hk => ?_⟩
    rotate_left
    · have : faultS xs = some (1, k) := by unfold faultS; rw [hk]
      exact fun d H' e' hd => (kr _ this).1 rfl d H' e' hd
    have hx1 := hx.ex e1
    have nx := hx1.nat h0
    have ln : (nI (natI xs)).length = xs.length := by rw [nI_len, natI_len]
    have lm : (xs.map V.int).length = xs.length := List.length_map ..
    refine ⟨_, rfl, _, _, rfl, SqL.of hx1, for_it walk_enum (fun i σ H' => ∃ v1 v2 : Option V, σ = [some (.ref a), v1, v2] ∧ Ex H1 H' ∧ ∀ j, j < i → gt (natI xs) (gt (natI xs) j) = j)
      ⟨none, none, rfl, Ex.refl H1, fun j hj => absurd hj (Nat.not_lt_zero _)⟩ (fun i σ H' _ ⟨_, _, _, e, _⟩ => SqL.of (e _ _ hx1)) ?_ ?_⟩
    · rintro i x σ H' H2 hi ⟨v1, v2, rfl, e, nb⟩ ⟨T0, y1, y2, rfl, hT, rfl, e1', e2⟩
      rw [lm] at hi
      cases e1'
      have hnat := natI_at h0 hi
      have hz : y2 = V.int ((gt (natI xs) i : Nat) : Int) := by
        obtain ⟨z, hz, rfl⟩ := markV_int e2
        rw [← strip_getD_of hz, hnat.1]
        rfl
      subst hz
      have hg : gt (natI xs) i < xs.length := hnat.2
      have nx2 : ListN (upd H' T0 (.tup [.int (i : Nat), .int ((gt (natI xs) i : Nat) : Int)])) a (natI xs) := (nx.ex e).ex (Ex.new hT)
      refine ⟨T0, _, rfl, SqT.of upd_same, rfl, _, _, rfl, _, _, rfl, rfl, ?_⟩
      refine ⟨_, rfl, _, rfl, a, _, _, _, rfl, rfl, nx2.sz, atN (by rw [natI_len]; exact hg), _, rfl, rfl, _, rfl, ?_⟩
      have dd : (!decide (V.int (((natI xs).getD (gt (natI xs) i) 0 : Nat) : Int) = V.int (i : Int))) = decide (gt (natI xs) (gt (natI xs) i) ≠ i) := by
        by_cases c : gt (natI xs) (gt (natI xs) i) = i
        · have c2 : (natI xs).getD (gt (natI xs) i) 0 = i := c
          rw [c2, decide_eq_true rfl, decide_eq_false (fun h => h c)]
          rfl
        · rw [decide_eq_true c, decide_eq_false]
          · rfl
          · intro h
            injection h with h
            exact c (Int.ofNat.inj h)
      rw [dd]
      refine ite_b (fun c => ?_) (fun c => ?_)
      · have c := of_decide_eq_true c
        have un : unset (natI xs) = some i := firstOf_some (by rw [natI_len]; exact hi) (decide_eq_true c) fun j hj => decide_eq_false fun h => h (nb j hj)
        have fs : faultS xs = some (2, i) := by
          unfold faultS
          rw [h0]
          show (unset (natI xs)).map _ = _
          rw [un]
          rfl
        exact ⟨_, rfl, (by show 1 ≤ 1000; decide), mkO_go fun d H3 ex hd => (kr _ fs).2.1 rfl d H3 ((e1.trans (ex_new e hT)).trans ex) hd⟩
      · have c := Decidable.not_not.mp (of_decide_eq_false c)
        refine ⟨_, _, rfl, ex_new e hT, fun j hj => ?_⟩
        by_cases z : j = i
        · rw [z]
          exact c
        · exact nb j (by omega)
    · rintro σ H' ⟨v1, v2, rfl, e, nb⟩
      rw [lm] at nb
      refine kq ?_ H' (e1.trans e)
      unfold faultS
      rw [h0]
      show (unset (natI xs)).map _ = none
      have un : unset (natI xs) = none := firstOf_none fun j hj => by
        rw [natI_len] at hj
        exact decide_eq_false fun h => h (nb j hj)
      rw [un]
      rfl

end

section
variable {P : Program} {w : World} {K : PySem.W.Frag} {mg : Str → Option Value} {base : Heap} {A : Ad}
theorem ok_check_pair (T : Txt K mg A)  (g_check_state : Okd P w K mg base (L2N.CX P w) 4 A.check_state P_check_state (spCS A)) : Okd P w K mg base (L2N.CX P w) 5 A.check_pair P_check_pair (spCP A) := by
  obtain ⟨fd, F⟩ := T.d_check_pair
  obtain ⟨fd_check_state, G_check_state, b_check_state⟩ := g_check_state
  refine ⟨fd, F.okN sc_check_pair (fun vs H Q E h => ?_) (fun cdv A' outer s H vs Q E hr h => ?_), F.binds fun _ _ _ _ _ _ us hl => match us, hl with | [_, _], _ => rfl⟩
  · obtain ⟨a, b, xs, zs, rfl, _⟩ := h
    rfl
  · obtain ⟨a, b, xs, zs, rfl, hx, hz, hl, hl2, kq, kr⟩ := h
    refine ⟨_, (pss_cons (ps_expr (pe_callS G_check_state (hr.mono (by decide)) rfl T.g_check_state T.k_check_state b_check_state (fun σ => L2N.passAt (L2N.takes_of rfl rfl rfl rfl) σ) (pa_cons (pv 0) pa_nil)))
      (pss_cons (ps_expr (pe_callS G_check_state (hr.mono (by decide)) rfl T.g_check_state T.k_check_state b_check_state (fun σ => L2N.passAt (L2N.takes_of rfl rfl rfl rfl) σ) (pa_cons (pv 1) pa_nil)))
      (pss_one (ps_if (pt_cmpR op_ne (pe_callB call_len_seq (by rfl) T.n_len PySem.boot_len (pa_cons (pv 0) pa_nil)) (pe_callB call_len_seq (by rfl) T.n_len PySem.boot_len (pa_cons (pv 1) pa_nil)) (nomark _)) (pss_one (L2N.ps_raise rfl (L2N.takes_of rfl rfl rfl rfl) (L2N.pmk_own0N PySem.F.excBase_ValueError T.q_UnequalSizes T.e_UnequalSizes.g T.e_UnequalSizes.k (raises_own T.e_UnequalSizes.sub T.e_UnequalSizes.ty) rfl))) pss_nil)))), ?_⟩
    refine ⟨_, rfl, a, xs, rfl, hx, hl, fun f1 H1 e1 => ?_, fun f hf => kr f (by unfold faultF; rw [hf])⟩
    refine ⟨_, rfl, b, zs, rfl, hz.ex e1, hl2, fun f2 H2 e2 => ?_, fun f hf => (kr f (by unfold faultF; rw [f1]; simp only [hf])).mono e1⟩
    have e12 := e1.trans e2
    refine ⟨_, rfl, _, _, rfl, Or.inl (SqL.of (hx.ex e12)), _, rfl, _, _, rfl, Or.inl (SqL.of (hz.ex e12)), ?_⟩
    have l1 : (xs.map V.int).length = xs.length := List.length_map ..
    have l2 : (zs.map V.int).length = zs.length := List.length_map ..
    rw [l1, l2]
    have ff : faultF xs zs = if xs.length ≠ zs.length then some (3, 0) else none := by
      unfold faultF
      rw [f1]
      simp only [f2]
    refine ⟨rfl, _, rfl, ?_⟩
    by_cases c : xs.length = zs.length
    · rw [c, decide_eq_true rfl]
      refine iteF ?_
      exact kq (by rw [ff, if_neg (fun h => h c)]) _ e12
    · rw [decide_eq_false (fun h => by injection h with h; exact c (Int.ofNat.inj h))]
      refine iteT ?_
      exact (kr (3, 0) (by rw [ff, if_pos c])).2.2 rfl _ e12

end

section
variable {P : Program} {w : World} {K : PySem.W.Frag} {mg : Str → Option Value} {base : Heap} {A : Ad}
theorem ok_law_draw (T : Txt K mg A)  (g_law_mix : Okd P w K mg base CX0 1 A.law_mix P_law_mix spMix) : Okd P w K mg base CX0 2 A.law_draw P_law_draw spDw := by
  obtain ⟨fd, F⟩ := T.d_law_draw
  obtain ⟨fd_law_mix, G_law_mix, b_law_mix⟩ := g_law_mix
  refine ⟨fd, F.ok sc_law_draw (fun vs H Q E h => ?_) (fun cdv A' outer s H vs Q E hr h => ?_), F.binds fun _ _ _ _ _ _ us hl => match us, hl with | [_, _], _ => rfl⟩
  · obtain ⟨b, c, n, rfl, _⟩ := h
    rfl
  · obtain ⟨b, c, n, rfl, n0, n1, B, k⟩ := h
    refine ⟨_, (pss_cons (ps_asg (pe_op op_add (pe_ix ix_list (pv 0) pe_int (fun _ _ => rfl)) pe_int) (pg_sub (pv 0) pe_int set_list))
      (pss_cut (ps_if (PW.pt (pw_and (pt_cmpR op_eq (pe_ix ix_list (pv 0) pe_int (fun _ _ => rfl)) pe_int (nomark _)) (pw_and1 (pt_cmpR op_lt (pe_ix ix_list (pv 0) pe_int (fun _ _ => rfl)) (pe_callB call_len_seq (by rfl) T.n_len PySem.boot_len (pa_cons (pe_ix ix_list (pv 0) pe_int (fun _ _ => rfl)) pa_nil)) (nomark _))))) (pss_cons (ps_set (i := 2) sc_law_draw.nd rfl (Or.inl rfl) (pe_ix ix_list (pe_ix ix_list (pv 0) pe_int (fun _ _ => rfl)) (pe_ix ix_list (pv 0) pe_int (fun _ _ => rfl)) (fun _ _ => rfl)))
      (pss_cons (ps_asg (pe_op op_add (pe_ix ix_list (pv 0) pe_int (fun _ _ => rfl)) pe_int) (pg_sub (pv 0) pe_int set_list))
      (pss_cons (ps_if (pt_cmpR op_lt (pe_callB call_abs (by rfl) T.n_abs (by decide +kernel) (pa_cons (pv 2) pa_nil)) (pe_op op_pow pe_int pe_int) (nomark _)) (pss_one (ps_ret (pe_op op_mod (pe_callTy call_int1 (by rfl) T.n_int (by decide +kernel) (pa_cons (pe_call G_law_mix (hr.mono (by decide)) (by rfl) T.g_law_mix T.k_law_mix b_law_mix .nil pass0 (pa_cons (pv 2) (pa_cons (pe_ix ix_list (pv 0) pe_int (fun _ _ => rfl)) pa_nil))) pa_nil)) (pv 1)))) pss_nil)
      (pss_one (ps_asg (pe_callB call_abs (by rfl) T.n_abs (by decide +kernel) (pa_cons (pv 2) pa_nil)) (pg_sub (pv 0) pe_int set_list)))))) pss_nil)
      (pss_cons (ps_if (pt_cmpR op_gt (pe_ix ix_list (pv 0) pe_int (fun _ _ => rfl)) pe_int (nomark _)) (pss_cons (ps_set (i := 3) sc_law_draw.nd rfl (Or.inl rfl) (pe_ix ix_list (pv 0) pe_int (fun _ _ => rfl)))
      (pss_cons (ps_asg (pe_op op_fdivW (pv 3) (pv 1)) (pg_sub (pv 0) pe_int set_list))
      (pss_one (ps_ret (pe_op op_mod (pe_callTy call_int1 (by rfl) T.n_int (by decide +kernel) (pa_cons (pv 3) pa_nil)) (pv 1)))))) pss_nil)
      (pss_one (ps_ret (pe_op op_mod (pe_callTy call_int1 (by rfl) T.n_int (by decide +kernel) (pa_cons (pe_call G_law_mix (hr.mono (by decide)) (by rfl) T.g_law_mix T.k_law_mix b_law_mix .nil pass0 (pa_cons (pe_ix ix_list (pv 0) pe_int (fun _ _ => rfl)) (pa_cons (pe_ix ix_list (pv 0) pe_int (fun _ _ => rfl)) pa_nil))) pa_nil)) (pv 1))))))), ?_⟩
    have nbc := B.bc
    have fin : ∀ (z : Int) H', Bx H' b c → Mut b H H' → Q (V.int (z % n)) H' := fun z H' B' M' => by
      obtain ⟨d, hd⟩ := Int.eq_ofNat_of_zero_le (Int.emod_nonneg z (by omega : n ≠ 0))
      have hdl := Int.emod_lt_of_pos z n0
      rw [hd] at hdl ⊢
      exact k d H' hdl B' M'
    obtain ⟨ns, d0, i0, k0, s0, hb, hc, p1, p2⟩ := B
    refine ⟨_, rfl, b, _, _, _, rfl, rfl, SqL.of hb, atI_nat (j := 3) rfl, _, _, rfl, rfl, _, rfl, b, _, _, 3, rfl, rfl, hb, Evl.ixN_nat (j := 3) (by show 3 < 5; decide), ?_⟩
    have hb1 : upd H b (.lst ([V.ref c, V.int d0, V.int i0, V.int k0, V.int s0].set 3 (V.int (k0 + 1)))) b = some (.lst [V.ref c, V.int d0, V.int i0, V.int (k0 + 1), V.int s0]) := upd_same
    have K1 : ∀ x o, x ≠ b → H x = some o → upd H b (.lst ([V.ref c, V.int d0, V.int i0, V.int k0, V.int s0].set 3 (V.int (k0 + 1)))) x = some o := fun x o h1 h => by rw [upd_ne h1]; exact h
    generalize upd H b (.lst ([V.ref c, V.int d0, V.int i0, V.int k0, V.int s0].set 3 (V.int (k0 + 1)))) = H1 at hb1 K1 ⊢
    have hc1 := K1 _ _ (Ne.symm nbc) hc
    refine ⟨fun σ G => ∃ (v2 : Option V) (d i k s : Int), σ = [some (.ref b), some (.int n), v2, none] ∧ G b = some (.lst [.ref c, .int d, .int i, .int k, .int s]) ∧ 0 ≤ d ∧ 0 ≤ i ∧ (∀ x o, x ≠ b → H x = some o → G x = some o), ?_, ?_⟩
    · refine ⟨_, rfl, b, _, _, _, rfl, rfl, SqL.of hb1, atI_nat (j := 1) rfl, rfl, _, rfl, ?_⟩
      have fin0 : ∃ (v2 : Option V) (d i k s : Int), [some (V.ref b), some (V.int n), none, none] = [some (.ref b), some (.int n), v2, none] ∧ H1 b = some (.lst [.ref c, .int d, .int i, .int k, .int s]) ∧ 0 ≤ d ∧ 0 ≤ i ∧ (∀ x o, x ≠ b → H x = some o → H1 x = some o) := ⟨none, d0, i0, k0 + 1, s0, rfl, hb1, p1, p2, K1⟩
      refine ite_b (fun c1 => ?_) (fun _ => fin0)
      refine ⟨_, rfl, b, _, _, _, rfl, rfl, SqL.of hb1, atI_nat (j := 2) rfl, _, rfl, b, _, _, _, rfl, rfl, SqL.of hb1, atI_nat (j := 0) rfl, c, _, rfl, .inl (SqL.of hc1), _, _, rfl, rfl, _, rfl, ?_⟩
      refine ite_b (fun c2 => ?_) (fun _ => fin0)
      have c2 := of_decide_eq_true c2
      rw [List.length_map] at c2
      obtain ⟨i0, rfl⟩ := Int.eq_ofNat_of_zero_le p2
      have il : i0 < ns.length := by omega
      have az : atI (ns.map V.int) ((i0 : Nat) : Int) = some (V.int (ns[i0])) := atI_nat (by rw [List.getElem?_map, List.getElem?_eq_getElem il]; rfl)
      generalize ns[i0] = cell at az
      refine ⟨_, rfl, b, _, _, _, rfl, rfl, SqL.of hb1, atI_nat (j := 0) rfl, _, rfl, b, _, _, _, rfl, rfl, SqL.of hb1, atI_nat (j := 2) rfl, c, _, _, _, rfl, rfl, SqL.of hc1, az, ?_⟩
      refine ⟨_, rfl, b, _, _, _, rfl, rfl, SqL.of hb1, atI_nat (j := 2) rfl, _, _, rfl, rfl, _, rfl, b, _, _, 2, rfl, rfl, hb1, Evl.ixN_nat (j := 2) (by show 2 < 5; decide), ?_⟩
      have hb2 : upd H1 b (.lst ([V.ref c, V.int d0, V.int (i0 : Int), V.int (k0 + 1), V.int s0].set 2 (V.int ((i0 : Int) + 1)))) b = some (.lst [V.ref c, V.int d0, V.int ((i0 : Int) + 1), V.int (k0 + 1), V.int s0]) := upd_same
      have K2 : ∀ x o, x ≠ b → H x = some o → upd H1 b (.lst ([V.ref c, V.int d0, V.int (i0 : Int), V.int (k0 + 1), V.int s0].set 2 (V.int ((i0 : Int) + 1)))) x = some o := fun x o h1 h => by rw [upd_ne h1]; exact K1 x o h1 h
      generalize upd H1 b (.lst ([V.ref c, V.int d0, V.int (i0 : Int), V.int (k0 + 1), V.int s0].set 2 (V.int ((i0 : Int) + 1)))) = H2 at hb2 K2 ⊢
      refine ⟨_, rfl, _, rfl, _, _, rfl, rfl, ⟨by decide, by decide, by decide⟩, _, _, rfl, rfl, _, rfl, ?_⟩
      refine ite_b (fun c3 => ?_) (fun c3 => ?_)
      · refine ⟨_, rfl, _, rfl, b, _, _, _, rfl, rfl, SqL.of hb2, atI_nat (j := 3) rfl, cell, _, rfl, fun z => ?_⟩
        refine Or.inl ⟨_, rfl, _, rfl, _, _, rfl, rfl, n0, ?_⟩
        exact fin z H2 ⟨ns, d0, (i0 : Int) + 1, k0 + 1, s0, hb2, K2 _ _ (Ne.symm nbc) hc, p1, by omega⟩ K2
      · refine ⟨_, rfl, _, rfl, _, rfl, b, _, _, 1, rfl, rfl, hb2, Evl.ixN_nat (j := 1) (by show 1 < 5; decide), ?_⟩
        refine ⟨_, (if cell < 0 then -cell else cell), (i0 : Int) + 1, k0 + 1, s0, rfl, upd_same, by split <;> omega, by omega, fun x o h1 h => by rw [upd_ne h1]; exact K2 x o h1 h⟩
    rintro σ G ⟨v2, d, i, k1, s, rfl, hG, q1, q2, KG⟩
    have hcG := KG _ _ (Ne.symm nbc) hc
    refine ⟨_, rfl, b, _, _, _, rfl, rfl, SqL.of hG, atI_nat (j := 1) rfl, _, _, rfl, rfl, _, rfl, ?_⟩
    refine ite_b (fun c1 => ?_) (fun c1 => ?_)
    · have c1 := of_decide_eq_true c1
      refine ⟨_, rfl, b, _, _, _, rfl, rfl, SqL.of hG, atI_nat (j := 1) rfl, ?_⟩
      refine ⟨_, rfl, _, rfl, _, _, rfl, rfl, wide_div (b := 60) (by omega) (by omega) (by decide) (by decide), _, rfl, b, _, _, 1, rfl, rfl, hG, Evl.ixN_nat (j := 1) (by show 1 < 5; decide), ?_⟩
      refine ⟨_, rfl, Or.inl ⟨_, rfl, _, rfl, _, _, rfl, rfl, n0, ?_⟩⟩
      have K3 : ∀ x o, x ≠ b → H x = some o → upd G b (.lst ([V.ref c, V.int d, V.int i, V.int k1, V.int s].set 1 (V.int (d / n)))) x = some o := fun x o h1 h => by rw [upd_ne h1]; exact KG x o h1 h
      exact fin d _ ⟨ns, d / n, i, k1, s, upd_same, K3 _ _ (Ne.symm nbc) hc, Int.ediv_nonneg (by omega) (by omega), q2⟩ K3
    · refine ⟨_, rfl, b, _, _, _, rfl, rfl, SqL.of hG, atI_nat (j := 4) rfl, _, rfl, b, _, _, _, rfl, rfl, SqL.of hG, atI_nat (j := 3) rfl, s, k1, rfl, fun z => ?_⟩
      refine Or.inl ⟨_, rfl, _, rfl, _, _, rfl, rfl, n0, ?_⟩
      exact fin z G ⟨ns, d, i, k1, s, hG, hcG, q1, q2⟩ KG

end

section
variable {P : Program} {w : World} {K : PySem.W.Frag} {mg : Str → Option Value} {base : Heap} {A : Ad}
theorem ok_law_equal_kept (T : Txt K mg A)  (g_law_paired : Okd P w K mg base CX0 4 A.law_paired P_law_paired spPd) (g_law_touched : Okd P w K mg base CX0 3 A.law_touched P_law_touched spTch) (g_law_answer : Okd P w K mg base CX0 1 A.law_answer P_law_answer spAns) (g_m_eq : Okd P w K mg base CX0 1 A.m_eq P_m_eq (spEq A)) (g_law_made : Okd P w K mg base CX0 8 A.law_made P_law_made (spMd A)) (g_m_init : Okd P w K mg base (L2N.CX P w) 6 A.m_init P_m_init (spUi A)) : Okd P w K mg base CX0 10 A.law_equal_kept P_law_equal_kept (spEk A) := by
  obtain ⟨fd, F⟩ := T.d_law_equal_kept
  obtain ⟨fd_law_paired, G_law_paired, b_law_paired⟩ := g_law_paired
  obtain ⟨fd_law_touched, G_law_touched, b_law_touched⟩ := g_law_touched
  obtain ⟨fd_law_answer, G_law_answer, b_law_answer⟩ := g_law_answer
  obtain ⟨fd_m_eq, G_m_eq, b_m_eq⟩ := g_m_eq
  obtain ⟨fd_law_made, G_law_made, b_law_made⟩ := g_law_made
  obtain ⟨fd_m_init, G_m_init, b_m_init⟩ := g_m_init
  refine ⟨fd, F.ok sc_law_equal_kept (fun vs H Q E h => ?_) (fun cdv A' outer s H vs Q E hr h => ?_), F.binds fun _ _ _ _ _ _ us hl => match us, hl with | [_, _, _], _ => rfl⟩
  · obtain ⟨b, c, u, p, a, rfl, _⟩ := h
    rfl
  · obtain ⟨b, c, u, p, a, rfl, B, hu, hp, ga, k⟩ := h
    refine ⟨_, (pss_cons (ps_set (i := 3) sc_law_equal_kept.nd rfl (Or.inl rfl) (pe_call G_law_paired (hr.mono (by decide)) (by rfl) T.g_law_paired T.k_law_paired b_law_paired .nil pass0 (pa_cons (pv 0) (pa_cons (pe_ix ix_list (pv 2) pe_int (fun _ _ => rfl)) (pa_cons (pe_call G_law_touched (hr.mono (by decide)) (by rfl) T.g_law_touched T.k_law_touched b_law_touched .nil pass0 (pa_cons (pv 0) (pa_cons (pe_ix ix_list (pv 2) pe_int (fun _ _ => rfl)) (pa_cons pe_int pa_nil)))) pa_nil)))))
      (pss_cons (ps_if (pt_not (pt_val (pe_call G_law_answer (hr.mono (by decide)) (by rfl) T.g_law_answer T.k_law_answer b_law_answer .nil pass0 (pa_cons (pe_cmpR (OwI.op_ownI (fun _ _ => rfl) T.o_eq.1 T.o_eq.2 (raw0 G_m_eq b_m_eq) (hr.mono (by decide)) pass0) (pv 1) (pe_call G_law_made (hr.mono (by decide)) (by rfl) T.g_law_made T.k_law_made b_law_made .nil pass0 (pa_cons (pv 2) pa_nil)) (nomark _)) (pa_cons pe_bl pa_nil))))) (pss_one (ps_ret pe_bl)) pss_nil)
      (pss_cons (ps_if (pt_not (pt_val (pe_call G_law_answer (hr.mono (by decide)) (by rfl) T.g_law_answer T.k_law_answer b_law_answer .nil pass0 (pa_cons (pe_cmpR (OwI.op_ownI (fun _ _ => rfl) T.o_eq.1 T.o_eq.2 (raw0 G_m_eq b_m_eq) (hr.mono (by decide)) pass0) (pv 1) (DaS.pe_makeP T.mkR G_m_init (hr.mono (by decide)) (by rfl) T.g_Update b_m_init (fun σ => L2N.passAt L2N.takes0N σ) (pa_cons (pe_callTy call_list_of (by rfl) T.n_list (by decide +kernel) (pa_cons (pe_ix ix_list (pv 2) pe_int (fun _ _ => rfl)) pa_nil)) (pa_cons (pe_callTy call_list_of (by rfl) T.n_list (by decide +kernel) (pa_cons (pv 3) pa_nil)) pa_nil))) (nomark _)) (pa_cons (pe_cmpR (op_eqD hr.units) (pv 3) (pe_ix ix_list (pv 2) pe_int (fun _ _ => rfl)) (nomark _)) pa_nil))))) (pss_one (ps_ret pe_bl)) pss_nil)
      (pss_cons (ps_if (pt_not (pt_val (pe_call G_law_answer (hr.mono (by decide)) (by rfl) T.g_law_answer T.k_law_answer b_law_answer .nil pass0 (pa_cons (pe_cmpR (OwI.op_ownI (fun _ _ => rfl) T.o_eq.1 T.o_eq.2 (raw0 G_m_eq b_m_eq) (hr.mono (by decide)) pass0) (DaS.pe_makeP T.mkR G_m_init (hr.mono (by decide)) (by rfl) T.g_Update b_m_init (fun σ => L2N.passAt L2N.takes0N σ) (pa_cons (pe_callTy call_list_of (by rfl) T.n_list (by decide +kernel) (pa_cons (pv 3) pa_nil)) (pa_cons (pe_callTy call_list_of (by rfl) T.n_list (by decide +kernel) (pa_cons (pe_ix ix_list (pv 2) pe_int (fun _ _ => rfl)) pa_nil)) pa_nil))) (pv 1) (nomark _)) (pa_cons (pe_cmpR (op_eqD hr.units) (pv 3) (pe_ix ix_list (pv 2) pe_int (fun _ _ => rfl)) (nomark _)) pa_nil))))) (pss_one (ps_ret pe_bl)) pss_nil)
      (pss_one (ps_ret (pe_call G_law_answer (hr.mono (by decide)) (by rfl) T.g_law_answer T.k_law_answer b_law_answer .nil pass0 (pa_cons (pe_cmpR (OwI.op_ownI (fun _ _ => rfl) T.o_eq.1 T.o_eq.2 (raw0 G_m_eq b_m_eq) (hr.mono (by decide)) pass0) (pv 1) (DaS.pe_makeP T.mkR G_m_init (hr.mono (by decide)) (by rfl) T.g_Update b_m_init (fun σ => L2N.passAt L2N.takes0N σ) (pa_cons (pe_callTy call_list_of (by rfl) T.n_list (by decide +kernel) (pa_cons (pe_ix ix_list (pv 2) pe_int (fun _ _ => rfl)) pa_nil)) (pa_cons (pe_callTy call_list_of (by rfl) T.n_list (by decide +kernel) (pa_cons (pe_ix ix_list (pv 2) pe_int (fun _ _ => rfl)) pa_nil)) pa_nil))) (nomark _)) (pa_cons (pe_cmpR (op_eqD hr.units) (pe_ix ix_list (pv 2) pe_int (fun _ _ => rfl)) (pe_ix ix_list (pv 2) pe_int (fun _ _ => rfl)) (nomark _)) pa_nil))))))))), ?_⟩
    obtain ⟨s1, t1, h1, hs1, ht1⟩ := id hp
    have l64 := ga.l64
    have la := ga.len
    refine ⟨_, rfl, _, rfl, p, _, _, _, rfl, rfl, SqL.of h1, atI_nat (j := 1) rfl, _, rfl, _, rfl, p, _, _, _, rfl, rfl, SqL.of h1, atI_nat (j := 1) rfl, b, c, t1, a.2, 4, rfl, B, ht1, ga.b, by omega, fun r1 am H1 hr1 B1 M1 g1 cl => ⟨b, c, t1, r1, a.2, am, rfl, B1, ht1.mut B M1, g1, ga.b, cl, by omega, fun n zs H2 hn B2 M2 gn sn ln => ?_⟩⟩
    have hu2 := (hu.mut B M1).mut B1 M2
    have hp2 := (hp.mut B M1).mut B1 M2
    have M02 := M1.then M2
    refine ⟨_, rfl, _, rfl, p, a, rfl, hp2, ga, fun u3 H3 hu3 e3 g3 => ?_⟩
    replace g3 := g3.at
    obtain ⟨dxl, pl, ql, hl1, _⟩ := id (hu2.ex e3)
    obtain ⟨dxr, pr, qr, hr1, _⟩ := id (g3)
    refine ⟨u, dxl, _, u3, dxr, _, rfl, rfl, hl1, hr1, T.o_nf, u, u3, a.1, a.2, a.1, a.2, rfl, hu2.ex e3, g3, ?_⟩
    refine ⟨_, _, rfl, ?_⟩
    rw [decide_eq_true (show (decide (a.1 = a.1) && decide (a.2 = a.2)) = true from by first | rfl | (simp; done) | (simp; exact eq_comm))]
    refine ⟨_, rfl, iteF ?_⟩
    obtain ⟨s3, t3, h2, hs2, ht2⟩ := hp2.ex e3
    have hu3 := hu2.ex e3
    have gn3 := gn.ex e3
    have B3 := B2.ex e3
    have M3 := M02.ext e3
    clear hp hs1 ht1 h1 hu
    refine ⟨_, rfl, _, rfl, p, _, _, _, rfl, rfl, SqL.of h2, atI_nat (j := 0) rfl, s3, _, rfl, .inl hs2.sz, fun c1 hc1 => ?_⟩
    have f1 := Ex.new (o := .lst (nI a.1)) hc1
    have k1 : ListN (upd H3 c1 (.lst (nI a.1))) c1 a.1 := upd_same
    replace h2 := (f1) _ _ h2
    replace hs2 := hs2.ex (f1)
    replace ht2 := ht2.ex (f1)
    replace hu3 := hu3.ex (f1)
    replace gn3 := gn3.ex (f1)
    replace B3 := B3.ex (f1)
    replace M3 := M3.ext (f1)
    generalize upd H3 c1 (.lst (nI a.1)) = G1 at f1 k1 h2 hs2 ht2 hu3 gn3 B3 M3 ⊢
    refine ⟨_, rfl, n, _, rfl, .inl gn3.sz, fun c2 hc2 => ?_⟩
    have f2 := Ex.new (o := .lst (nI zs)) hc2
    have k2 : ListN (upd G1 c2 (.lst (nI zs))) c2 zs := upd_same
    replace h2 := (f2) _ _ h2
    replace hs2 := hs2.ex (f2)
    replace ht2 := ht2.ex (f2)
    replace hu3 := hu3.ex (f2)
    replace gn3 := gn3.ex (f2)
    replace B3 := B3.ex (f2)
    replace M3 := M3.ext (f2)
    generalize upd G1 c2 (.lst (nI zs)) = G2 at f2 k2 h2 hs2 ht2 hu3 gn3 B3 M3 ⊢
    intro u4 dx4 hu4 hdx4 ne4
    refine up_at hu4 hdx4 ne4 (k1.ex f2) k2 ⟨ga.a, sn, by rw [ln, la], l64⟩ fun H4 e4 g4 => ⟨rfl, ?_⟩
    replace h2 := (e4) _ _ h2
    replace hs2 := hs2.ex (e4)
    replace ht2 := ht2.ex (e4)
    replace hu3 := hu3.ex (e4)
    replace gn3 := gn3.ex (e4)
    replace B3 := B3.ex (e4)
    replace M3 := M3.ext (e4)
    obtain ⟨dxl, pl, ql, hl1, _⟩ := id (hu3)
    obtain ⟨dxr, pr, qr, hr1, _⟩ := id (g4)
    refine ⟨u, dxl, _, u4, dxr, _, rfl, rfl, hl1, hr1, T.o_nf, u, u4, a.1, a.2, a.1, zs, rfl, hu3, g4, ?_⟩
    refine ⟨_, rfl, _, rfl, p, _, _, _, rfl, rfl, SqL.of h2, atI_nat (j := 1) rfl, dN (zs), dN (a.2), dp_N (gn3), dp_N (ht2), (lay_N _).shaped (by decide), (lay_N _).shaped (by decide), ?_⟩
    rw [eqv_N]
    refine ⟨_, _, rfl, ?_⟩
    rw [decide_eq_true (show (decide (a.1 = a.1) && decide (a.2 = zs)) = decide (zs = a.2) from by first | rfl | (simp; done) | (simp; exact eq_comm))]
    refine ⟨_, rfl, iteF ?_⟩
    refine ⟨_, rfl, n, _, rfl, .inl gn3.sz, fun c3 hc3 => ?_⟩
    have f3 := Ex.new (o := .lst (nI zs)) hc3
    have k3 : ListN (upd H4 c3 (.lst (nI zs))) c3 zs := upd_same
    replace h2 := (f3) _ _ h2
    replace hs2 := hs2.ex (f3)
    replace ht2 := ht2.ex (f3)
    replace hu3 := hu3.ex (f3)
    replace gn3 := gn3.ex (f3)
    replace B3 := B3.ex (f3)
    replace M3 := M3.ext (f3)
    generalize upd H4 c3 (.lst (nI zs)) = G3 at f3 k3 h2 hs2 ht2 hu3 gn3 B3 M3 ⊢
    refine ⟨_, rfl, p, _, _, _, rfl, rfl, SqL.of h2, atI_nat (j := 1) rfl, t3, _, rfl, .inl ht2.sz, fun c5 hc5 => ?_⟩
    have f5 := Ex.new (o := .lst (nI a.2)) hc5
    have k5 : ListN (upd G3 c5 (.lst (nI a.2))) c5 a.2 := upd_same
    replace h2 := (f5) _ _ h2
    replace hs2 := hs2.ex (f5)
    replace ht2 := ht2.ex (f5)
    replace hu3 := hu3.ex (f5)
    replace gn3 := gn3.ex (f5)
    replace B3 := B3.ex (f5)
    replace M3 := M3.ext (f5)
    generalize upd G3 c5 (.lst (nI a.2)) = G5 at f5 k5 h2 hs2 ht2 hu3 gn3 B3 M3 ⊢
    intro u6 dx6 hu6 hdx6 ne6
    refine up_at hu6 hdx6 ne6 (k3.ex f5) k5 ⟨sn, ga.b, by rw [ln], by rw [ln, la]; exact l64⟩ fun H6 e6 g6 => ⟨rfl, ?_⟩
    replace h2 := (e6) _ _ h2
    replace hs2 := hs2.ex (e6)
    replace ht2 := ht2.ex (e6)
    replace hu3 := hu3.ex (e6)
    replace gn3 := gn3.ex (e6)
    replace B3 := B3.ex (e6)
    replace M3 := M3.ext (e6)
    refine ⟨_, rfl, ?_⟩
    obtain ⟨dxl, pl, ql, hl1, _⟩ := id (g6)
    obtain ⟨dxr, pr, qr, hr1, _⟩ := id (hu3)
    refine ⟨u6, dxl, _, u, dxr, _, rfl, rfl, hl1, hr1, T.o_nf, u6, u, zs, a.2, a.1, a.2, rfl, g6, hu3, ?_⟩
    refine ⟨_, rfl, _, rfl, p, _, _, _, rfl, rfl, SqL.of h2, atI_nat (j := 0) rfl, dN (zs), dN (a.1), dp_N (gn3), dp_N (hs2), (lay_N _).shaped (by decide), (lay_N _).shaped (by decide), ?_⟩
    rw [eqv_N]
    refine ⟨_, _, rfl, ?_⟩
    rw [decide_eq_true (show (decide (zs = a.1) && decide (a.2 = a.2)) = decide (zs = a.1) from by first | rfl | (simp; done) | (simp; exact eq_comm))]
    refine ⟨_, rfl, iteF ?_⟩
    refine ⟨_, rfl, _, rfl, p, _, _, _, rfl, rfl, SqL.of h2, atI_nat (j := 1) rfl, t3, _, rfl, .inl ht2.sz, fun c7 hc7 => ?_⟩
    have f7 := Ex.new (o := .lst (nI a.2)) hc7
    have k7 : ListN (upd H6 c7 (.lst (nI a.2))) c7 a.2 := upd_same
    replace h2 := (f7) _ _ h2
    replace hs2 := hs2.ex (f7)
    replace ht2 := ht2.ex (f7)
    replace hu3 := hu3.ex (f7)
    replace gn3 := gn3.ex (f7)
    replace B3 := B3.ex (f7)
    replace M3 := M3.ext (f7)
    generalize upd H6 c7 (.lst (nI a.2)) = G7 at f7 k7 h2 hs2 ht2 hu3 gn3 B3 M3 ⊢
    refine ⟨_, rfl, p, _, _, _, rfl, rfl, SqL.of h2, atI_nat (j := 1) rfl, t3, _, rfl, .inl ht2.sz, fun c8 hc8 => ?_⟩
    have f8 := Ex.new (o := .lst (nI a.2)) hc8
    have k8 : ListN (upd G7 c8 (.lst (nI a.2))) c8 a.2 := upd_same
    replace h2 := (f8) _ _ h2
    replace hs2 := hs2.ex (f8)
    replace ht2 := ht2.ex (f8)
    replace hu3 := hu3.ex (f8)
    replace gn3 := gn3.ex (f8)
    replace B3 := B3.ex (f8)
    replace M3 := M3.ext (f8)
    generalize upd G7 c8 (.lst (nI a.2)) = G8 at f8 k8 h2 hs2 ht2 hu3 gn3 B3 M3 ⊢
    intro u9 dx9 hu9 hdx9 ne9
    refine up_at hu9 hdx9 ne9 (k7.ex f8) k8 ⟨ga.b, ga.b, rfl, by rw [la]; exact l64⟩ fun H9 e9 g9 => ⟨rfl, ?_⟩
    replace h2 := (e9) _ _ h2
    replace hs2 := hs2.ex (e9)
    replace ht2 := ht2.ex (e9)
    replace hu3 := hu3.ex (e9)
    replace gn3 := gn3.ex (e9)
    replace B3 := B3.ex (e9)
    replace M3 := M3.ext (e9)
    obtain ⟨dxl, pl, ql, hl1, _⟩ := id (hu3)
    obtain ⟨dxr, pr, qr, hr1, _⟩ := id (g9)
    refine ⟨u, dxl, _, u9, dxr, _, rfl, rfl, hl1, hr1, T.o_nf, u, u9, a.1, a.2, a.2, a.2, rfl, hu3, g9, ?_⟩
    refine ⟨_, rfl, p, _, _, _, rfl, rfl, SqL.of h2, atI_nat (j := 0) rfl, _, rfl, p, _, _, _, rfl, rfl, SqL.of h2, atI_nat (j := 1) rfl, dN (a.1), dN (a.2), dp_N (hs2), dp_N (ht2), (lay_N _).shaped (by decide), (lay_N _).shaped (by decide), ?_⟩
    rw [eqv_N]
    refine ⟨_, _, rfl, ?_⟩
    rw [decide_eq_true (show (decide (a.1 = a.2) && decide (a.2 = a.2)) = decide (a.1 = a.2) from by simp)]
    exact k _ B3 M3

end

section
variable {P : Program} {w : World} {K : PySem.W.Frag} {mg : Str → Option Value} {base : Heap} {A : Ad}
theorem ok_law_entry (T : Txt K mg A)   : Okd P w K mg base CX0 1 A.law_entry P_law_entry spEn := by
  obtain ⟨fd, F⟩ := T.d_law_entry

  refine ⟨fd, F.ok sc_law_entry (fun vs H Q E h => ?_) (fun cdv A' outer s H vs Q E hr h => ?_), F.binds fun _ _ _ _ _ _ us hl => match us, hl with | [_], _ => rfl⟩
  · obtain ⟨a, xs, rfl, _⟩ := h
    rfl
  · obtain ⟨a, xs, rfl, ha, hl, k⟩ := h
    refine ⟨_, (pss_cons (ps_for PassesOwn.never rfl (pi_range1 (by rfl) T.n_range (pa_cons (pe_callB call_len_seq (by rfl) T.n_len PySem.boot_len (pa_cons (pv 0) pa_nil)) pa_nil)) (pg_name (i := 1) sc_law_entry.nd rfl (Or.inl rfl)) (pss_one (ps_if (PW.pt (pw_or (pt_cmpR op_lt (pe_ix ix_list (pv 0) (pv 1) (fun _ _ => rfl)) pe_int (nomark _)) (pw_or1 (pt_cmpR op_ge (pe_ix ix_list (pv 0) (pv 1) (fun _ _ => rfl)) (pe_callB call_len_seq (by rfl) T.n_len PySem.boot_len (pa_cons (pv 0) pa_nil)) (nomark _))))) (pss_one (ps_ret (pv 1))) pss_nil)))
      (pss_one (ps_ret (pe_un un_neg pe_int)))), ?_⟩
    have lm : (xs.map V.int).length = xs.length := List.length_map ..
    refine ⟨_, rfl, a, _, rfl, .inl ha.sz, _, rfl, by rw [lm]; omega, by rw [lm]; omega, ?_⟩
    rw [lm, Int.toNat_natCast]
    refine for_range (lo := 0) (n := xs.length) (fun i σ G => ∃ v1, σ = [some (.ref a), v1] ∧ Ex H G ∧ ∀ j, j < i → badN xs j = false) ⟨none, rfl, Ex.refl H, fun j hj => absurd hj (Nat.not_lt_zero _)⟩ ?_ ?_
    · rintro i σ G hi ⟨v1, rfl, e, nb⟩
      rw [Int.zero_add]
      have ax : atI (xs.map V.int) (i : Int) = some (V.int (xs.getD i 0)) := atI_nat (by
        rw [List.getElem?_map, List.getD_eq_getElem?_getD, List.getElem?_eq_getElem hi]
        rfl)
      have haG := ha.ex e
      have fin : badN xs i = true → Q (.int (i : Int)) G := fun hb => by
        have s : strayI xs = some i := firstOf_some hi hb nb
        have kk := k G e
        rw [s] at kk
        exact kk
      unfold badN at fin
      refine ⟨_, rfl, _, rfl, a, _, _, _, rfl, rfl, haG.sz, ax, _, _, rfl, rfl, _, rfl, ?_⟩
      refine ite_b (fun c => ?_) (fun c => ?_)
      · exact iteT ⟨_, rfl, fin (by rw [c]; rfl)⟩
      refine ⟨_, rfl, _, rfl, a, _, _, _, rfl, rfl, haG.sz, ax, _, rfl, a, _, rfl, .inl haG.sz, _, _, rfl, rfl, _, rfl, ?_⟩
      rw [lm]
      refine ite_b (fun c2 => ?_) (fun c2 => ?_)
      · exact ⟨_, rfl, fin (by rw [c2, Bool.or_true])⟩
      refine ⟨_, rfl, e, fun j hj => ?_⟩
      by_cases z : j = i
      · rw [z]
        unfold badN
        rw [c, c2]
        rfl
      · exact nb j (by omega)
    rintro σ G ⟨v1, rfl, e, nb⟩
    have s : strayI xs = none := firstOf_none nb
    have kk := k G e
    rw [s] at kk
    exact ⟨_, rfl, kk⟩

end

section
variable {P : Program} {w : World} {K : PySem.W.Frag} {mg : Str → Option Value} {base : Heap} {A : Ad}
theorem ok_m_eq (T : Txt K mg A)   : Okd P w K mg base CX0 1 A.m_eq P_m_eq (spEq A) := by
  obtain ⟨fd, F⟩ := T.d_m_eq

  refine ⟨fd, F.ok sc_m_eq (fun vs H Q E h => ?_) (fun cdv A' outer s H vs Q E hr h => ?_), F.binds fun _ _ _ _ _ _ us hl => match us, hl with | [_, _], _ => rfl⟩
  · obtain ⟨u, t, ys, zs, ys2, zs2, rfl, _⟩ := h
    rfl
  · obtain ⟨u, t, ys, zs, ys2, zs2, rfl, hu, ht, k⟩ := h
    refine ⟨_, (pss_one (ps_ret (pe_and (pe_callB call_isi (by rfl) T.n_isinstance (by decide +kernel) (pa_cons (pv 1) (pa_cons (pe_glob (v := .ref A.Update) rfl T.g_Update rfl) pa_nil))) (pe_and (pe_cmpR (op_eqD hr.units) (pe_fld (pv 0) rfl) (pe_fld (pv 1) rfl) (nomark _)) (pe_one (pe_cmpR (op_eqD hr.units) (pe_fld (pv 0) rfl) (pe_fld (pv 1) rfl) (nomark _))))))), ?_⟩
    obtain ⟨dx, p, q, h1, hp, hq, np, nq⟩ := hu
    obtain ⟨dx2, p2, q2, h2, hp2, hq2, np2, nq2⟩ := ht
    refine ⟨_, rfl, _, _, _, _, true, rfl, ClsV.own _, TyX.base (TyOf.ins h2 T.cR T.cc T.cn T.ct T.co), kit_self, _, rfl, ifT rfl ?_⟩
    refine ⟨_, rfl, u, _, dx, _, _, rfl, h1, T.cR, T.nc_before, rfl, _, rfl, t, _, dx2, _, _, rfl, h2, T.cR, T.nc_before, rfl, dN ys, dN ys2, dp_N hp, dp_N hp2, (lay_N _).shaped (by decide), (lay_N _).shaped (by decide), _, rfl, ?_⟩
    rw [eqv_N]
    by_cases c : ys = ys2
    · refine ifT (decide_eq_true c) ⟨_, rfl, u, _, dx, _, _, rfl, h1, T.cR, T.nc_after, rfl, _, rfl, t, _, dx2, _, _, rfl, h2, T.cR, T.nc_after, rfl, dN zs, dN zs2, dp_N hq, dp_N hq2, (lay_N _).shaped (by decide), (lay_N _).shaped (by decide), ?_⟩
      rw [eqv_N]
      rw [decide_eq_true c, Bool.true_and] at k
      exact k
    · refine ifF (decide_eq_false c) ?_
      rw [decide_eq_false c, Bool.false_and] at k
      exact k

end

section
variable {P : Program} {w : World} {K : PySem.W.Frag} {mg : Str → Option Value} {base : Heap} {A : Ad}
theorem ok_law_joint_kept (T : Txt K mg A)  (g_law_joint : Okd P w K mg base (L2N.CX P w) 11 A.law_joint P_law_joint (spJl A)) (g_law_update : Okd P w K mg base CX0 3 A.law_update P_law_update (spUpd A)) (h_law_whole : Okh P w K mg base CX0 1 A.law_whole P_law_whole spWh) : Okd P w K mg base CX0 12 A.law_joint_kept P_law_joint_kept (spJk A) := by
  obtain ⟨fd, F⟩ := T.d_law_joint_kept
  obtain ⟨fd_law_joint, G_law_joint, b_law_joint⟩ := g_law_joint
  obtain ⟨fd_law_update, G_law_update, b_law_update⟩ := g_law_update
  obtain ⟨fdh_law_whole, H_law_whole, hb_law_whole⟩ := h_law_whole
  refine ⟨fd, F.ok sc_law_joint_kept (fun vs H Q E h => ?_) (fun cdv A' outer s H vs Q E hr h => ?_), F.binds fun _ _ _ _ _ _ us hl => match us, hl with | [_, _], _ => rfl⟩
  · obtain ⟨m, d, rs, rfl, _⟩ := h
    rfl
  · obtain ⟨m, d, rs, rfl, hu, hg, l6, hd, k⟩ := h
    refine ⟨_, (pss_cons (L2N.ps_try_manyNN rfl rfl L2N.takes0N (fun W pn xe tk _ => (pss_one (ps_set (i := 2) sc_law_joint_kept.nd rfl (Or.inl rfl) (pe_callS G_law_joint (hr.mono (by decide)) rfl T.g_law_joint T.k_law_joint b_law_joint (fun σ => L2N.passAt tk σ) (pa_cons (pv 0) pa_nil))))) (L2N.HdsNN.consN (i := 3) sc_law_joint_kept.nd rfl rfl ⟨rfl, by decide, .inl T.e_InvalidUpdate.g⟩ (fun a oe cls d pn hz hf => (pss_one (ps_ret (pe_and (pe_cmpR op_eq (pe_ix (ix_listK (K := K) rfl) (pv 1) pe_int (fun _ _ => rfl)) pe_str (nomark _)) (pe_and (pe_callB (call_isS2 (K := K) rfl hz.zc hf) (by rfl) T.n_isinstance (by decide +kernel) (pa_cons (pv 3) (pa_cons (pe_bltn (v := .ty "ValueError") (u := .type "ValueError") (by rfl) T.n_ValueError (by decide +kernel) rfl) pa_nil))) (pe_one (pe_not (pe_callB (call_isS2 (K := K) rfl hz.zc hf) (by rfl) T.n_isinstance (by decide +kernel) (pa_cons (pv 3) (pa_cons (pe_glob (v := .ref A.Busy) rfl T.e_Busy.g rfl) pa_nil)))))))))) (L2N.HdsNN.consN (i := 3) sc_law_joint_kept.nd rfl rfl ⟨rfl, by decide, .inl T.e_Busy.g⟩ (fun a oe cls d pn hz hf => (pss_one (ps_ret (pe_and (pe_cmpR op_eq (pe_ix (ix_listK (K := K) rfl) (pv 1) pe_int (fun _ _ => rfl)) pe_str (nomark _)) (pe_and (pe_callB (call_isS2 (K := K) rfl hz.zc hf) (by rfl) T.n_isinstance (by decide +kernel) (pa_cons (pv 3) (pa_cons (pe_bltn (v := .ty "ValueError") (u := .type "ValueError") (by rfl) T.n_ValueError (by decide +kernel) rfl) pa_nil))) (pe_one (L2H.pe_callH H_law_whole (L2H.roomH_mark (hr.mono (by decide)) _) (hot_suite hz hf) (by rfl) T.g_law_whole T.k_law_whole hb_law_whole (passH0 (fun _ => E0)) (pa_cons (pe_xf T.e_Busy.xfc T.f_Busy.nf hz.zc hf (pv 3)) (pa_cons (pe_ix (ix_listK (K := K) rfl) (pv 1) pe_int (fun _ _ => rfl)) pa_nil))))))))) L2N.HdsNN.nil)))
      (pss_one (ps_ret (pe_and (pe_cmpR op_eq (pe_ix ix_list (pv 1) pe_int (fun _ _ => rfl)) pe_str (nomark _)) (pe_one (pe_call G_law_update (hr.mono (by decide)) (by rfl) T.g_law_update T.k_law_update b_law_update .nil pass0 (pa_cons (pv 2) (pa_cons (pe_ix ix_list (pv 1) pe_int (fun _ _ => rfl)) (pa_cons (pe_ix ix_list (pv 1) pe_int (fun _ _ => rfl)) pa_nil))))))))), ?_⟩
    obtain ⟨us, h1, at_⟩ := id hu
    obtain ⟨x, y, hd, hxy⟩ := hd
    refine ⟨_, rfl, m, rs, rfl, hu, hg, l6, fun ys zs so r H3 hr3 e3 gr => ?_, ?_, ?_⟩
    · rw [so] at hd hxy
      obtain ⟨gx, gy⟩ := hxy ys zs rfl
      have hd3 := e3 _ _ hd
      have gs := all_ok hg so
      have gl := gs.len
      have g64 := gs.l64
      exact ⟨_, rfl, d, _, _, _, rfl, rfl, SqL.of hd3, atI_nat (j := 0) rfl, rfl, _, rfl, ifT wd_sum_sm ⟨_, rfl, _, rfl, d, _, _, _, rfl, rfl, SqL.of hd3, atI_nat (j := 2) rfl, _, rfl, d, _, _, _, rfl, rfl, SqL.of hd3, atI_nat (j := 3) rfl, r, x, y, ys, zs, rfl, gr, gx.ex e3, gy.ex e3, gl, Nat.le_succ_of_le g64, fun H4 e4 => k H4 (e3.trans e4)⟩⟩
    · intro so H3 e3
      rw [so] at hd
      refine ⟨true, T.e_InvalidUpdate.exm, fun _ a0 ha0 => ?_, fun z => (nomatch z)⟩
      refine ⟨_, rfl, d, _, _, _, rfl, rfl, SqL.of (e3 _ _ hd), atI_nat (j := 0) rfl, rfl, _, rfl, ifT wd_differ_df ?_⟩
      refine ⟨_, rfl, A.InvalidUpdate, _, _, true, rfl, rfl, Or.inl rfl, T.e_InvalidUpdate.exc T.cn T.ct, ClsV.ty "ValueError", T.e_InvalidUpdate.kit_ve, _, rfl, iteT ?_⟩
      refine ⟨_, rfl, A.InvalidUpdate, _, _, false, rfl, rfl, Or.inl rfl, T.e_InvalidUpdate.exc T.cn T.ct, ClsV.own _, T.e_InvalidUpdate.kit_ne T.e_Busy (ne_ix T.nd 5 3 rfl rfl (by decide)) (ne_ix T.nd 0 3 rfl rfl (by decide)), _, rfl, ?_⟩
      exact k H3 e3
    · intro z so d2 H3 e3 hd2
      rw [so] at hd
      refine ⟨false, T.e_Busy.exm_ne T.e_InvalidUpdate (ne_ix T.nd 3 5 rfl rfl (by decide)) (ne_ix T.nd 0 5 rfl rfl (by decide)), fun z => (nomatch z), fun _ => ?_⟩
      refine ⟨true, T.e_Busy.exm, fun _ a0 ha0 => ?_, fun z => (nomatch z)⟩
      refine ⟨_, rfl, d, _, _, _, rfl, rfl, SqL.of (e3 _ _ hd), atI_nat (j := 0) rfl, rfl, _, rfl, ifT wd_busy_bz ?_⟩
      refine ⟨_, rfl, A.Busy, _, _, true, rfl, rfl, Or.inr ⟨d2, _, rfl, hd2⟩, T.e_Busy.exc T.cn T.ct, ClsV.ty "ValueError", T.e_Busy.kit_ve, _, rfl, iteT ?_⟩
      refine ⟨_, rfl, rfl, rfl, d2, _, _, rfl, hd2, rfl, _, rfl, d, _, _, _, rfl, rfl, SqL.of (e3 _ _ hd), atI_nat (j := 1) rfl, (z : Int), (z : Int), rfl, ?_⟩
      rw [decide_eq_true rfl]
      exact k H3 e3

end

section
variable {P : Program} {w : World} {K : PySem.W.Frag} {mg : Str → Option Value} {base : Heap} {A : Ad}
def Okd_jn (P : Program) (w : World) (K : PySem.W.Frag) (mg : Str → Option Value) (base : Heap) (A : Ad) : Prop := FnR P w K mg base (L2N.CX P w) 10 A.m_joint (spJn A)
theorem ok_m_joint (T : Txt K mg A) (g_m_rest : Okd P w K mg base (L2N.CX P w) 8 A.m_rest P_m_rest (spRst A)) (g_m_add : Okd P w K mg base (L2N.CX P w) 8 A.m_add P_m_add (spAdd A)) : Okd_jn P w K mg base A := by
  obtain ⟨fd, F⟩ := T.d_m_joint
  obtain ⟨fd_m_rest, G_m_rest, b_m_rest⟩ := g_m_rest
  obtain ⟨fd_m_add, G_m_add, b_m_add⟩ := g_m_add
  obtain ⟨oc, od, kV, doc, pm, an, cdv, ct, osl, rfl, lk, hcd⟩ := F.ex
  have run := StX.fn_star (CX := L2N.CX P w) (P := P) (w := w) (mg := mg) (base := base) (k := 9) (N := N_m_joint) (ps := []) (pv := "updates") (sp := fun vs H Q E => ∃ (p : Addr) (us : List Addr) (rs : List PP), vs = [.ref p] ∧ H p = some (.tup (us.map V.ref)) ∧ UsAt A H us rs ∧ (∀ r ∈ rs, GoodP r) ∧ us.length ≤ 6 ∧
      (∀ ys zs, allF rs = .sm ys zs → ∀ t H', H t = none → Ex H H' → UpAt A H' t ys zs → Q (.ref t) H') ∧ RzSm A H (allF rs) E) lk hcd sc_m_joint StK.upN
    (fun us rest l1 => match us, l1, rest with | [], _, [] => rfl | [], _, _ :: _ => rfl) (fun A' outer s H vs Q E hr h => ?_)
  · rintro A' outer s H us vs Q E hr env rv ⟨ps, rs, rfl, hu, hg, hl, k, kz⟩
    refine run A' outer s H us _ Q E hr env rv ⟨[], ps.map V.ref, rfl, rfl, ?_, fun p hp => ?_⟩
    · rw [List.length_map]
      exact Nat.le_trans hl (by decide)
    · have e := Ex.new (o := .tup (ps.map V.ref)) hp
      exact ⟨p, ps, rs, rfl, upd_same, ⟨hu.1, fun i u a z1 z2 => (hu.2 i u a z1 z2).ex e⟩, hg, hl, fun ys zs z t H' ht e' => k ys zs z t H' (back_none e ht) (e.trans e'), kz.from e⟩
  · obtain ⟨p, us, rs, rfl, hp, hu, hg, hl, k, kz⟩ := h
    refine ⟨_, (pss_cons (ps_if (pt_cmpR op_eq (pe_callB call_len_seq (by rfl) T.n_len PySem.boot_len (pa_cons (pv 0) pa_nil)) pe_int (nomark _)) (pss_one (L2N.ps_raise rfl (L2N.takes_of rfl rfl rfl rfl) (L2N.pmk_own0N PySem.F.excBase_ValueError T.q_InvalidUpdate T.e_InvalidUpdate.g T.e_InvalidUpdate.k (raises_own T.e_InvalidUpdate.sub T.e_InvalidUpdate.ty) rfl))) pss_nil)
      (pss_cons (ps_set (i := 1) sc_m_joint.nd rfl (Or.inl rfl) (MkS.pe_cmethS (pe_glob (v := .ref A.Update) rfl T.g_Update rfl) T.rd T.cm G_m_rest (hr.mono (by decide)) b_m_rest (fun σ => L2N.passAt (L2N.takes_of rfl rfl rfl rfl) σ) (pa_cons (pe_fld (pe_ix ix_tup (pv 0) pe_int (fun _ _ => rfl)) rfl) pa_nil)))
      (pss_cons (ps_for (passes_of rfl) rfl (pi_tup (pv 0)) (pg_name (i := 2) sc_m_joint.nd rfl (Or.inl rfl)) (pss_one (ps_set (i := 1) sc_m_joint.nd rfl (Or.inl rfl) (OwI.pe_binIS T.o_add.1 T.o_add.2 T.o_sf G_m_add (hr.mono (by decide)) b_m_add (fun σ => L2N.passAt (L2N.takes_of rfl rfl rfl rfl) σ) (pv 1) (pv 2)))))
      (pss_one (ps_ret (pv 1)))))), ?_⟩
    refine ⟨_, rfl, p, _, rfl, .inr (SqT.of hp), ?_⟩
    rw [List.length_map]
    by_cases c0 : us.length = 0
    · rw [c0]
      refine ⟨rfl, _, rfl, ifT rfl ?_⟩
      have : rs = [] := List.eq_nil_of_length_eq_zero (by rw [← hu.1]; exact c0)
      subst this
      exact kz.1 rfl H (Ex.refl H)
    refine ⟨rfl, _, rfl, ifF (decide_eq_false (fun z => c0 (by injection z with z; omega))) ?_⟩
    match us, rs, hu, c0 with
    | [], _, _, c0 => exact absurd rfl c0
    | _ :: _, [], hu, _ => cases hu.1
    | u0 :: us, r0 :: rs, hu, _ =>
    have g0 := hg r0 List.mem_cons_self
    have l0 := g0.l64
    obtain ⟨dx, p1, q1, h1, hp1, hq1, np, nq⟩ := hu.2 0 u0 r0 rfl rfl
    refine ⟨rfl, _, rfl, p, _, _, _, rfl, rfl, SqT.of hp, atI_nat (j := 0) rfl, u0, _, dx, _, _, rfl, h1, T.cR, T.nc_before, rfl, ?_⟩
    have f0 : faultF (toI r0.1) (toI r0.1) = none := good_fault (a := (r0.1, r0.1)) ⟨g0.a, g0.a, rfl, l0⟩
    refine ⟨p1, toI r0.1, rfl, hp1.int, by rw [toI_len]; omega, fun _ t H1 ht e1 g1 => ?_, fun f hf => by rw [f0] at hf; cases hf⟩
    rw [toI_nat] at g1
    replace g1 := g1.at
    refine ⟨_, rfl, p, rfl, ⟨_, SqT.of (e1 _ _ hp)⟩, for_tup (K := K) (a := p) (xs := (u0 :: us).map V.ref) (fun i σ G => ∃ (v2 : Option V) (t : Addr) (ys zs : List Nat), σ = [some (.ref p), some (.ref t), v2] ∧ H t = none ∧ Ex H G ∧ UpAt A G t ys zs ∧ ((r0 :: rs).take i).foldl stepF (.sm r0.1 r0.1) = .sm ys zs ∧ GoodP (ys, zs)) ⟨none, t, r0.1, r0.1, rfl, ht, e1, g1, rfl, ⟨g0.a, g0.a, rfl, l0⟩⟩ (fun i σ G _ ⟨_, _, _, _, _, _, e3, _⟩ => SqT.of (e3 _ _ hp)) ?_ ?_⟩
    · rintro i x σ G hx ⟨v2, t, ys, zs, rfl, ht, e3, g3, fd, gg⟩
      obtain ⟨ui, hui, rfl⟩ := ref_at hx
      have il : i < (r0 :: rs).length := by rw [← hu.1]; exact (List.getElem?_eq_some_iff.mp hui).1
      have hri : (r0 :: rs)[i]? = some (r0 :: rs)[i] := List.getElem?_eq_getElem il
      have gi := hg _ (List.getElem_mem il)
      generalize (r0 :: rs)[i] = ri at hri gi
      have hUi := (hu.2 i ui ri hui hri).ex e3
      obtain ⟨fa, fs⟩ := fold_at fd hri
      obtain ⟨dx2, p2, q2, h2, hp2, hq2, np2, nq2⟩ := id g3
      obtain ⟨dx3, p3, q3, h3, hp3, hq3, np3, nq3⟩ := id hUi
      rw [← all_rest g0] at fs
      refine ⟨_, rfl, _, rfl, t, dx2, _, ui, dx3, _, rfl, rfl, h2, h3, t, ui, (ys, zs), ri, rfl, g3, hUi, gg, gi, fun ys4 zs4 e4 r4 H4 hr4 e5 g4 => ?_, ⟨fun z H' e' => kz.1 (fs _ z (.inl rfl)) H' (e3.trans e'), fun x z d H' e' hd => kz.2 x (fs _ z (.inr ⟨x, rfl⟩)) d H' (e3.trans e') hd⟩⟩
      exact ⟨_, r4, ys4, zs4, rfl, back_none e3 hr4, e3.trans e5, g4, by rw [fa, e4], sum_good gg gi e4⟩
    · rintro σ G ⟨v2, t, ys, zs, rfl, ht, e3, g3, fd, gg⟩
      rw [List.length_map, hu.1, List.take_length, ← all_rest g0] at fd
      exact ⟨_, rfl, k ys zs fd t G ht e3 g3⟩
end

section
variable {P : Program} {w : World} {K : PySem.W.Frag} {mg : Str → Option Value} {base : Heap} {A : Ad}
theorem ok_law_joint (T : Txt K mg A)   (F_joint : Okd_jn P w K mg base A) : Okd P w K mg base (L2N.CX P w) 11 A.law_joint P_law_joint (spJl A) := by
  obtain ⟨fd, F⟩ := T.d_law_joint

  refine ⟨fd, F.okN sc_law_joint (fun vs H Q E h => ?_) (fun cdv A' outer s H vs Q E hr h => ?_), F.binds fun _ _ _ _ _ _ us hl => match us, hl with | [_], _ => rfl⟩
  · obtain ⟨r, rs, rfl, _⟩ := h
    rfl
  · obtain ⟨r, rs, rfl, hm, hg, l6, k, kz⟩ := h
    refine ⟨_, (pss_cons (ps_if (pt_cmpR op_eq (pe_callB call_len_seq (by rfl) T.n_len PySem.boot_len (pa_cons (pv 0) pa_nil)) pe_int (nomark _)) (pss_one (ps_ret (SmX.pe_smethS0 (pe_glob (v := .ref A.Update) rfl T.g_Update rfl) T.rd T.sm F_joint (hr.mono (by decide)) (fun σ => L2N.passAt (L2N.takes_of rfl rfl rfl rfl) σ)))) pss_nil)
      (pss_cons (ps_if (pt_cmpR op_eq (pe_callB call_len_seq (by rfl) T.n_len PySem.boot_len (pa_cons (pv 0) pa_nil)) pe_int (nomark _)) (pss_one (ps_ret (SmX.pe_smethS (pe_glob (v := .ref A.Update) rfl T.g_Update rfl) T.rd T.sm F_joint (hr.mono (by decide)) (fun σ => L2N.passAt (L2N.takes_of rfl rfl rfl rfl) σ) (pa_cons (pe_ix ix_list (pv 0) pe_int (fun _ _ => rfl)) pa_nil)))) pss_nil)
      (pss_cons (ps_if (pt_cmpR op_eq (pe_callB call_len_seq (by rfl) T.n_len PySem.boot_len (pa_cons (pv 0) pa_nil)) pe_int (nomark _)) (pss_one (ps_ret (SmX.pe_smethS (pe_glob (v := .ref A.Update) rfl T.g_Update rfl) T.rd T.sm F_joint (hr.mono (by decide)) (fun σ => L2N.passAt (L2N.takes_of rfl rfl rfl rfl) σ) (pa_cons (pe_ix ix_list (pv 0) pe_int (fun _ _ => rfl)) (pa_cons (pe_ix ix_list (pv 0) pe_int (fun _ _ => rfl)) pa_nil))))) pss_nil)
      (pss_cons (ps_if (pt_cmpR op_eq (pe_callB call_len_seq (by rfl) T.n_len PySem.boot_len (pa_cons (pv 0) pa_nil)) pe_int (nomark _)) (pss_one (ps_ret (SmX.pe_smethS (pe_glob (v := .ref A.Update) rfl T.g_Update rfl) T.rd T.sm F_joint (hr.mono (by decide)) (fun σ => L2N.passAt (L2N.takes_of rfl rfl rfl rfl) σ) (pa_cons (pe_ix ix_list (pv 0) pe_int (fun _ _ => rfl)) (pa_cons (pe_ix ix_list (pv 0) pe_int (fun _ _ => rfl)) (pa_cons (pe_ix ix_list (pv 0) pe_int (fun _ _ => rfl)) pa_nil)))))) pss_nil)
      (pss_cons (ps_if (pt_cmpR op_eq (pe_callB call_len_seq (by rfl) T.n_len PySem.boot_len (pa_cons (pv 0) pa_nil)) pe_int (nomark _)) (pss_one (ps_ret (SmX.pe_smethS (pe_glob (v := .ref A.Update) rfl T.g_Update rfl) T.rd T.sm F_joint (hr.mono (by decide)) (fun σ => L2N.passAt (L2N.takes_of rfl rfl rfl rfl) σ) (pa_cons (pe_ix ix_list (pv 0) pe_int (fun _ _ => rfl)) (pa_cons (pe_ix ix_list (pv 0) pe_int (fun _ _ => rfl)) (pa_cons (pe_ix ix_list (pv 0) pe_int (fun _ _ => rfl)) (pa_cons (pe_ix ix_list (pv 0) pe_int (fun _ _ => rfl)) pa_nil))))))) pss_nil)
      (pss_cons (ps_if (pt_cmpR op_eq (pe_callB call_len_seq (by rfl) T.n_len PySem.boot_len (pa_cons (pv 0) pa_nil)) pe_int (nomark _)) (pss_one (ps_ret (SmX.pe_smethS (pe_glob (v := .ref A.Update) rfl T.g_Update rfl) T.rd T.sm F_joint (hr.mono (by decide)) (fun σ => L2N.passAt (L2N.takes_of rfl rfl rfl rfl) σ) (pa_cons (pe_ix ix_list (pv 0) pe_int (fun _ _ => rfl)) (pa_cons (pe_ix ix_list (pv 0) pe_int (fun _ _ => rfl)) (pa_cons (pe_ix ix_list (pv 0) pe_int (fun _ _ => rfl)) (pa_cons (pe_ix ix_list (pv 0) pe_int (fun _ _ => rfl)) (pa_cons (pe_ix ix_list (pv 0) pe_int (fun _ _ => rfl)) pa_nil)))))))) pss_nil)
      (pss_one (ps_ret (SmX.pe_smethS (pe_glob (v := .ref A.Update) rfl T.g_Update rfl) T.rd T.sm F_joint (hr.mono (by decide)) (fun σ => L2N.passAt (L2N.takes_of rfl rfl rfl rfl) σ) (pa_cons (pe_ix ix_list (pv 0) pe_int (fun _ _ => rfl)) (pa_cons (pe_ix ix_list (pv 0) pe_int (fun _ _ => rfl)) (pa_cons (pe_ix ix_list (pv 0) pe_int (fun _ _ => rfl)) (pa_cons (pe_ix ix_list (pv 0) pe_int (fun _ _ => rfl)) (pa_cons (pe_ix ix_list (pv 0) pe_int (fun _ _ => rfl)) (pa_cons (pe_ix ix_list (pv 0) pe_int (fun _ _ => rfl)) pa_nil))))))))))))))), ?_⟩
    obtain ⟨us, hrr, hu⟩ := hm
    have hu : UsAt A H us rs := hu
    have lu := hu.1
    refine ⟨_, rfl, r, _, rfl, .inl (SqL.of hrr), rfl, _, rfl, ?_⟩
    by_cases c0 : us.length = 0
    · rw [decide_eq_true (show V.int (((us.map V.ref).length : Nat) : Int) = V.int 0 from by rw [List.length_map, c0]; rfl)]
      refine iteT ?_
      have eq : us = [] := List.ext_getElem (by show us.length = 0; omega) fun i h1 h2 => by
        match i, h1 with
        | i + 0, h1 => exact absurd h1 (by omega)
      exact ⟨rfl, us, rs, (congrArg (List.map V.ref) eq).symm, hu, hg, by omega, k, kz⟩

    rw [decide_eq_false (show ¬ V.int (((us.map V.ref).length : Nat) : Int) = V.int 0 from fun z => by rw [List.length_map] at z; injection z with z; omega)]
    refine iteF ?_
    refine ⟨_, rfl, r, _, rfl, .inl (SqL.of hrr), rfl, _, rfl, ?_⟩
    by_cases c1 : us.length = 1
    · rw [decide_eq_true (show V.int (((us.map V.ref).length : Nat) : Int) = V.int 1 from by rw [List.length_map, c1]; rfl)]
      refine iteT ?_
      have q0 : us[0]? = some us[0] := List.getElem?_eq_getElem (by omega)
      have eq : us = [us[0]] := List.ext_getElem (by show us.length = 1; omega) fun i h1 h2 => by
        match i, h1 with
        | 0, _ => rfl
        | i + 1, h1 => exact absurd h1 (by omega)
      exact ⟨rfl, _, rfl, r, _, _, _, rfl, rfl, SqL.of hrr, atR (i := 0) q0, us, rs, (congrArg (List.map V.ref) eq).symm, hu, hg, by omega, k, kz⟩

    rw [decide_eq_false (show ¬ V.int (((us.map V.ref).length : Nat) : Int) = V.int 1 from fun z => by rw [List.length_map] at z; injection z with z; omega)]
    refine iteF ?_
    refine ⟨_, rfl, r, _, rfl, .inl (SqL.of hrr), rfl, _, rfl, ?_⟩
    by_cases c2 : us.length = 2
    · rw [decide_eq_true (show V.int (((us.map V.ref).length : Nat) : Int) = V.int 2 from by rw [List.length_map, c2]; rfl)]
      refine iteT ?_
      have q0 : us[0]? = some us[0] := List.getElem?_eq_getElem (by omega)
      have q1 : us[1]? = some us[1] := List.getElem?_eq_getElem (by omega)
      have eq : us = [us[0], us[1]] := List.ext_getElem (by show us.length = 2; omega) fun i h1 h2 => by
        match i, h1 with
        | 0, _ => rfl
        | 1, _ => rfl
        | i + 2, h1 => exact absurd h1 (by omega)
      exact ⟨rfl, _, rfl, r, _, _, _, rfl, rfl, SqL.of hrr, atR (i := 0) q0, _, rfl, r, _, _, _, rfl, rfl, SqL.of hrr, atR (i := 1) q1, us, rs, (congrArg (List.map V.ref) eq).symm, hu, hg, by omega, k, kz⟩

    rw [decide_eq_false (show ¬ V.int (((us.map V.ref).length : Nat) : Int) = V.int 2 from fun z => by rw [List.length_map] at z; injection z with z; omega)]
    refine iteF ?_
    refine ⟨_, rfl, r, _, rfl, .inl (SqL.of hrr), rfl, _, rfl, ?_⟩
    by_cases c3 : us.length = 3
    · rw [decide_eq_true (show V.int (((us.map V.ref).length : Nat) : Int) = V.int 3 from by rw [List.length_map, c3]; rfl)]
      refine iteT ?_
      have q0 : us[0]? = some us[0] := List.getElem?_eq_getElem (by omega)
      have q1 : us[1]? = some us[1] := List.getElem?_eq_getElem (by omega)
      have q2 : us[2]? = some us[2] := List.getElem?_eq_getElem (by omega)
      have eq : us = [us[0], us[1], us[2]] := List.ext_getElem (by show us.length = 3; omega) fun i h1 h2 => by
        match i, h1 with
        | 0, _ => rfl
        | 1, _ => rfl
        | 2, _ => rfl
        | i + 3, h1 => exact absurd h1 (by omega)
      exact ⟨rfl, _, rfl, r, _, _, _, rfl, rfl, SqL.of hrr, atR (i := 0) q0, _, rfl, r, _, _, _, rfl, rfl, SqL.of hrr, atR (i := 1) q1, _, rfl, r, _, _, _, rfl, rfl, SqL.of hrr, atR (i := 2) q2, us, rs, (congrArg (List.map V.ref) eq).symm, hu, hg, by omega, k, kz⟩

    rw [decide_eq_false (show ¬ V.int (((us.map V.ref).length : Nat) : Int) = V.int 3 from fun z => by rw [List.length_map] at z; injection z with z; omega)]
    refine iteF ?_
    refine ⟨_, rfl, r, _, rfl, .inl (SqL.of hrr), rfl, _, rfl, ?_⟩
    by_cases c4 : us.length = 4
    · rw [decide_eq_true (show V.int (((us.map V.ref).length : Nat) : Int) = V.int 4 from by rw [List.length_map, c4]; rfl)]
      refine iteT ?_
      have q0 : us[0]? = some us[0] := List.getElem?_eq_getElem (by omega)
      have q1 : us[1]? = some us[1] := List.getElem?_eq_getElem (by omega)
      have q2 : us[2]? = some us[2] := List.getElem?_eq_getElem (by omega)
      have q3 : us[3]? = some us[3] := List.getElem?_eq_getElem (by omega)
      have eq : us = [us[0], us[1], us[2], us[3]] := List.ext_getElem (by show us.length = 4; omega) fun i h1 h2 => by
        match i, h1 with
        | 0, _ => rfl
        | 1, _ => rfl
        | 2, _ => rfl
        | 3, _ => rfl
        | i + 4, h1 => exact absurd h1 (by omega)
      exact ⟨rfl, _, rfl, r, _, _, _, rfl, rfl, SqL.of hrr, atR (i := 0) q0, _, rfl, r, _, _, _, rfl, rfl, SqL.of hrr, atR (i := 1) q1, _, rfl, r, _, _, _, rfl, rfl, SqL.of hrr, atR (i := 2) q2, _, rfl, r, _, _, _, rfl, rfl, SqL.of hrr, atR (i := 3) q3, us, rs, (congrArg (List.map V.ref) eq).symm, hu, hg, by omega, k, kz⟩

    rw [decide_eq_false (show ¬ V.int (((us.map V.ref).length : Nat) : Int) = V.int 4 from fun z => by rw [List.length_map] at z; injection z with z; omega)]
    refine iteF ?_
    refine ⟨_, rfl, r, _, rfl, .inl (SqL.of hrr), rfl, _, rfl, ?_⟩
    by_cases c5 : us.length = 5
    · rw [decide_eq_true (show V.int (((us.map V.ref).length : Nat) : Int) = V.int 5 from by rw [List.length_map, c5]; rfl)]
      refine iteT ?_
      have q0 : us[0]? = some us[0] := List.getElem?_eq_getElem (by omega)
      have q1 : us[1]? = some us[1] := List.getElem?_eq_getElem (by omega)
      have q2 : us[2]? = some us[2] := List.getElem?_eq_getElem (by omega)
      have q3 : us[3]? = some us[3] := List.getElem?_eq_getElem (by omega)
      have q4 : us[4]? = some us[4] := List.getElem?_eq_getElem (by omega)
      have eq : us = [us[0], us[1], us[2], us[3], us[4]] := List.ext_getElem (by show us.length = 5; omega) fun i h1 h2 => by
        match i, h1 with
        | 0, _ => rfl
        | 1, _ => rfl
        | 2, _ => rfl
        | 3, _ => rfl
        | 4, _ => rfl
        | i + 5, h1 => exact absurd h1 (by omega)
      exact ⟨rfl, _, rfl, r, _, _, _, rfl, rfl, SqL.of hrr, atR (i := 0) q0, _, rfl, r, _, _, _, rfl, rfl, SqL.of hrr, atR (i := 1) q1, _, rfl, r, _, _, _, rfl, rfl, SqL.of hrr, atR (i := 2) q2, _, rfl, r, _, _, _, rfl, rfl, SqL.of hrr, atR (i := 3) q3, _, rfl, r, _, _, _, rfl, rfl, SqL.of hrr, atR (i := 4) q4, us, rs, (congrArg (List.map V.ref) eq).symm, hu, hg, by omega, k, kz⟩

    rw [decide_eq_false (show ¬ V.int (((us.map V.ref).length : Nat) : Int) = V.int 5 from fun z => by rw [List.length_map] at z; injection z with z; omega)]
    refine iteF ?_
    have six : us.length = 6 := by omega
    have q0 : us[0]? = some us[0] := List.getElem?_eq_getElem (by omega)
    have q1 : us[1]? = some us[1] := List.getElem?_eq_getElem (by omega)
    have q2 : us[2]? = some us[2] := List.getElem?_eq_getElem (by omega)
    have q3 : us[3]? = some us[3] := List.getElem?_eq_getElem (by omega)
    have q4 : us[4]? = some us[4] := List.getElem?_eq_getElem (by omega)
    have q5 : us[5]? = some us[5] := List.getElem?_eq_getElem (by omega)
    have eq : us = [us[0], us[1], us[2], us[3], us[4], us[5]] := List.ext_getElem (by show us.length = 6; omega) fun i h1 h2 => by
      match i, h1 with
      | 0, _ => rfl
      | 1, _ => rfl
      | 2, _ => rfl
      | 3, _ => rfl
      | 4, _ => rfl
      | 5, _ => rfl
      | i + 6, h1 => exact absurd h1 (by omega)
    exact ⟨rfl, _, rfl, r, _, _, _, rfl, rfl, SqL.of hrr, atR (i := 0) q0, _, rfl, r, _, _, _, rfl, rfl, SqL.of hrr, atR (i := 1) q1, _, rfl, r, _, _, _, rfl, rfl, SqL.of hrr, atR (i := 2) q2, _, rfl, r, _, _, _, rfl, rfl, SqL.of hrr, atR (i := 3) q3, _, rfl, r, _, _, _, rfl, rfl, SqL.of hrr, atR (i := 4) q4, _, rfl, r, _, _, _, rfl, rfl, SqL.of hrr, atR (i := 5) q5, us, rs, (congrArg (List.map V.ref) eq).symm, hu, hg, by omega, k, kz⟩

end

section
variable {P : Program} {w : World} {K : PySem.W.Frag} {mg : Str → Option Value} {base : Heap} {A : Ad}
theorem ok_m_len (T : Txt K mg A)  (g_m_records : Okd P w K mg base CX0 1 A.m_records P_m_records (spRec A)) : Okd P w K mg base CX0 3 A.m_len P_m_len (spLen A) := by
  obtain ⟨fd, F⟩ := T.d_m_len
  obtain ⟨fd_m_records, G_m_records, b_m_records⟩ := g_m_records
  refine ⟨fd, F.ok sc_m_len (fun vs H Q E h => ?_) (fun cdv A' outer s H vs Q E hr h => ?_), F.binds fun _ _ _ _ _ _ us hl => match us, hl with | [_], _ => rfl⟩
  · obtain ⟨u, ys, zs, rfl, _⟩ := h
    rfl
  · obtain ⟨u, ys, zs, rfl, hu, lz, l65, k⟩ := h
    refine ⟨_, (pss_one (ps_ret (pe_callB call_len_seq (by rfl) T.n_len PySem.boot_len (pa_cons (pe_prop (pv 0) T.cR T.pp_records G_m_records (hr.mono (by decide)) b_m_records .nil pass0 rfl) pa_nil)))), ?_⟩
    obtain ⟨dx, p, q, h1, hp, hq, np, nq⟩ := id hu
    refine ⟨_, rfl, u, dx, _, rfl, h1, u, ys, zs, rfl, hu, lz, l65, fun r H' hr e g => ⟨r, _, rfl, .inl (SqL.of g), ?_⟩⟩
    rw [nI_len]
    exact k H' e

end

section
variable {P : Program} {w : World} {K : PySem.W.Frag} {mg : Str → Option Value} {base : Heap} {A : Ad}
theorem ok_law_made (T : Txt K mg A)  (g_m_init : Okd P w K mg base (L2N.CX P w) 6 A.m_init P_m_init (spUi A)) : Okd P w K mg base CX0 8 A.law_made P_law_made (spMd A) := by
  obtain ⟨fd, F⟩ := T.d_law_made
  obtain ⟨fd_m_init, G_m_init, b_m_init⟩ := g_m_init
  refine ⟨fd, F.ok sc_law_made (fun vs H Q E h => ?_) (fun cdv A' outer s H vs Q E hr h => ?_), F.binds fun _ _ _ _ _ _ us hl => match us, hl with | [_], _ => rfl⟩
  · obtain ⟨p, a, rfl, _⟩ := h
    rfl
  · obtain ⟨p, a, rfl, hr1, ga, k⟩ := h
    refine ⟨_, (pss_one (ps_ret (DaS.pe_makeP T.mkR G_m_init (hr.mono (by decide)) (by rfl) T.g_Update b_m_init (fun σ => L2N.passAt L2N.takes0N σ) (pa_cons (pe_callTy call_list_of (by rfl) T.n_list (by decide +kernel) (pa_cons (pe_ix ix_list (pv 0) pe_int (fun _ _ => rfl)) pa_nil)) (pa_cons (pe_callTy call_list_of (by rfl) T.n_list (by decide +kernel) (pa_cons (pe_ix ix_list (pv 0) pe_int (fun _ _ => rfl)) pa_nil)) pa_nil))))), ?_⟩
    obtain ⟨p1, q1, h1, hp, hq⟩ := hr1
    have l64 := ga.l64
    have lz := ga.len
    refine ⟨_, rfl, p, _, _, _, rfl, rfl, SqL.of h1, atI_nat (j := 0) rfl, p1, _, rfl, .inl hp.sz, fun p2 hp2 => ?_⟩
    have e1 := Ex.new (o := .lst (nI a.1)) hp2
    have g1 : ListN (upd H p2 (.lst (nI a.1))) p2 a.1 := upd_same
    generalize upd H p2 (.lst (nI a.1)) = H1 at e1 g1 ⊢
    refine ⟨_, rfl, p, _, _, _, rfl, rfl, SqL.of (e1 _ _ h1), atI_nat (j := 1) rfl, q1, _, rfl, .inl (hq.ex e1).sz, fun q2 hq2 => ?_⟩
    have e2 := Ex.new (o := .lst (nI a.2)) hq2
    have g2 : ListN (upd H1 q2 (.lst (nI a.2))) q2 a.2 := upd_same
    generalize upd H1 q2 (.lst (nI a.2)) = H2 at e2 g2 ⊢
    refine fun c dx hc hdx ne => ?_
    have e3 : Ex H2 (upd (upd H2 dx (.own c)) c (.ins A.Update dx [])) := fun y o hy => by rw [upd_ne (ne_of_none hy hc), upd_ne (ne_of_none hy hdx)]; exact hy
    have e02 := e1.trans e2
    refine ⟨c, p2, q2, dx, toI a.1, toI a.2, rfl, upd_same, ((g1.ex e2).ex e3).int, (g2.ex e3).int, by rw [toI_len]; omega, by rw [toI_len]; omega, fun _ p3 q3 H' hp3 hq3 npq keep g5 g6 g7 => ⟨rfl, k c H' (back_none e02 hc) (fun y o hy => keep y o (ne_of_none (e02 _ _ hy) hc) (e3 _ _ (e02 _ _ hy))) ?_⟩, fun f hf => by rw [good_fault ga] at hf; cases hf⟩
    rw [toI_nat] at g6 g7
    exact ⟨dx, p3, q3, g5, g6, g7, (fun z => by rw [z, upd_same] at hp3; cases hp3), (fun z => by rw [z, upd_same] at hq3; cases hq3), back_none (e02.trans e3) hp3, back_none (e02.trans e3) hq3⟩

end

section
variable {P : Program} {w : World} {K : PySem.W.Frag} {mg : Str → Option Value} {base : Heap} {A : Ad}
theorem ok_law_mix (T : Txt K mg A)   : Okd P w K mg base CX0 1 A.law_mix P_law_mix spMix := by
  obtain ⟨fd, F⟩ := T.d_law_mix

  refine ⟨fd, F.ok sc_law_mix (fun vs H Q E h => ?_) (fun cdv A' outer s H vs Q E hr h => ?_), F.binds fun _ _ _ _ _ _ us hl => match us, hl with | [_, _], _ => rfl⟩
  · obtain ⟨x, y, rfl, _⟩ := h
    rfl
  · obtain ⟨x, y, rfl, k⟩ := h
    refine ⟨_, (pss_cons (ps_set (i := 2) sc_law_mix.nd rfl (Or.inl rfl) (pe_op op_mod (pe_callTy call_int1 (by rfl) T.n_int (by decide +kernel) (pa_cons (pe_op op_add (pe_op op_add (pe_op op_mul (pv 0) pe_int) (pe_op op_mul (pv 1) pe_int)) pe_int) pa_nil)) pe_int))
      (pss_cons (ps_set (i := 3) sc_law_mix.nd rfl (Or.inl rfl) (pe_op op_mod (pe_callTy call_int1 (by rfl) T.n_int (by decide +kernel) (pa_cons (pe_op op_add (pe_op op_add (pe_op op_mul (pv 2) (pv 2)) (pe_op op_mul (pv 1) pe_int)) pe_int) pa_nil)) pe_int))
      (pss_one (ps_ret (pe_op op_mod (pe_callTy call_int1 (by rfl) T.n_int (by decide +kernel) (pa_cons (pe_op op_add (pe_op op_mul (pv 3) (pv 3)) (pv 2)) pa_nil)) pe_int))))), ?_⟩
    walk_at "r"
    exact k _

end

section
variable {P : Program} {w : World} {K : PySem.W.Frag} {mg : Str → Option Value} {base : Heap} {A : Ad}
theorem ok_m_neg (T : Txt K mg A)  (g_m_init : Okd P w K mg base (L2N.CX P w) 6 A.m_init P_m_init (spUi A)) : Okd P w K mg base CX0 8 A.m_neg P_m_neg (spNeg A) := by
  obtain ⟨fd, F⟩ := T.d_m_neg
  obtain ⟨fd_m_init, G_m_init, b_m_init⟩ := g_m_init
  refine ⟨fd, F.ok sc_m_neg (fun vs H Q E h => ?_) (fun cdv A' outer s H vs Q E hr h => ?_), F.binds fun _ _ _ _ _ _ us hl => match us, hl with | [_], _ => rfl⟩
  · obtain ⟨u, ys, zs, rfl, _⟩ := h
    rfl
  · obtain ⟨u, ys, zs, rfl, hu, nf, lz, l65, k⟩ := h
    refine ⟨_, (pss_one (ps_ret (DaS.pe_makeP T.mkR G_m_init (hr.mono (by decide)) (by rfl) T.g_Update b_m_init (fun σ => L2N.passAt L2N.takes0N σ) (pa_cons (pe_fld (pv 0) rfl) (pa_cons (pe_fld (pv 0) rfl) pa_nil))))), ?_⟩
    obtain ⟨dx, p, q, h1, hp, hq, np, nq⟩ := id hu
    refine ⟨_, rfl, u, _, dx, _, _, rfl, h1, T.cR, T.nc_after, rfl, _, rfl, u, _, dx, _, _, rfl, h1, T.cR, T.nc_before, rfl, fun c dx2 hc hdx ne => ?_⟩
    have n1 : ∀ {a : Addr} {xs : List Nat}, ListN H a xs → ListI (upd (upd H dx2 (.own c)) c (.ins A.Update dx2 [])) a (toI xs) := fun {a xs} h => by
      show upd _ c _ a = _
      rw [upd_ne (ne_of_none h hc), upd_ne (ne_of_none h hdx)]
      exact h.trans (by unfold nI toI; rw [List.map_map]; rfl)
    refine ⟨c, q, p, dx2, toI zs, toI ys, rfl, upd_same, n1 hq, n1 hp, by unfold toI; rw [List.length_map]; omega, by unfold toI; rw [List.length_map]; omega, fun _ p2 q2 H' hp2 hq2 npq keep h2 g1 g2 => ⟨rfl, k c H' hc (fun y o hy => keep y o (ne_of_none hy hc) (by rw [upd_ne (ne_of_none hy hc), upd_ne (ne_of_none hy hdx)]; exact hy)) ?_⟩, fun f hf => by rw [nf] at hf; cases hf⟩
    rw [toI_nat] at g1 g2
    exact ⟨dx2, p2, q2, h2, g1, g2, (fun z => by rw [z, upd_same] at hp2; cases hp2), (fun z => by rw [z, upd_same] at hq2; cases hq2)⟩

end

section
variable {P : Program} {w : World} {K : PySem.W.Frag} {mg : Str → Option Value} {base : Heap} {A : Ad}
theorem ok_law_one (T : Txt K mg A)  (g_law_update : Okd P w K mg base CX0 3 A.law_update P_law_update (spUpd A)) (g_law_whole : Okd P w K mg base CX0 1 A.law_whole P_law_whole spWh) (g_m_len : Okd P w K mg base CX0 3 A.m_len P_m_len (spLen A)) (g_law_answer : Okd P w K mg base CX0 1 A.law_answer P_law_answer spAns) (g_m_contains : Okd P w K mg base CX0 3 A.m_contains P_m_contains (spCon A)) (g_m_repr : OkdG P w K mg base CX0 1 A.m_repr P_m_repr (spRp A)) (g_m_neg : Okd P w K mg base CX0 8 A.m_neg P_m_neg (spNeg A)) (g_m_eq : Okd P w K mg base CX0 1 A.m_eq P_m_eq (spEq A)) : OkdG P w K mg base CX0 9 A.law_one P_law_one (spOne A) := by
  obtain ⟨fd, F⟩ := T.d_law_one
  obtain ⟨fd_law_update, G_law_update, b_law_update⟩ := g_law_update
  obtain ⟨fd_law_whole, G_law_whole, b_law_whole⟩ := g_law_whole
  obtain ⟨fd_m_len, G_m_len, b_m_len⟩ := g_m_len
  obtain ⟨fd_law_answer, G_law_answer, b_law_answer⟩ := g_law_answer
  obtain ⟨fd_m_contains, G_m_contains, b_m_contains⟩ := g_m_contains
  obtain ⟨fd_m_repr, G_m_repr, b_m_repr⟩ := g_m_repr
  obtain ⟨fd_m_neg, G_m_neg, b_m_neg⟩ := g_m_neg
  obtain ⟨fd_m_eq, G_m_eq, b_m_eq⟩ := g_m_eq
  refine ⟨fd, GdR.okG F sc_law_one (fun vs H Q E h => ?_) (fun cdv A' outer s H vs Q E gd hr h => ?_), F.binds fun _ _ _ _ _ _ us hl => match us, hl with | [_, _], _ => rfl⟩
  · obtain ⟨u, p, a, rfl, _⟩ := h
    rfl
  · obtain ⟨u, p, a, rfl, hu, hp, ga, k⟩ := h
    refine ⟨_, (pss_cons (ps_set (i := 2) sc_law_one.nd rfl (Or.inr rfl) (pe_ix ix_list (pv 1) pe_int (fun _ _ => rfl)))
      (pss_cons (ps_set (i := 3) sc_law_one.nd rfl (Or.inr rfl) (pe_ix ix_list (pv 1) pe_int (fun _ _ => rfl)))
      (pss_cons (ps_if (pt_not (pt_val (pe_call G_law_update (hr.mono (by decide)) (by rfl) T.g_law_update T.k_law_update b_law_update .nil pass0 (pa_cons (pv 0) (pa_cons (pv 2) (pa_cons (pv 3) pa_nil)))))) (pss_one (ps_ret pe_bl)) pss_nil)
      (pss_cons (ps_if (pt_not (pt_val (pe_call G_law_whole (hr.mono (by decide)) (by rfl) T.g_law_whole T.k_law_whole b_law_whole .nil pass0 (pa_cons (pe_callB (OwI.call_lenI T.o_len.1 T.o_len.2 (raw0 G_m_len b_m_len) (hr.mono (by decide)) pass0) (by rfl) T.n_len PySem.boot_len (pa_cons (pv 0) pa_nil)) (pa_cons (pe_callB call_len_seq (by rfl) T.n_len PySem.boot_len (pa_cons (pe_lc (own := [("x", 4)]) (tt := _) (by rfl) sc_law_one.nd (pi_range1 (by rfl) T.n_range (pa_cons (pe_callB call_len_seq (by rfl) T.n_len PySem.boot_len (pa_cons (pv 2) pa_nil)) pa_nil)) (blkOk_by (own := [("x", 4)]) (N := N_law_one) (sc := defScope s_law_one) (by decide +kernel)) (fun _ _ _ _ _ => (pg_name (i := 4) sc_law_one.nd rfl (Or.inl rfl))) (fun _ _ _ _ _ => (pts_one (pt_cmpR op_ne (pe_ix (ix_listK (K := K) rfl) (pv 2) (pv 4) (fun _ _ => rfl)) (pe_ix (ix_listK (K := K) rfl) (pv 3) (pv 4) (fun _ _ => rfl)) (nomark _)))) (fun _ _ _ _ _ => (pv 4))) pa_nil)) pa_nil))))) (pss_one (ps_ret pe_bl)) pss_nil)
      (pss_cons (ps_for PassesOwn.never rfl (pi_range1 (by rfl) T.n_range (pa_cons (pe_callB call_len_seq (by rfl) T.n_len PySem.boot_len (pa_cons (pv 2) pa_nil)) pa_nil)) (pg_name (i := 4) sc_law_one.nd rfl (Or.inl rfl)) (pss_one (ps_if (pt_not (pt_val (pe_call G_law_answer (hr.mono (by decide)) (by rfl) T.g_law_answer T.k_law_answer b_law_answer .nil pass0 (pa_cons (pe_cmpR (OwI.op_inI T.o_in.1 T.o_in.2 (raw0 G_m_contains b_m_contains) (hr.mono (by decide)) pass0) (pv 4) (pv 0) (by with_unfolding_all rfl)) (pa_cons (pe_cmpR op_ne (pe_ix ix_list (pv 2) (pv 4) (fun _ _ => rfl)) (pe_ix ix_list (pv 3) (pv 4) (fun _ _ => rfl)) (nomark _)) pa_nil))))) (pss_one (ps_ret pe_bl)) pss_nil)))
      (pss_cons (ps_for PassesOwn.never rfl (pi_list (pe_lst (pa_cons (pe_un un_neg pe_int) (pa_cons (pe_un un_neg pe_int) (pa_cons (pe_callB call_len_seq (by rfl) T.n_len PySem.boot_len (pa_cons (pv 2) pa_nil)) (pa_cons (pe_op op_add (pe_callB call_len_seq (by rfl) T.n_len PySem.boot_len (pa_cons (pv 2) pa_nil)) pe_int) (pa_cons (pe_op op_sub (pe_op op_sub pe_int (pe_callB call_len_seq (by rfl) T.n_len PySem.boot_len (pa_cons (pv 2) pa_nil))) pe_int) (pa_cons (pe_op op_pow pe_int pe_int) pa_nil)))))))) (pg_name (i := 4) sc_law_one.nd rfl (Or.inl rfl)) (pss_one (ps_if (pt_not (pt_val (pe_call G_law_answer (hr.mono (by decide)) (by rfl) T.g_law_answer T.k_law_answer b_law_answer .nil pass0 (pa_cons (pe_cmpR (OwI.op_inI T.o_in.1 T.o_in.2 (raw0 G_m_contains b_m_contains) (hr.mono (by decide)) pass0) (pv 4) (pv 0) (by with_unfolding_all rfl)) (pa_cons pe_bl pa_nil))))) (pss_one (ps_ret pe_bl)) pss_nil)))
      (pss_cons (ps_if (pt_cmpR op_ne (pe_callB (GdR.call_reprIG T.o_repr.1 T.o_repr.2 G_m_repr gd b_m_repr (hr.mono (by decide)) pass0) (by rfl) T.n_repr (by decide +kernel) (pa_cons (pv 0) pa_nil)) (pe_op op_add_str (pe_op op_add_str (pe_op op_add_str (pe_op op_add_str pe_str (pe_callB (GdR.call_reprD gd (units65R hr)) (by rfl) T.n_repr (by decide +kernel) (pa_cons (pv 2) pa_nil))) pe_str) (pe_callB (GdR.call_reprD gd (units65R hr)) (by rfl) T.n_repr (by decide +kernel) (pa_cons (pv 3) pa_nil))) pe_str) (nomark _)) (pss_one (ps_ret pe_bl)) pss_nil)
      (pss_cons (ps_set (i := 5) sc_law_one.nd rfl (Or.inl rfl) (pe_un (OwI.un_negI T.o_neg.1 T.o_neg.2 (raw0 G_m_neg b_m_neg) (hr.mono (by decide)) pass0) (pv 0)))
      (pss_cons (ps_if (PW.pt (pw_or (pt_not (pt_val (pe_call G_law_update (hr.mono (by decide)) (by rfl) T.g_law_update T.k_law_update b_law_update .nil pass0 (pa_cons (pv 5) (pa_cons (pv 3) (pa_cons (pv 2) pa_nil)))))) (pw_or1 (pt_not (pt_val (pe_call G_law_update (hr.mono (by decide)) (by rfl) T.g_law_update T.k_law_update b_law_update .nil pass0 (pa_cons (pe_un (OwI.un_negI T.o_neg.1 T.o_neg.2 (raw0 G_m_neg b_m_neg) (hr.mono (by decide)) pass0) (pv 5)) (pa_cons (pv 2) (pa_cons (pv 3) pa_nil))))))))) (pss_one (ps_ret pe_bl)) pss_nil)
      (pss_one (ps_ret (pe_and (pe_call G_law_answer (hr.mono (by decide)) (by rfl) T.g_law_answer T.k_law_answer b_law_answer .nil pass0 (pa_cons (pe_cmpR (OwI.op_ownI (fun _ _ => rfl) T.o_eq.1 T.o_eq.2 (raw0 G_m_eq b_m_eq) (hr.mono (by decide)) pass0) (pv 5) (pv 0) (nomark _)) (pa_cons (pe_cmpR (op_eqD hr.units) (pv 2) (pv 3) (nomark _)) pa_nil))) (pe_one (pe_call G_law_answer (hr.mono (by decide)) (by rfl) T.g_law_answer T.k_law_answer b_law_answer .nil pass0 (pa_cons (pe_cmpR (OwI.op_ownI (fun _ _ => rfl) T.o_eq.1 T.o_eq.2 (raw0 G_m_eq b_m_eq) (hr.mono (by decide)) pass0) (pe_un (OwI.un_negI T.o_neg.1 T.o_neg.2 (raw0 G_m_neg b_m_neg) (hr.mono (by decide)) pass0) (pv 5)) (pv 0) (nomark _)) (pa_cons pe_bl pa_nil)))))))))))))))), ?_⟩
    obtain ⟨s1, t1, h1, hs, ht⟩ := hp
    have l64 := ga.l64
    have la := ga.len
    have b1 : ∀ y ∈ a.1, y < 65 := fun y hy => by
      obtain ⟨i, hi, e⟩ := List.getElem_of_mem hy
      have q := ga.a.lt i hi
      unfold gt at q
      rw [List.getD_eq_getElem?_getD, List.getElem?_eq_getElem hi] at q
      have q : a.1[i] < a.1.length := q
      omega
    have b2 : ∀ y ∈ a.2, y < 65 := fun y hy => by
      obtain ⟨i, hi, e⟩ := List.getElem_of_mem hy
      have q := ga.b.lt i hi
      unfold gt at q
      rw [List.getD_eq_getElem?_getD, List.getElem?_eq_getElem hi] at q
      have q : a.2[i] < a.2.length := q
      omega
    obtain ⟨ys, zs⟩ := a
    simp only at hu hs ht la l64 b1 b2
    refine ⟨_, rfl, p, _, _, _, rfl, rfl, SqL.of h1, atI_nat (j := 0) rfl, _, rfl, p, _, _, _, rfl, rfl, SqL.of h1, atI_nat (j := 1) rfl, ?_⟩
    refine ⟨_, rfl, _, rfl, _, rfl, u, s1, t1, ys, zs, rfl, hu, hs, ht, la, by omega, fun H1 e1 => ⟨_, rfl, iteF ?_⟩⟩
    have hu1 := hu.ex e1
    obtain ⟨dx, _, _, hx, _⟩ := id hu1
    refine ⟨_, rfl, u, dx, _, rfl, hx, u, ys, zs, rfl, hu1, la, by omega, fun H2 e2 => ?_⟩
    have rl := recs_len (ys := ys) (zs := zs)
    refine ⟨_, rfl, by omega, by have : (2 : Int) ^ 63 = 9223372036854775808 := (by decide); omega, ?_⟩
    have e02 := e1.trans e2
    have hs2 := hs.ex e02
    have ht2 := ht.ex e02
    have hu2 := hu.ex e02
    refine ⟨_, rfl, s1, _, rfl, .inl hs2.sz, _, rfl, by rw [nI_len]; omega, by rw [nI_len]; omega, fun D hD => ?_⟩
    rw [nI_len, Int.toNat_natCast]
    refine lc_range (lo := 0) (n := ys.length) (fun j G => Ex H2 G ∧ ListN G D (recsK ys zs j)) ⟨Ex.new hD, upd_same⟩ ?_ ?_
    · rintro j G hj ⟨e, hd⟩
      rw [Int.zero_add]
      refine ⟨rfl, ?_⟩
      refine ⟨_, rfl, _, rfl, s1, _, _, _, rfl, rfl, (hs2.ex e).sz, atN hj, _, rfl, _, rfl, t1, _, _, _, rfl, rfl, (ht2.ex e).sz, atN (by rw [la]; exact hj), rfl, _, rfl, ?_⟩
      rw [dec_ints]
      by_cases c : ys.getD j 0 = zs.getD j 0
      · rw [decide_eq_true c]
        refine iteF ⟨e, ?_⟩
        rw [recsK_neg c]
        exact hd
      · rw [decide_eq_false c]
        refine iteT ⟨_, rfl, _, hd, small1000 (by have := recsK_len (ys := ys) (zs := zs) (j := j); rw [nI_len]; omega), fun y o hy => by rw [upd_ne (ne_of_none hy hD)]; exact e y o hy, ?_⟩
        show upd G D _ D = _
        rw [upd_same, recsK_pos c, nI_app]
    rintro H3 ⟨e3, gD⟩
    refine ⟨D, _, rfl, .inl gD.sz, _, _, rfl, ?_⟩
    rw [decide_eq_true (by rw [nI_len]; rfl)]
    refine ⟨_, rfl, iteF ?_⟩
    have e03 := e02.trans e3
    clear e1 e2 e3 e02 hu1 hu2 hs2 ht2 gD hD hx
    refine ⟨_, rfl, s1, _, rfl, .inl (hs.ex e03).sz, _, rfl, by rw [nI_len]; omega, by rw [nI_len]; omega, ?_⟩
    rw [nI_len, Int.toNat_natCast]
    refine for_range (lo := 0) (n := ys.length) (fun i σ G => ∃ v4 : Option V, σ = [some (.ref u), some (.ref p), some (.ref s1), some (.ref t1), v4, none] ∧ Ex H G) ⟨none, rfl, e03⟩ ?_ ?_
    · rintro i σ G hi ⟨v4, rfl, e⟩
      rw [Int.zero_add]
      obtain ⟨dx2, _, _, hx, _⟩ := id (hu.ex e)
      refine ⟨_, rfl, _, rfl, u, dx2, _, rfl, hx, u, (i : Int), ys, zs, rfl, hu.ex e, la, by omega, fun G2 e2 => ⟨_, rfl, ?_⟩⟩
      have eG := e.trans e2
      refine ⟨_, rfl, _, rfl, s1, _, _, _, rfl, rfl, (hs.ex eG).sz, atN hi, _, rfl, _, rfl, t1, _, _, _, rfl, rfl, (ht.ex eG).sz, atN (by rw [la]; exact hi), rfl, _, _, rfl, ?_⟩
      rw [decide_eq_true (con_rec hi)]
      exact ⟨_, rfl, iteF ⟨_, rfl, eG⟩⟩
    rintro σ G ⟨v4, rfl, e⟩
    have hsG := hs.ex e
    have nl : (nI ys).length = ys.length := nI_len ys
    refine ⟨_, rfl, _, rfl, _, rfl, s1, _, rfl, .inl hsG.sz, _, rfl, s1, _, rfl, .inl hsG.sz, _, _, rfl, rfl, ?_⟩
    refine ⟨_, rfl, s1, _, rfl, .inl hsG.sz, _, _, rfl, rfl, _, _, rfl, rfl, _, _, rfl, rfl, ⟨by decide, by decide, by decide⟩, (by show 6 ≤ sizeLine; decide), fun l hl => ?_⟩
    have eL := e.trans (Ex.new (o := .lst [V.int (-1), V.int (-2), V.int ((nI ys).length : Nat), V.int (((nI ys).length : Nat) + 1), V.int (0 - ((nI ys).length : Nat) - 1), V.int (10 ^ Int.toNat 20)]) hl)
    have gl : upd G l (.lst [V.int (-1), V.int (-2), V.int ((nI ys).length : Nat), V.int (((nI ys).length : Nat) + 1), V.int (0 - ((nI ys).length : Nat) - 1), V.int (10 ^ Int.toNat 20)]) l = some (.lst [V.int (-1), V.int (-2), V.int ((nI ys).length : Nat), V.int (((nI ys).length : Nat) + 1), V.int (0 - ((nI ys).length : Nat) - 1), V.int (10 ^ Int.toNat 20)]) := upd_same
    generalize upd G l (.lst [V.int (-1), V.int (-2), V.int ((nI ys).length : Nat), V.int (((nI ys).length : Nat) + 1), V.int (0 - ((nI ys).length : Nat) - 1), V.int (10 ^ Int.toNat 20)]) = G1 at eL gl ⊢
    have out : ∀ x ∈ [V.int (-1), V.int (-2), V.int ((nI ys).length : Nat), V.int (((nI ys).length : Nat) + 1), V.int (0 - ((nI ys).length : Nat) - 1), V.int (10 ^ Int.toNat 20)], ∃ z : Int, x = V.int z ∧ (z < 0 ∨ (ys.length : Int) ≤ z) := by
      intro x hx
      simp only [List.mem_cons, List.not_mem_nil, or_false] at hx
      rcases hx with rfl | rfl | rfl | rfl | rfl | rfl
      · exact ⟨_, rfl, .inl (by decide)⟩
      · exact ⟨_, rfl, .inl (by decide)⟩
      · exact ⟨_, rfl, .inr (by omega)⟩
      · exact ⟨_, rfl, .inr (by omega)⟩
      · exact ⟨_, rfl, .inl (by omega)⟩
      · exact ⟨_, rfl, .inr (by have : (10 : Int) ^ Int.toNat 20 = 100000000000000000000 := (by decide); omega)⟩
    generalize [V.int (-1), V.int (-2), V.int ((nI ys).length : Nat), V.int (((nI ys).length : Nat) + 1), V.int (0 - ((nI ys).length : Nat) - 1), V.int (10 ^ Int.toNat 20)] = LX at gl out
    refine ⟨l, rfl, ⟨_, SqL.of gl⟩, for_list (K := K) (a := l) (xs := LX) (fun i σ G => ∃ v4 : Option V, σ = [some (.ref u), some (.ref p), some (.ref s1), some (.ref t1), v4, none] ∧ Ex G1 G) ⟨v4, rfl, Ex.refl G1⟩ (fun i σ G _ ⟨_, _, e⟩ => SqL.of (e _ _ gl)) ?_ ?_⟩
    · rintro i x σ G hx ⟨v4, rfl, e1⟩
      obtain ⟨z, rfl, hz⟩ := out x (List.mem_of_getElem? hx)
      have e := eL.trans e1
      obtain ⟨dx2, _, _, hx, _⟩ := id (hu.ex e)
      refine ⟨_, rfl, _, rfl, u, dx2, _, rfl, hx, u, z, ys, zs, rfl, hu.ex e, la, by omega, fun G2 e2 => ⟨_, rfl, ?_⟩⟩
      refine ⟨_, _, rfl, ?_⟩
      rw [decide_eq_true (con_out hz)]
      exact ⟨_, rfl, iteF ⟨_, rfl, e1.trans e2⟩⟩
    clear gl out nl hsG e
    rintro σ G ⟨v4, rfl, e1⟩
    have e := eL.trans e1
    clear e1 eL
    replace hu := hu.ex e
    replace hs := hs.ex e
    replace ht := ht.ex e
    obtain ⟨dx2, _, _, hx, _⟩ := id hu
    have s1s := shN b1 (by omega)
    have s2s := shN b2 (by omega)
    have z0 : ("Update(" : Str).length = 7 := by decide +kernel
    have z1 : (", " : Str).length = 2 := by decide +kernel
    have z2 : (")" : Str).length = 1 := by decide +kernel
    have big : ∀ n : Nat, n ≤ 100000 → n ≤ sizeLine := fun n h => Nat.le_trans h (by decide)
    refine ⟨_, rfl, u, dx2, _, rfl, hx, u, ys, zs, rfl, hu, la, by omega, b1, b2, fun G2 e2 => ⟨_, rfl, ?_⟩⟩
    have e02 := e.trans e2
    replace hu := hu.ex e2
    replace hs := hs.ex e2
    replace ht := ht.ex e2
    refine ⟨_, rfl, s1, dN ys, rfl, dp_N hs, s1s.1, s1s.2.1, Nat.le_trans (lay_N ys).2.1 (by decide), big _ (by omega), _, _, rfl, rfl, big _ (by omega), _, _, rfl, rfl, big _ (by rw [Str.length_append]; omega), ?_⟩
    refine ⟨_, rfl, t1, dN zs, rfl, dp_N ht, s2s.1, s2s.2.1, Nat.le_trans (lay_N zs).2.1 (by decide), big _ (by omega), _, _, rfl, rfl, big _ (by rw [Str.length_append, Str.length_append]; omega), _, _, rfl, rfl, big _ (by rw [Str.length_append, Str.length_append, Str.length_append]; omega), ?_⟩
    refine ⟨rfl, _, rfl, ifF (show (!decide (V.str (shU ys zs) = V.str (shU ys zs))) = false from by rw [decide_eq_true rfl]; rfl) ?_⟩
    have gb : GoodP (zs, ys) := ⟨ga.b, ga.a, la.symm, by show zs.length ≤ 64; omega⟩
    have nf1 := good_fault gb
    have nf2 := good_fault ga
    clear hx e e2 s1s s2s z0 z1 z2 big b1 b2
    obtain ⟨dx3, _, _, hx, _⟩ := id hu
    refine ⟨_, rfl, u, dx3, _, rfl, hx, u, ys, zs, rfl, hu, nf1, la, by omega, fun t G3 ht3 e3 g3 => ?_⟩
    have e03 := e02.trans e3
    replace hu := hu.ex e3
    replace hs := hs.ex e3
    replace ht := ht.ex e3
    refine ⟨_, rfl, _, rfl, _, rfl, t, t1, s1, zs, ys, rfl, g3, ht, hs, la.symm, by omega, fun G4 e4 => ⟨_, rfl, ?_⟩⟩
    refine iteF ?_
    have e04 := e03.trans e4
    replace hu := hu.ex e4
    replace hs := hs.ex e4
    replace ht := ht.ex e4
    replace g3 := g3.ex e4
    obtain ⟨dx4, _, _, hy, _⟩ := id g3
    refine ⟨_, rfl, t, dx4, _, rfl, hy, t, zs, ys, rfl, g3, nf2, la.symm, by omega, fun t5 G5 ht5 e5 g5 => ?_⟩
    refine ⟨_, rfl, _, rfl, t5, s1, t1, ys, zs, rfl, g5, hs.ex e5, ht.ex e5, la, by omega, fun G6 e6 => ⟨_, rfl, ?_⟩⟩
    refine iteF ?_
    have e46 := e5.trans e6
    have e06 := e04.trans e46
    replace hu := hu.ex e46
    replace hs := hs.ex e46
    replace ht := ht.ex e46
    replace g3 := g3.ex e46
    obtain ⟨dxl, _, _, hl1, _⟩ := id g3
    obtain ⟨dxr, _, _, hr1, _⟩ := id hu
    refine ⟨_, rfl, _, rfl, t, dxl, _, u, dxr, _, rfl, rfl, hl1, hr1, T.o_nf, t, u, zs, ys, ys, zs, rfl, g3, hu, ?_⟩
    refine ⟨_, rfl, _, rfl, dN ys, dN zs, dp_N hs, dp_N ht, (lay_N _).shaped (by decide), (lay_N _).shaped (by decide), ?_⟩
    rw [eqv_N]
    refine ⟨_, _, rfl, ?_⟩
    rw [decide_eq_true (show (decide (zs = ys) && decide (ys = zs)) = decide (ys = zs) from by
      by_cases c : ys = zs
      · rw [c, decide_eq_true rfl]; rfl
      · rw [decide_eq_false c, Bool.and_false])]
    refine ⟨_, rfl, iteT ?_⟩
    refine ⟨_, rfl, t, dxl, _, rfl, hl1, t, zs, ys, rfl, g3, nf2, la.symm, by omega, fun t7 G7 ht7 e7 g7 => ?_⟩
    replace hu := hu.ex e7
    obtain ⟨dxs, _, _, hs1, _⟩ := id g7
    refine ⟨_, rfl, t7, dxs, _, u, dxr, _, rfl, rfl, hs1, e7 _ _ hr1, T.o_nf, t7, u, ys, zs, ys, zs, rfl, g7, hu, ?_⟩
    refine ⟨_, _, rfl, ?_⟩
    rw [decide_eq_true (show (decide (ys = ys) && decide (zs = zs)) = true from by rw [decide_eq_true rfl, decide_eq_true rfl]; rfl)]
    exact k G7 (e06.trans e7)

end

section
variable {P : Program} {w : World} {K : PySem.W.Frag} {mg : Str → Option Value} {base : Heap} {A : Ad}
theorem ok_law_other (T : Txt K mg A)  (g_law_paired : Okd P w K mg base CX0 4 A.law_paired P_law_paired spPd) : Okd P w K mg base CX0 5 A.law_other P_law_other spPd := by
  obtain ⟨fd, F⟩ := T.d_law_other
  obtain ⟨fd_law_paired, G_law_paired, b_law_paired⟩ := g_law_paired
  refine ⟨fd, F.ok sc_law_other (fun vs H Q E h => ?_) (fun cdv A' outer s H vs Q E hr h => ?_), F.binds fun _ _ _ _ _ _ us hl => match us, hl with | [_, _, _], _ => rfl⟩
  · obtain ⟨b, c, p, q, ys, am, rfl, _⟩ := h
    rfl
  · obtain ⟨b, c, p, q, ys, am, rfl, B, hp, hq, sy, cl, l64, k⟩ := h
    refine ⟨_, (pss_cons (ps_set (i := 3) sc_law_other.nd rfl (Or.inl rfl) (pe_call G_law_paired (hr.mono (by decide)) (by rfl) T.g_law_paired T.k_law_paired b_law_paired .nil pass0 (pa_cons (pv 0) (pa_cons (pv 1) (pa_cons (pv 2) pa_nil)))))
      (pss_cons (ps_if (pt_cmpR (op_eqD hr.units) (pv 3) (pv 1) (nomark _)) (pss_one (ps_set (i := 3) sc_law_other.nd rfl (Or.inl rfl) (pe_call G_law_paired (hr.mono (by decide)) (by rfl) T.g_law_paired T.k_law_paired b_law_paired .nil pass0 (pa_cons (pv 0) (pa_cons (pv 1) (pa_cons (pv 2) pa_nil)))))) pss_nil)
      (pss_one (ps_ret (pv 3))))), ?_⟩
    refine ⟨_, rfl, _, rfl, _, rfl, b, c, p, q, ys, am, rfl, B, hp, hq, sy, cl, l64, fun r zs H1 hr1 B1 M1 gz sz lz => ?_⟩
    have hp1 := hp.mut B M1
    refine ⟨_, rfl, _, rfl, dN zs, dN ys, dp_N gz, dp_N hp1, (lay_N _).shaped (by decide), (lay_N _).shaped (by decide), _, rfl, ?_⟩
    rw [eqv_N]
    by_cases e : zs = ys
    · refine ifT (decide_eq_true e) ?_
      refine ⟨_, rfl, _, rfl, _, rfl, b, c, p, q, ys, am, rfl, B1, hp1, hq.mut B M1, sy, cl, l64, fun r2 zs2 H2 hr2 B2 M2 gz2 sz2 lz2 => ?_⟩
      exact ⟨_, rfl, k r2 zs2 H2 (bx_back B1 M1 hr2) B2 (M1.then M2) gz2 sz2 lz2⟩
    · refine ifF (decide_eq_false e) ?_
      exact ⟨_, rfl, k r zs H1 hr1 B1 M1 gz sz lz⟩

end

section
variable {P : Program} {w : World} {K : PySem.W.Frag} {mg : Str → Option Value} {base : Heap} {A : Ad}
theorem ok_law_paired (T : Txt K mg A)  (g_law_draw : Okd P w K mg base CX0 2 A.law_draw P_law_draw spDw) : Okd P w K mg base CX0 4 A.law_paired P_law_paired spPd := by
  obtain ⟨fd, F⟩ := T.d_law_paired
  obtain ⟨fd_law_draw, G_law_draw, b_law_draw⟩ := g_law_draw
  refine ⟨fd, F.ok sc_law_paired (fun vs H Q E h => ?_) (fun cdv A' outer s H vs Q E hr h => ?_), F.binds fun _ _ _ _ _ _ us hl => match us, hl with | [_, _, _], _ => rfl⟩
  · obtain ⟨b, c, p, q, ys, am, rfl, _⟩ := h
    rfl
  · obtain ⟨b, c, p, q, ys, am, rfl, B, hp, hq, sy, cl, l64, k⟩ := h
    refine ⟨_, (pss_cons (ps_set (i := 3) sc_law_paired.nd rfl (Or.inl rfl) (pe_callTy call_list_of (by rfl) T.n_list (by decide +kernel) (pa_cons (pv 1) pa_nil)))
      (pss_cons (ps_set (i := 4) sc_law_paired.nd rfl (Or.inl rfl) (pe_callTy call_list_of (by rfl) T.n_list (by decide +kernel) (pa_cons (pv 2) pa_nil)))
      (pss_cons (ps_for PassesOwn.never rfl (pi_list (pv 2)) (pg_name (i := 5) sc_law_paired.nd rfl (Or.inl rfl)) (pss_one (ps_asg (pv 5) (pg_sub (pv 3) (pv 5) set_list))))
      (pss_cons (ps_for PassesOwn.never rfl (pi_range1 (by rfl) T.n_range (pa_cons (pe_call G_law_draw (hr.mono (by decide)) (by rfl) T.g_law_draw T.k_law_draw b_law_draw .nil pass0 (pa_cons (pv 0) (pa_cons (pe_op op_add (pe_op op_fdivW (pe_callB call_len_seq (by rfl) T.n_len PySem.boot_len (pa_cons (pv 2) pa_nil)) pe_int) pe_int) pa_nil))) pa_nil)) (pg_name (i := 6) sc_law_paired.nd rfl (Or.inl rfl)) (pss_cons (ps_set (i := 7) sc_law_paired.nd rfl (Or.inl rfl) (pe_bm PySem.F.plainAttrs_list PySem.F.slot_list_pop PySem.F.type_list_pop mt_popAt (pv 4) (pa_cons (pe_call G_law_draw (hr.mono (by decide)) (by rfl) T.g_law_draw T.k_law_draw b_law_draw .nil pass0 (pa_cons (pv 0) (pa_cons (pe_callB call_len_seq (by rfl) T.n_len PySem.boot_len (pa_cons (pv 4) pa_nil)) pa_nil))) pa_nil)))
      (pss_cons (ps_set (i := 8) sc_law_paired.nd rfl (Or.inl rfl) (pe_bm PySem.F.plainAttrs_list PySem.F.slot_list_pop PySem.F.type_list_pop mt_popAt (pv 4) (pa_cons (pe_call G_law_draw (hr.mono (by decide)) (by rfl) T.g_law_draw T.k_law_draw b_law_draw .nil pass0 (pa_cons (pv 0) (pa_cons (pe_callB call_len_seq (by rfl) T.n_len PySem.boot_len (pa_cons (pv 4) pa_nil)) pa_nil))) pa_nil)))
      (pss_cons (ps_asg (pv 8) (pg_sub (pv 3) (pv 7) set_list))
      (pss_one (ps_asg (pv 7) (pg_sub (pv 3) (pv 8) set_list)))))))
      (pss_one (ps_ret (pv 3))))))), ?_⟩
    have ya := cl.lt
    refine ⟨_, rfl, p, _, rfl, .inl hp.sz, fun m hm => ?_⟩
    have e0 := Ex.new (o := .lst (nI ys)) hm
    have gm : ListN (upd H m (.lst (nI ys))) m ys := upd_same
    obtain ⟨nmb, nmc⟩ := B.ne hm
    have B1 := B.ex e0
    generalize upd H m (.lst (nI ys)) = H1 at e0 gm B1 ⊢
    refine ⟨_, rfl, q, _, rfl, .inl (hq.ex e0).sz, fun l hl => ?_⟩
    have e1 := Ex.new (o := .lst (nI am)) hl
    have gl : ListN (upd H1 l (.lst (nI am))) l am := upd_same
    obtain ⟨nlb, nlc⟩ := B1.ne hl
    have gm1 := gm.ex e1
    have nml : m ≠ l := ne_of_none gm hl
    have B2 := B1.ex e1
    have fl : H l = none := back_none e0 hl
    have e01 := e0.trans e1
    generalize upd H1 l (.lst (nI am)) = H2 at e1 gl gm1 B2 e01 ⊢
    have hq2 := hq.ex e01
    have nqm : q ≠ m := ne_of_none hq hm
    have nql : q ≠ l := ne_of_none hq fl
    have aml : am.length ≤ ys.length := nodup_len cl.nd cl.lt
    refine ⟨_, rfl, q, rfl, ⟨_, hq2.sz⟩, for_list (K := K) (a := q) (xs := nI am) (fun i σ G => ∃ (v5 : Option V) (zs : List Nat), σ = [some (.ref b), some (.ref p), some (.ref q), some (.ref m), some (.ref l), v5, none, none, none] ∧ ListN G m zs ∧ zs.length = ys.length ∧ (∀ x, x < ys.length → gt zs x = if x ∈ am.take i then x else gt ys x) ∧ (∀ x o, x ≠ m → H2 x = some o → G x = some o)) ⟨none, ys, rfl, gm1, rfl, fun x _ => by rw [if_neg (fun z => by cases z)], fun x o _ h => h⟩ (fun i σ G _ ⟨_, _, _, _, _, _, k⟩ => SqL.of (k _ _ nqm hq2)) ?_ ?_⟩
    · rintro i x σ G hx ⟨v5, zs, rfl, gz, lz, az, kp⟩
      obtain ⟨il, rfl⟩ := nat_at hx
      have xm : am.getD i 0 ∈ am := gt_mem il
      have xl := ya _ xm
      refine ⟨_, rfl, _, rfl, _, rfl, m, _, _, am.getD i 0, rfl, rfl, gz, Evl.ixN_nat (by rw [nI_len]; omega), ?_⟩
      rw [nI_set]
      refine ⟨_, zs.set (am.getD i 0) (am.getD i 0), rfl, upd_same, by rw [List.length_set]; exact lz, fun x hx => ?_, fun x o n h => by rw [upd_ne n]; exact kp x o n h⟩
      rw [gt_set (by omega), take_succ il]
      by_cases c : am.getD i 0 = x
      · rw [if_pos c, if_pos (List.mem_append.mpr (.inr (List.mem_singleton.mpr c.symm))), c]
      · rw [if_neg c, az x hx]
        have : (x ∈ am.take i ++ [am.getD i 0]) ↔ x ∈ am.take i := by
          rw [List.mem_append, List.mem_singleton]
          exact ⟨fun h => h.elim id fun z => absurd z.symm c, .inl⟩
        simp only [this]
    rintro σ G ⟨v5, zs, rfl, gz, lz, az, kp⟩
    rw [nI_len, List.take_length] at az
    have sz := clo_sta sy cl lz az
    have KG : ∀ x o, x ≠ m → x ≠ l → H x = some o → G x = some o := fun x o n1 _ h => kp x o n1 (e01 _ _ h)
    have BG : Bx G b c := B2.keep (fun o h => kp b o nmb.symm h) (fun o h => kp c o nmc.symm h)
    have gl2 : ListN G l am := kp _ _ nml.symm gl
    have hqG : ListN G q am := kp _ _ nqm hq2
    have nl : (nI am).length = am.length := nI_len am
    refine ⟨_, rfl, _, rfl, q, _, rfl, .inl hqG.sz, _, _, rfl, rfl, wide_div (b := 60) (by omega) (by omega) (by decide) (by decide), _, _, rfl, rfl, ?_⟩
    refine ⟨b, c, _, rfl, by omega, by omega, BG, fun d G1 dlt B3 M3 => ⟨_, rfl, by omega, by omega, ?_⟩⟩
    rw [Int.toNat_natCast]
    rw [nl] at dlt
    have d2 : 2 * d ≤ am.length := by omega
    refine for_range (lo := 0) (n := d) (fun i σ G => ∃ (v5 v6 v7 v8 : Option V) (zs pl : List Nat), σ = [some (.ref b), some (.ref p), some (.ref q), some (.ref m), some (.ref l), v5, v6, v7, v8] ∧ Bx G b c ∧ (∀ x o, x ≠ b → x ≠ m → x ≠ l → H x = some o → G x = some o) ∧ ListN G m zs ∧ zs.length = ys.length ∧ Sta zs ∧ ListN G l pl ∧ pl.Nodup ∧ (∀ x ∈ pl, x < ys.length ∧ gt zs x = x) ∧ pl.length + 2 * i = am.length)
      ⟨v5, none, none, none, zs, am, rfl, B3, fun x o n1 n2 n3 h => M3 _ _ n1 (KG x o n2 n3 h), gz.mut BG M3, lz, sz, gl2.mut BG M3, cl.nd, fun x hx => ⟨ya x hx, by rw [az x (ya x hx), if_pos hx]⟩, by omega⟩ ?_ ?_
    · rintro i σ G hi ⟨v5, v6, v7, v8, zs, pl, rfl, B4, kp, gz, lz, sz, gp, nd, fx, tot⟩
      have n1 : (nI pl).length = pl.length := nI_len pl
      refine ⟨_, rfl, .inl ⟨rfl, _, gp.sz⟩, _, rfl, _, rfl, l, _, rfl, .inl gp.sz, b, c, _, rfl, by omega, by omega, B4, fun j G2 jlt B5 M5 => ?_⟩
      rw [n1] at jlt
      have jl : j < pl.length := by omega
      have yd : pl[j]? = some pl[j] := List.getElem?_eq_getElem jl
      generalize pl[j] = x at yd
      have yd2 : (nI pl)[j]? = some (V.int (x : Int)) := by unfold nI; rw [List.getElem?_map, yd]; rfl
      refine ⟨l, nI pl, (j : Int), j, _, rfl, rfl, gp.mut B4 M5, (by have : (2 : Int) ^ 63 = 9223372036854775808 := (by decide); omega), (by have : (2 : Int) ^ 63 = 9223372036854775808 := (by decide); omega), seq_nat (by omega), yd2, ?_⟩
      rw [nI_erase]
      have p1 := pop_perm yd
      have l1 := p1.length_eq
      have nd1 := (p1.nodup_iff).mpr nd
      have mem1 : ∀ z, z = x ∨ z ∈ pl.eraseIdx j → z ∈ pl := fun z h => p1.mem_iff.mp (h.elim (fun e => e ▸ List.mem_cons_self) (List.mem_cons_of_mem _))
      rw [List.length_cons] at l1
      have gz5 := gz.mut B4 M5
      have B6 : Bx (upd G2 l (.lst (nI (pl.eraseIdx j)))) b c := B5.keep (fun o h => by rw [upd_ne nlb.symm]; exact h) (fun o h => by rw [upd_ne nlc.symm]; exact h)
      have gz6 : ListN (upd G2 l (.lst (nI (pl.eraseIdx j)))) m zs := by show upd G2 l _ m = _; rw [upd_ne nml]; exact gz5
      have gp6 : ListN (upd G2 l (.lst (nI (pl.eraseIdx j)))) l (pl.eraseIdx j) := upd_same
      have kp6 : ∀ x o, x ≠ b → x ≠ m → x ≠ l → H x = some o → upd G2 l (.lst (nI (pl.eraseIdx j))) x = some o := fun x o n1 n2 n3 h => by rw [upd_ne n3]; exact M5 _ _ n1 (kp x o n1 n2 n3 h)
      generalize upd G2 l (.lst (nI (pl.eraseIdx j))) = G3 at B6 gz6 gp6 kp6 ⊢
      generalize pl.eraseIdx j = p2 at l1 nd1 mem1 gp6 p1 ⊢
      have n2 : (nI p2).length = p2.length := nI_len p2
      refine ⟨_, rfl, .inl ⟨rfl, _, gp6.sz⟩, _, rfl, _, rfl, l, _, rfl, .inl gp6.sz, b, c, _, rfl, by omega, by omega, B6, fun j2 G4 jlt2 B7 M7 => ?_⟩
      rw [n2] at jlt2
      have jl2 : j2 < p2.length := by omega
      have yd3 : p2[j2]? = some p2[j2] := List.getElem?_eq_getElem jl2
      generalize p2[j2] = y at yd3
      have yd4 : (nI p2)[j2]? = some (V.int (y : Int)) := by unfold nI; rw [List.getElem?_map, yd3]; rfl
      refine ⟨l, nI p2, (j2 : Int), j2, _, rfl, rfl, gp6.mut B6 M7, (by have : (2 : Int) ^ 63 = 9223372036854775808 := (by decide); omega), (by have : (2 : Int) ^ 63 = 9223372036854775808 := (by decide); omega), seq_nat (by omega), yd4, ?_⟩
      rw [nI_erase]
      have p3 := pop_perm yd3
      have l3 := p3.length_eq
      have nd2 := (List.nodup_cons.mp nd1)
      have nd3 := (p3.nodup_iff).mpr nd2.2
      have ym : y ∈ p2 := p3.mem_iff.mp List.mem_cons_self
      have mem3 : ∀ z, z ∈ p2.eraseIdx j2 → z ∈ p2 := fun z h => p3.mem_iff.mp (List.mem_cons_of_mem _ h)
      rw [List.length_cons] at l3
      have gz7 := gz6.mut B6 M7
      have B8 : Bx (upd G4 l (.lst (nI (p2.eraseIdx j2)))) b c := B7.keep (fun o h => by rw [upd_ne nlb.symm]; exact h) (fun o h => by rw [upd_ne nlc.symm]; exact h)
      have gz8 : ListN (upd G4 l (.lst (nI (p2.eraseIdx j2)))) m zs := by show upd G4 l _ m = _; rw [upd_ne nml]; exact gz7
      have gp8 : ListN (upd G4 l (.lst (nI (p2.eraseIdx j2)))) l (p2.eraseIdx j2) := upd_same
      have kp8 : ∀ x o, x ≠ b → x ≠ m → x ≠ l → H x = some o → upd G4 l (.lst (nI (p2.eraseIdx j2))) x = some o := fun x o n1 n2 n3 h => by rw [upd_ne n3]; exact M7 _ _ n1 (kp6 x o n1 n2 n3 h)
      generalize upd G4 l (.lst (nI (p2.eraseIdx j2))) = G5 at B8 gz8 gp8 kp8 ⊢
      generalize p2.eraseIdx j2 = p4 at l3 nd3 mem3 gp8 p3 ⊢
      have fx1 := fx x (mem1 x (.inl rfl))
      have fy1 := fx y (mem1 y (.inr ym))
      have nxy : x ≠ y := fun e => nd2.1 (e ▸ ym)
      obtain ⟨s9, o9⟩ := pair_sta sz (by omega) (by omega) nxy fx1.2 fy1.2
      refine ⟨_, rfl, _, rfl, _, rfl, m, _, _, x, rfl, rfl, gz8, Evl.ixN_nat (by rw [nI_len]; omega), ?_⟩
      rw [nI_set]
      have gz9 : ListN (upd G5 m (.lst (nI (zs.set x y)))) m (zs.set x y) := upd_same
      refine ⟨_, rfl, _, rfl, _, rfl, m, _, _, y, rfl, rfl, gz9, Evl.ixN_nat (by rw [nI_len, List.length_set]; omega), ?_⟩
      rw [nI_set]
      refine ⟨v5, _, _, _, (zs.set x y).set y x, p4, rfl, B8.keep (fun o h => by rw [upd_ne nmb.symm, upd_ne nmb.symm]; exact h) (fun o h => by rw [upd_ne nmc.symm, upd_ne nmc.symm]; exact h), fun x o n1 n2 n3 h => by rw [upd_ne n2, upd_ne n2]; exact kp8 x o n1 n2 n3 h, upd_same, by rw [List.length_set, List.length_set]; exact lz, s9, ?_, (List.nodup_cons.mp nd3).2, fun z hz => ?_, by omega⟩
      · show upd _ m _ l = _
        rw [upd_ne nml.symm, upd_ne nml.symm]
        exact gp8
      · have z1 := fx z (mem1 z (.inr (mem3 z hz)))
        refine ⟨z1.1, ?_⟩
        rw [o9 z (fun e => nd2.1 (e ▸ mem3 z hz)) (fun e => (List.nodup_cons.mp nd3).1 (e ▸ hz))]
        exact z1.2
    · rintro σ G ⟨v5, v6, v7, v8, zs, pl, rfl, B4, kp, gz, lz, sz, _⟩
      exact ⟨_, rfl, k m zs G hm B4 (fun x o n h => kp x o n (ne_of_none h hm) (ne_of_none h fl) h) gz sz lz⟩

end

section
variable {P : Program} {w : World} {K : PySem.W.Frag} {mg : Str → Option Value} {base : Heap} {A : Ad}
theorem ok_law_plus_kept (T : Txt K mg A)  (g_m_add : Okd P w K mg base (L2N.CX P w) 8 A.m_add P_m_add (spAdd A)) (g_law_update : Okd P w K mg base CX0 3 A.law_update P_law_update (spUpd A)) (h_law_whole : Okh P w K mg base CX0 1 A.law_whole P_law_whole spWh) : Okd P w K mg base CX0 9 A.law_plus_kept P_law_plus_kept (spPk A) := by
  obtain ⟨fd, F⟩ := T.d_law_plus_kept
  obtain ⟨fd_m_add, G_m_add, b_m_add⟩ := g_m_add
  obtain ⟨fd_law_update, G_law_update, b_law_update⟩ := g_law_update
  obtain ⟨fdh_law_whole, H_law_whole, hb_law_whole⟩ := h_law_whole
  refine ⟨fd, F.ok sc_law_plus_kept (fun vs H Q E h => ?_) (fun cdv A' outer s H vs Q E hr h => ?_), F.binds fun _ _ _ _ _ _ us hl => match us, hl with | [_, _, _], _ => rfl⟩
  · obtain ⟨u, t, d, a, b, rfl, _⟩ := h
    rfl
  · obtain ⟨u, t, d, a, b, rfl, hu, ht, ga, gb, hd, k⟩ := h
    refine ⟨_, (pss_cons (L2N.ps_try_manyNN rfl rfl L2N.takes0N (fun W pn xe tk _ => (pss_one (ps_set (i := 3) sc_law_plus_kept.nd rfl (Or.inl rfl) (OwI.pe_binIS T.o_add.1 T.o_add.2 T.o_sf G_m_add (hr.mono (by decide)) b_m_add (fun σ => L2N.passAt tk σ) (pv 0) (pv 1))))) (L2N.HdsNN.consN (i := 4) sc_law_plus_kept.nd rfl rfl ⟨rfl, by decide, .inl T.e_InvalidUpdate.g⟩ (fun a oe cls d pn hz hf => (pss_one (ps_ret (pe_and (pe_cmpR op_eq (pe_ix (ix_listK (K := K) rfl) (pv 2) pe_int (fun _ _ => rfl)) pe_str (nomark _)) (pe_and (pe_callB (call_isS2 (K := K) rfl hz.zc hf) (by rfl) T.n_isinstance (by decide +kernel) (pa_cons (pv 4) (pa_cons (pe_glob (v := .ref A.MendError) rfl T.e_MendError.g rfl) pa_nil))) (pe_one (pe_not (pe_callB (call_isS2 (K := K) rfl hz.zc hf) (by rfl) T.n_isinstance (by decide +kernel) (pa_cons (pv 4) (pa_cons (pe_glob (v := .ref A.Busy) rfl T.e_Busy.g rfl) pa_nil)))))))))) (L2N.HdsNN.consN (i := 4) sc_law_plus_kept.nd rfl rfl ⟨rfl, by decide, .inl T.e_Busy.g⟩ (fun a oe cls d pn hz hf => (pss_one (ps_ret (pe_and (pe_cmpR op_eq (pe_ix (ix_listK (K := K) rfl) (pv 2) pe_int (fun _ _ => rfl)) pe_str (nomark _)) (pe_and (pe_callB (call_isS2 (K := K) rfl hz.zc hf) (by rfl) T.n_isinstance (by decide +kernel) (pa_cons (pv 4) (pa_cons (pe_glob (v := .ref A.MendError) rfl T.e_MendError.g rfl) pa_nil))) (pe_one (L2H.pe_callH H_law_whole (L2H.roomH_mark (hr.mono (by decide)) _) (hot_suite hz hf) (by rfl) T.g_law_whole T.k_law_whole hb_law_whole (passH0 (fun _ => E0)) (pa_cons (pe_xf T.e_Busy.xfc T.f_Busy.nf hz.zc hf (pv 4)) (pa_cons (pe_ix (ix_listK (K := K) rfl) (pv 2) pe_int (fun _ _ => rfl)) pa_nil))))))))) L2N.HdsNN.nil)))
      (pss_one (ps_ret (pe_and (pe_cmpR op_eq (pe_ix ix_list (pv 2) pe_int (fun _ _ => rfl)) pe_str (nomark _)) (pe_one (pe_call G_law_update (hr.mono (by decide)) (by rfl) T.g_law_update T.k_law_update b_law_update .nil pass0 (pa_cons (pv 3) (pa_cons (pe_ix ix_list (pv 2) pe_int (fun _ _ => rfl)) (pa_cons (pe_ix ix_list (pv 2) pe_int (fun _ _ => rfl)) pa_nil))))))))), ?_⟩
    obtain ⟨dx, p, q, h1, hp, hq, np, nq⟩ := id hu
    obtain ⟨dx2, p2, q2, h2, hp2, hq2, np2, nq2⟩ := id ht
    obtain ⟨x, y, hd, hxy⟩ := hd
    refine ⟨_, rfl, _, rfl, u, dx, _, t, dx2, _, rfl, rfl, h1, h2, u, t, a, b, rfl, hu, ht, ga, gb, fun ys zs so r H3 hr3 e3 gr => ?_, ?_, ?_⟩
    · rw [so] at hd hxy
      obtain ⟨gx, gy⟩ := hxy ys zs rfl
      have hd3 := e3 _ _ hd
      have gs := sum_good ga gb so
      have gl := gs.len
      have g64 := gs.l64
      exact ⟨_, rfl, d, _, _, _, rfl, rfl, SqL.of hd3, atI_nat (j := 0) rfl, rfl, _, rfl, ifT wd_sum_sm ⟨_, rfl, _, rfl, d, _, _, _, rfl, rfl, SqL.of hd3, atI_nat (j := 2) rfl, _, rfl, d, _, _, _, rfl, rfl, SqL.of hd3, atI_nat (j := 3) rfl, r, x, y, ys, zs, rfl, gr, gx.ex e3, gy.ex e3, gl, Nat.le_succ_of_le g64, fun H4 e4 => k H4 (e3.trans e4)⟩⟩
    · intro so H3 e3
      rw [so] at hd
      refine ⟨true, T.e_InvalidUpdate.exm, fun _ a0 ha0 => ?_, fun z => (nomatch z)⟩
      refine ⟨_, rfl, d, _, _, _, rfl, rfl, SqL.of (e3 _ _ hd), atI_nat (j := 0) rfl, rfl, _, rfl, ifT wd_differ_df ?_⟩
      refine ⟨_, rfl, A.InvalidUpdate, _, _, true, rfl, rfl, Or.inl rfl, T.e_InvalidUpdate.exc T.cn T.ct, ClsV.own _, T.e_InvalidUpdate.kit_base T.e_MendError (ne_ix T.nd 5 0 rfl rfl (by decide)), _, rfl, iteT ?_⟩
      refine ⟨_, rfl, A.InvalidUpdate, _, _, false, rfl, rfl, Or.inl rfl, T.e_InvalidUpdate.exc T.cn T.ct, ClsV.own _, T.e_InvalidUpdate.kit_ne T.e_Busy (ne_ix T.nd 5 3 rfl rfl (by decide)) (ne_ix T.nd 0 3 rfl rfl (by decide)), _, rfl, ?_⟩
      exact k H3 e3
    · intro z so d2 H3 e3 hd2
      rw [so] at hd
      refine ⟨false, T.e_Busy.exm_ne T.e_InvalidUpdate (ne_ix T.nd 3 5 rfl rfl (by decide)) (ne_ix T.nd 0 5 rfl rfl (by decide)), fun z => (nomatch z), fun _ => ?_⟩
      refine ⟨true, T.e_Busy.exm, fun _ a0 ha0 => ?_, fun z => (nomatch z)⟩
      refine ⟨_, rfl, d, _, _, _, rfl, rfl, SqL.of (e3 _ _ hd), atI_nat (j := 0) rfl, rfl, _, rfl, ifT wd_busy_bz ?_⟩
      refine ⟨_, rfl, A.Busy, _, _, true, rfl, rfl, Or.inr ⟨d2, _, rfl, hd2⟩, T.e_Busy.exc T.cn T.ct, ClsV.own _, T.e_Busy.kit_base T.e_MendError (ne_ix T.nd 3 0 rfl rfl (by decide)), _, rfl, iteT ?_⟩
      refine ⟨_, rfl, rfl, rfl, d2, _, _, rfl, hd2, rfl, _, rfl, d, _, _, _, rfl, rfl, SqL.of (e3 _ _ hd), atI_nat (j := 1) rfl, (z : Int), (z : Int), rfl, ?_⟩
      rw [decide_eq_true rfl]
      exact k H3 e3

end

section
variable {P : Program} {w : World} {K : PySem.W.Frag} {mg : Str → Option Value} {base : Heap} {A : Ad}
theorem ok_m_records (T : Txt K mg A)   : Okd P w K mg base CX0 1 A.m_records P_m_records (spRec A) := by
  obtain ⟨fd, F⟩ := T.d_m_records

  refine ⟨fd, F.ok sc_m_records (fun vs H Q E h => ?_) (fun cdv A' outer s H vs Q E hr h => ?_), F.binds fun _ _ _ _ _ _ us hl => match us, hl with | [_], _ => rfl⟩
  · obtain ⟨u, ys, zs, rfl, _⟩ := h
    rfl
  · obtain ⟨u, ys, zs, rfl, hu, lz, l65, k⟩ := h
    refine ⟨_, (pss_cons (ps_set (i := 1) sc_m_records.nd rfl (Or.inr rfl) (pe_fld (pv 0) rfl))
      (pss_one (ps_ret (pe_lc (own := [("record", 3), ("name", 2)]) (g := gTup K 2 (gCons (gName 3) (gCons (gName 2) gNil))) (tt := _) (by rfl) sc_m_records.nd (pi_enum (by rfl) T.n_enumerate (pa_cons (pe_fld (pv 0) rfl) pa_nil)) (blkOk_by (own := [("record", 3), ("name", 2)]) (N := N_m_records) (sc := defScope s_m_records) (by decide +kernel)) (fun _ _ _ _ _ => (pg_tup (by rfl) (pgs_cons (pg_name (i := 3) sc_m_records.nd rfl (Or.inl rfl)) (pgs_cons (pg_name (i := 2) sc_m_records.nd rfl (Or.inl rfl)) pgs_nil)))) (fun _ _ _ _ _ => (pts_one (pt_cmpR op_ne (pv 2) (pe_ix (ix_listK (K := K) rfl) (pv 1) (pv 3) (fun _ _ => rfl)) (nomark _)))) (fun _ _ _ _ _ => (pv 3)))))), ?_⟩
    obtain ⟨dx, p, q, h1, hp, hq, np, nq⟩ := hu
    refine ⟨_, rfl, u, _, dx, _, _, rfl, h1, T.cR, T.nc_after, rfl, ?_⟩
    refine ⟨_, rfl, u, _, dx, _, _, rfl, h1, T.cR, T.nc_before, rfl, p, nI ys, rfl, SqL.of hp, fun D hD => ?_⟩
    refine lc_it (walk_enum (K := K) (a := p) (xs := nI ys)) (fun j G => Ex H G ∧ ListN G D ((List.range j).filter fun x => decide (ys.getD x 0 ≠ zs.getD x 0))) ⟨Ex.new hD, upd_same⟩ (fun j G _ z => SqL.of (z.1 _ _ hp)) ?_ ?_
    · rintro j x G G' hj ⟨eG, gD⟩ ⟨t, x1, y1, rfl, ht, rfl, e1, e2⟩
      cases e1
      obtain ⟨jl, rfl⟩ := nat_at e2
      have eT := Ex.new (o := .tup [V.int (j : Int), V.int ((ys.getD j 0 : Nat) : Int)]) ht
      have gT : upd G t (.tup [V.int (j : Int), V.int ((ys.getD j 0 : Nat) : Int)]) t = some (.tup [V.int (j : Int), V.int ((ys.getD j 0 : Nat) : Int)]) := upd_same
      have gD2 := eT _ _ gD
      have eG2 := eG.trans eT
      have rs : (List.range (j + 1)).filter (fun x => decide (ys.getD x 0 ≠ zs.getD x 0)) = (List.range j).filter (fun x => decide (ys.getD x 0 ≠ zs.getD x 0)) ++ (if decide (ys.getD j 0 ≠ zs.getD j 0) = true then [j] else []) := by
        rw [List.range_succ, List.filter_append, List.filter_cons]
        rfl
      generalize upd G t (.tup [V.int (j : Int), V.int ((ys.getD j 0 : Nat) : Int)]) = G2 at gT gD2 eG2 ⊢
      refine ⟨t, _, rfl, SqT.of gT, rfl, _, _, rfl, _, _, rfl, rfl, rfl, _, rfl, _, rfl, _, rfl, q, _, _, _, rfl, rfl, SqL.of (eG2 _ _ hq), atN (by omega), rfl, _, rfl, ?_⟩
      by_cases c : ys.getD j 0 = zs.getD j 0
      · refine ifF (by rw [c]; simp) ⟨eG2, ?_⟩
        rw [rs, if_neg (by rw [decide_eq_true_iff]; exact fun h => h c), List.append_nil]
        exact gD2
      · refine ifT (by rw [decide_eq_false (fun e => c (by injection e with e; omega))]; rfl) ⟨_, rfl, _, gD2, small1000 (by rw [nI_len]; have := List.length_filter_le (fun x => decide (ys.getD x 0 ≠ zs.getD x 0)) (List.range j); rw [List.length_range] at this; omega), fun y o ho => by rw [upd_ne (ne_of_none ho hD)]; exact eG2 _ _ ho, ?_⟩
        show upd G2 D _ D = _
        rw [upd_same, rs, if_pos (decide_eq_true c), nI_app]
    · rintro G ⟨eG, gD⟩
      rw [nI_len] at gD
      exact k D G hD eG gD

end

section
variable {P : Program} {w : World} {K : PySem.W.Frag} {mg : Str → Option Value} {base : Heap} {A : Ad}
theorem ok_law_rest_kept (T : Txt K mg A)  (g_m_rest : Okd P w K mg base (L2N.CX P w) 8 A.m_rest P_m_rest (spRst A)) (g_law_row : Okd P w K mg base CX0 2 A.law_row P_law_row spRw) (g_law_spoil : Okd P w K mg base CX0 1 A.law_spoil P_law_spoil spSpl) (g_law_whole : Okd P w K mg base CX0 1 A.law_whole P_law_whole spWh) (g_m_len : Okd P w K mg base CX0 3 A.m_len P_m_len (spLen A)) (g_law_update : Okd P w K mg base CX0 3 A.law_update P_law_update (spUpd A)) (g_law_draw : Okd P w K mg base CX0 2 A.law_draw P_law_draw spDw) (g_law_entry : Okd P w K mg base CX0 1 A.law_entry P_law_entry spEn) (g_law_unsettled : Okd P w K mg base CX0 1 A.law_unsettled P_law_unsettled spUn) (h_law_whole : Okh P w K mg base CX0 1 A.law_whole P_law_whole spWh) (h_law_unsettled : Okh P w K mg base CX0 1 A.law_unsettled P_law_unsettled spUn) : Okd P w K mg base CX0 12 A.law_rest_kept P_law_rest_kept spRk := by
  obtain ⟨fd, F⟩ := T.d_law_rest_kept
  obtain ⟨fd_m_rest, G_m_rest, b_m_rest⟩ := g_m_rest
  obtain ⟨fd_law_row, G_law_row, b_law_row⟩ := g_law_row
  obtain ⟨fd_law_spoil, G_law_spoil, b_law_spoil⟩ := g_law_spoil
  obtain ⟨fd_law_whole, G_law_whole, b_law_whole⟩ := g_law_whole
  obtain ⟨fd_m_len, G_m_len, b_m_len⟩ := g_m_len
  obtain ⟨fd_law_update, G_law_update, b_law_update⟩ := g_law_update
  obtain ⟨fd_law_draw, G_law_draw, b_law_draw⟩ := g_law_draw
  obtain ⟨fd_law_entry, G_law_entry, b_law_entry⟩ := g_law_entry
  obtain ⟨fd_law_unsettled, G_law_unsettled, b_law_unsettled⟩ := g_law_unsettled
  obtain ⟨fdh_law_whole, H_law_whole, hb_law_whole⟩ := h_law_whole
  obtain ⟨fdh_law_unsettled, H_law_unsettled, hb_law_unsettled⟩ := h_law_unsettled
  refine ⟨fd, F.ok sc_law_rest_kept (fun vs H Q E h => ?_) (fun cdv A' outer s H vs Q E hr h => ?_), F.binds fun _ _ _ _ _ _ us hl => match us, hl with | [_, _], _ => rfl⟩
  · obtain ⟨b, c, p, ys, rfl, _⟩ := h
    rfl
  · obtain ⟨b, c, p, ys, rfl, B, hp, sy, l64, k⟩ := h
    refine ⟨_, (pss_cons (ps_set (i := 2) sc_law_rest_kept.nd rfl (Or.inl rfl) (pe_callTy call_list_of (by rfl) T.n_list (by decide +kernel) (pa_cons (pv 1) pa_nil)))
      (pss_cons (ps_set (i := 3) sc_law_rest_kept.nd rfl (Or.inl rfl) (MkS.pe_cmethS (pe_glob (v := .ref A.Update) rfl T.g_Update rfl) T.rd T.cm G_m_rest (hr.mono (by decide)) b_m_rest (fun σ => L2N.passAt L2N.takes0N σ) (pa_cons (pv 2) pa_nil)))
      (pss_cons (ps_if (pt_not (pt_val (pe_call G_law_row (hr.mono (by decide)) (by rfl) T.g_law_row T.k_law_row b_law_row .nil pass0 (pa_cons (pv 2) (pa_cons (pv 1) pa_nil))))) (pss_one (ps_ret pe_bl)) pss_nil)
      (pss_cons (ps_expr (pe_call G_law_spoil (hr.mono (by decide)) (by rfl) T.g_law_spoil T.k_law_spoil b_law_spoil .nil pass0 (pa_cons (pv 2) pa_nil)))
      (pss_cons (ps_if (PW.pt (pw_or (pt_not (pt_val (pe_call G_law_update (hr.mono (by decide)) (by rfl) T.g_law_update T.k_law_update b_law_update .nil pass0 (pa_cons (pv 3) (pa_cons (pv 1) (pa_cons (pv 1) pa_nil)))))) (pw_or1 (pt_not (pt_val (pe_call G_law_whole (hr.mono (by decide)) (by rfl) T.g_law_whole T.k_law_whole b_law_whole .nil pass0 (pa_cons (pe_callB (OwI.call_lenI T.o_len.1 T.o_len.2 (raw0 G_m_len b_m_len) (hr.mono (by decide)) pass0) (by rfl) T.n_len PySem.boot_len (pa_cons (pv 3) pa_nil)) (pa_cons pe_int pa_nil)))))))) (pss_one (ps_ret pe_bl)) pss_nil)
      (pss_cons (ps_set (i := 4) sc_law_rest_kept.nd rfl (Or.inl rfl) (pe_callTy call_list_of (by rfl) T.n_list (by decide +kernel) (pa_cons (pv 1) pa_nil)))
      (pss_cons (ps_for PassesOwn.never rfl (pi_range1 (by rfl) T.n_range (pa_cons (pe_call G_law_draw (hr.mono (by decide)) (by rfl) T.g_law_draw T.k_law_draw b_law_draw .nil pass0 (pa_cons (pv 0) (pa_cons pe_int pa_nil))) pa_nil)) (pg_name (i := 5) sc_law_rest_kept.nd rfl (Or.inl rfl)) (pss_one (ps_if (pt_cmpR op_gt (pe_callB call_len_seq (by rfl) T.n_len PySem.boot_len (pa_cons (pv 4) pa_nil)) pe_int (nomark _)) (pss_cons (ps_set (i := 6) sc_law_rest_kept.nd rfl (Or.inl rfl) (pe_op op_cat (pe_lst (pa_cons (pe_un un_neg pe_int) (pa_cons (pe_callB call_len_seq (by rfl) T.n_len PySem.boot_len (pa_cons (pv 4) pa_nil)) (pa_cons (pe_op op_pow pe_int pe_int) pa_nil)))) (pe_listRg (by rfl) (by rfl) T.n_list (prg_1 (by rfl) T.n_range (pe_callB call_len_seq (by rfl) T.n_len PySem.boot_len (pa_cons (pv 4) pa_nil))))))
      (pss_one (ps_asg (pe_ix ix_list (pv 6) (pe_call G_law_draw (hr.mono (by decide)) (by rfl) T.g_law_draw T.k_law_draw b_law_draw .nil pass0 (pa_cons (pv 0) (pa_cons (pe_callB call_len_seq (by rfl) T.n_len PySem.boot_len (pa_cons (pv 6) pa_nil)) pa_nil))) (fun _ _ => rfl)) (pg_sub (pv 4) (pe_call G_law_draw (hr.mono (by decide)) (by rfl) T.g_law_draw T.k_law_draw b_law_draw .nil pass0 (pa_cons (pv 0) (pa_cons (pe_callB call_len_seq (by rfl) T.n_len PySem.boot_len (pa_cons (pv 4) pa_nil)) pa_nil))) set_list)))) pss_nil)))
      (pss_cons (ps_set (i := 7) sc_law_rest_kept.nd rfl (Or.inl rfl) (pe_call G_law_entry (hr.mono (by decide)) (by rfl) T.g_law_entry T.k_law_entry b_law_entry .nil pass0 (pa_cons (pv 4) pa_nil)))
      (pss_cons (L2N.ps_try_manyNN rfl rfl L2N.takes0N (fun W pn xe tk _ => (pss_one (ps_set (i := 3) sc_law_rest_kept.nd rfl (Or.inl rfl) (MkS.pe_cmethS (pe_glob (v := .ref A.Update) rfl T.g_Update rfl) T.rd T.cm G_m_rest (hr.mono (by decide)) b_m_rest (fun σ => L2N.passAt tk σ) (pa_cons (pe_callTy (T := "list") (call_list_ofK (K := K) rfl) (by rfl) T.n_list (by decide +kernel) (pa_cons (pv 4) pa_nil)) pa_nil))))) (L2N.HdsNN.consN (i := 8) sc_law_rest_kept.nd rfl rfl ⟨rfl, by decide, .inl T.e_InvalidImage.g⟩ (fun a oe cls d pn hz hf => (pss_one (ps_ret (pe_and (pe_cmpR op_ge (pv 7) pe_int (nomark _)) (pe_and (L2H.pe_callH H_law_whole (L2H.roomH_mark (hr.mono (by decide)) _) (hot_suite hz hf) (by rfl) T.g_law_whole T.k_law_whole hb_law_whole (passH0 (fun _ => E0)) (pa_cons (pe_xf T.e_InvalidImage.xfc T.f_InvalidImage.nf hz.zc hf (pv 8)) (pa_cons (pv 7) pa_nil))) (pe_one (pe_not (pe_callB (call_isS2 (K := K) rfl hz.zc hf) (by rfl) T.n_isinstance (by decide +kernel) (pa_cons (pv 8) (pa_cons (pe_glob (v := .ref A.NotState) rfl T.e_NotState.g rfl) pa_nil)))))))))) (L2N.HdsNN.consN (i := 8) sc_law_rest_kept.nd rfl rfl ⟨rfl, by decide, .inl T.e_NotState.g⟩ (fun a oe cls d pn hz hf => (pss_one (ps_ret (pe_and (pe_cmpR op_lt (pv 7) pe_int (nomark _)) (pe_and (pe_callB (call_isS2 (K := K) rfl hz.zc hf) (by rfl) T.n_isinstance (by decide +kernel) (pa_cons (pv 8) (pa_cons (pe_glob (v := .ref A.MendError) rfl T.e_MendError.g rfl) pa_nil))) (pe_one (L2H.pe_callH H_law_whole (L2H.roomH_mark (hr.mono (by decide)) _) (hot_suite hz hf) (by rfl) T.g_law_whole T.k_law_whole hb_law_whole (passH0 (fun _ => E0)) (pa_cons (pe_xf T.e_NotState.xfc T.f_NotState.nf hz.zc hf (pv 8)) (pa_cons (L2H.pe_callH H_law_unsettled (L2H.roomH_mark (hr.mono (by decide)) _) (hot_suite hz hf) (by rfl) T.g_law_unsettled T.k_law_unsettled hb_law_unsettled (passH0 (fun _ => E0)) (pa_cons (pv 4) pa_nil)) pa_nil))))))))) L2N.HdsNN.nil)))
      (pss_one (ps_ret (pe_and (pe_cmpR op_lt (pv 7) pe_int (nomark _)) (pe_and (pe_cmpR op_lt (pe_call G_law_unsettled (hr.mono (by decide)) (by rfl) T.g_law_unsettled T.k_law_unsettled b_law_unsettled .nil pass0 (pa_cons (pv 4) pa_nil)) pe_int (nomark _)) (pe_one (pe_call G_law_update (hr.mono (by decide)) (by rfl) T.g_law_update T.k_law_update b_law_update .nil pass0 (pa_cons (pv 3) (pa_cons (pv 4) (pa_cons (pv 4) pa_nil)))))))))))))))))), ?_⟩
    refine ⟨_, rfl, p, _, rfl, .inl hp.sz, fun c1 hc1 => ?_⟩
    have e1 := Ex.new (o := .lst (nI ys)) hc1
    have k1 : ListN (upd H c1 (.lst (nI ys))) c1 ys := upd_same
    have nc1 : c1 ≠ p := (ne_of_none hp hc1).symm
    have hp1 := hp.ex e1
    have B1 := B.ex e1
    generalize upd H c1 (.lst (nI ys)) = H1 at e1 k1 hp1 B1 ⊢
    have sf := sta_fault sy
    have f0 : faultF (toI ys) (toI ys) = none := good_fault (a := (ys, ys)) ⟨sy, sy, rfl, l64⟩
    refine ⟨rfl, _, rfl, c1, toI ys, rfl, k1.int, by rw [toI_len]; omega, fun _ t H2 ht e2 g2 => ?_, fun f hf => by rw [f0] at hf; cases hf⟩
    rw [toI_nat] at g2
    have k2 := k1.ex e2
    have hp2 := hp1.ex e2
    refine ⟨_, rfl, _, rfl, c1, p, ys, rfl, k2, hp2, by omega, fun H3 e3 => ⟨_, rfl, iteF ?_⟩⟩
    obtain ⟨dx, q1, q2, g3, g4, g5, n1, n2, f1, f2⟩ := g2
    have k3 := k2.ex e3
    have nt : t ≠ c1 := (ne_of_none k1 ht).symm
    have nq1 : q1 ≠ c1 := (ne_of_none k1 f1).symm
    have nq2 : q2 ≠ c1 := (ne_of_none k1 f2).symm
    have e03 := (e1.trans e2).trans e3
    have hpc : H c1 = none := hc1
    refine ⟨_, rfl, c1, nI ys, rfl, k3, by rw [nI_len]; omega, fun vs4 H4 keep hc4 => ?_⟩
    have kp4 : ∀ x o, H x = some o → H4 x = some o := fun x o h => keep x o (ne_of_none h hc1) (e03 _ _ h)
    have hp4 : ListN H4 p ys := kp4 _ _ hp
    have ut : UpAt A H4 t ys ys := ⟨dx, q1, q2, keep _ _ nt (e3 _ _ g3), keep _ _ nq1 (g4.ex e3), keep _ _ nq2 (g5.ex e3), n1, n2⟩
    have B4 : Bx H4 b c := B.keep (fun o h => kp4 _ _ h) (fun o h => kp4 _ _ h)
    clear keep hc4
    refine ⟨_, rfl, _, rfl, _, rfl, t, p, p, ys, ys, rfl, ut, hp4, hp4, rfl, by omega, fun H5 e5 => ⟨_, rfl, ?_⟩⟩
    refine iteF ?_
    have ut5 := ut.ex e5
    obtain ⟨dx5, _, _, h5, _⟩ := id ut5
    refine ⟨_, rfl, t, dx5, _, rfl, h5, t, ys, ys, rfl, ut5, rfl, by omega, fun H6 e6 => ?_⟩
    rw [recsF_nil]
    refine ⟨_, rfl, by omega, by decide, _, _, rfl, _, rfl, ifF (by rfl) ?_⟩
    have e46 := e5.trans e6
    have hp6 := hp4.ex e46
    have B6 := B4.ex e46
    have kp6 : Ex H H6 := fun x o h => e46 _ _ (kp4 x o h)
    clear ut ut5 h5 kp4 hp4 B4 e46 e5 e6
    refine ⟨_, rfl, p, _, rfl, .inl hp6.sz, fun c2 hc2 => ?_⟩
    have e7 := Ex.new (o := .lst (nI ys)) hc2
    have hb7 : ListI (upd H6 c2 (.lst (nI ys))) c2 (toI ys) := ListN.int upd_same
    have E7 := kp6.trans e7
    have B7 := B6.ex e7
    have nc2b : c2 ≠ b := (B6.ne hc2).1
    have nc2c : c2 ≠ c := (B6.ne hc2).2
    have hc2H := back_none kp6 hc2
    generalize upd H6 c2 (.lst (nI ys)) = H7 at e7 hb7 E7 B7 ⊢
    refine ⟨_, rfl, b, c, 3, rfl, by decide, by decide, B7, fun d H8 dlt B8 M8 => ⟨_, rfl, by omega, by omega, ?_⟩⟩
    rw [Int.toNat_natCast]
    refine for_range (lo := 0) (n := d) (fun i σ G => ∃ (v5 v6 : Option V) (xs : List Int), σ = [some (.ref b), some (.ref p), some (.ref c1), some (.ref t), some (.ref c2), v5, v6, none, none] ∧ Bx G b c ∧ (∀ x o, x ≠ b → x ≠ c2 → H x = some o → G x = some o) ∧ ListI G c2 xs ∧ xs.length = ys.length)
      ⟨none, none, toI ys, rfl, B8, fun x o n1 _ h => M8 _ _ n1 (E7 _ _ h), M8 _ _ nc2b hb7, toI_len⟩ ?_ ?_
    · rintro i σ G hi ⟨v5, v6, xs, rfl, BG, kp, hb, lx⟩
      have nx : (xs.map V.int).length = xs.length := List.length_map ..
      refine ⟨_, rfl, c2, _, rfl, .inl (SqL.of hb), _, _, rfl, rfl, _, rfl, ?_⟩
      refine ite_b (fun cc => ?_) (fun cc => ⟨_, _, xs, rfl, BG, kp, hb, lx⟩)
      have x0 : 0 < xs.length := by have := of_decide_eq_true cc; omega
      refine ⟨_, rfl, _, rfl, c2, _, rfl, .inl (SqL.of hb), _, _, rfl, rfl, ⟨by decide, by decide, by decide⟩, (by show 3 ≤ sizeLine; decide), fun l0 hl0 => ?_⟩
      have keepF : ∀ (G G' : Hp), Ex G G' → (∀ x o, x ≠ b → x ≠ c2 → H x = some o → G x = some o) → (∀ x o, x ≠ b → x ≠ c2 → H x = some o → G' x = some o) := fun G G' e k x o n1 n2 h => e _ _ (k x o n1 n2 h)
      have e9 := Ex.new (o := .lst [V.int (-1), V.int ((xs.map V.int).length : Nat), V.int (10 ^ Int.toNat 20)]) hl0
      have h0 : upd G l0 (.lst [V.int (-1), V.int ((xs.map V.int).length : Nat), V.int (10 ^ Int.toNat 20)]) l0 = some (.lst [V.int (-1), V.int ((xs.map V.int).length : Nat), V.int (10 ^ Int.toNat 20)]) := upd_same
      have B9 := BG.ex e9
      have kp9 := keepF _ _ e9 kp
      have hb9 := e9 _ _ hb
      generalize upd G l0 (.lst [V.int (-1), V.int ((xs.map V.int).length : Nat), V.int (10 ^ Int.toNat 20)]) = G9 at e9 h0 B9 kp9 hb9 ⊢
      refine ⟨_, rfl, c2, _, rfl, .inl (SqL.of hb9), _, rfl, RgOk.of_le (by omega) (by omega) (by omega) (by omega), fun r hr => ?_⟩
      have ea := Ex.new (o := .lst (rgV 0 ((xs.map V.int).length : Nat))) hr
      have hr2 : upd G9 r (.lst (rgV 0 ((xs.map V.int).length : Nat))) r = some (.lst (rgV 0 ((xs.map V.int).length : Nat))) := upd_same
      have Ba := B9.ex ea
      have kpa := keepF _ _ ea kp9
      have hba := ea _ _ hb9
      have h0a := ea _ _ h0
      generalize upd G9 r (.lst (rgV 0 ((xs.map V.int).length : Nat))) = Ga at ea hr2 Ba kpa hba h0a ⊢
      obtain ⟨ms, hms, lms⟩ : ∃ ms : List Int, [V.int (-1), V.int ((xs.map V.int).length : Nat), V.int (10 ^ Int.toNat 20)] ++ rgV 0 ((xs.map V.int).length : Nat) = ms.map V.int ∧ ms.length = 3 + xs.length := by
        refine ⟨([-1, (((xs.map V.int).length : Nat) : Int), 10 ^ Int.toNat 20] : List Int) ++ (List.range xs.length).map (fun i => (0 : Int) + (i : Nat)), ?_, by rw [nx, List.length_append, List.length_map, List.length_range]; rfl⟩
        unfold rgV
        rw [List.map_append, List.map_map, show (((xs.map V.int).length : Nat) - (0 : Int)).toNat = xs.length from by rw [nx]; omega]
        rfl
      have rl : (rgV 0 ((xs.map V.int).length : Nat)).length = xs.length := by
        rw [rgV_length, nx]
        omega
      refine ⟨l0, r, _, _, rfl, rfl, h0a, hr2, Nat.le_of_lt (small1000 (by rw [rl]; show 3 + _ ≤ 1000; omega)), fun mn hmn => ?_⟩
      rw [hms]
      have eb := Ex.new (o := .lst (ms.map V.int)) hmn
      have gm : upd Ga mn (.lst (ms.map V.int)) mn = some (.lst (ms.map V.int)) := upd_same
      have Bb := Ba.ex eb
      have kpb := keepF _ _ eb kpa
      have hbb := eb _ _ hba
      have nmc : c2 ≠ mn := ne_of_none hba hmn
      have nmb : mn ≠ b := (Ba.ne hmn).1
      generalize upd Ga mn (.lst (ms.map V.int)) = Gb at eb gm Bb kpb hbb ⊢
      have nm : (ms.map V.int).length = ms.length := List.length_map ..
      refine ⟨_, rfl, _, rfl, _, rfl, mn, _, rfl, .inl (SqL.of gm), b, c, _, rfl, by omega, by omega, Bb, fun j1 Gc j1l Bc Mc => ?_⟩
      rw [nm] at j1l
      have jl : j1 < ms.length := by omega
      have mz : ms[j1]? = some ms[j1] := List.getElem?_eq_getElem jl
      generalize ms[j1] = z at mz
      have hbc := Mc _ _ nc2b hbb
      refine ⟨mn, _, _, _, rfl, rfl, SqL.of (Mc _ _ nmb gm), atI_nat (j := j1) (by rw [List.getElem?_map, mz]; rfl), ?_⟩
      refine ⟨_, rfl, _, rfl, _, rfl, c2, _, rfl, .inl (SqL.of hbc), b, c, _, rfl, by omega, by omega, Bc, fun j2 Gd j2l Bd Md => ?_⟩
      rw [nx] at j2l
      have hbd := Md _ _ nc2b hbc
      refine ⟨c2, _, _, j2, rfl, rfl, hbd, Evl.ixN_nat (by rw [nx]; omega), ?_⟩
      rw [← List.map_set]
      exact ⟨_, _, xs.set j2 z, rfl, Bd.keep (fun o h => by rw [upd_ne nc2b.symm]; exact h) (fun o h => by rw [upd_ne nc2c.symm]; exact h), fun x o n1 n2 h => by rw [upd_ne n2]; exact Md _ _ n1 (Mc _ _ n1 (kpb x o n1 n2 h)), upd_same, by rw [List.length_set]; exact lx⟩
    rintro σ G ⟨v5, v6, xs, rfl, BG, kp, hb, lx⟩
    refine ⟨_, rfl, c2, xs, rfl, hb, by omega, fun H5 e5 => ?_⟩
    have hb5 := hb.ex e5
    refine ⟨rfl, _, rfl, c2, _, rfl, .inl (SqL.of hb5), fun c3 hc3 => ?_⟩
    have e6 := Ex.new (o := .lst (xs.map V.int)) hc3
    have k3 : ListI (upd H5 c3 (.lst (xs.map V.int))) c3 xs := upd_same
    have e56 := e5.trans e6
    have done : ∀ H', Ex (upd H5 c3 (.lst (xs.map V.int))) H' → Q (.bl true) H' := fun H' e' => k H' (BG.ex (e56.trans e')) (fun x o n h => (e56.trans e') _ _ (kp x o n (ne_of_none h hc2H) h))
    have hb6 := hb.ex e56
    have l65 : xs.length ≤ 65 := by omega
    generalize upd H5 c3 (.lst (xs.map V.int)) = H6 at e6 k3 e56 done hb6 ⊢
    refine ⟨c3, xs, rfl, k3, by omega, fun f0 t2 H7 ht2 e7 g7 => ?_, fun f hf => ?_⟩
    · obtain ⟨st, un⟩ := fault_none f0
      rw [st]
      refine ⟨_, rfl, _, _, rfl, rfl, _, rfl, ifT rfl ?_⟩
      refine ⟨_, rfl, c2, xs, rfl, hb6.ex e7, st, l65, fun H8 e8 => ?_⟩
      rw [un]
      refine ⟨_, _, rfl, rfl, _, rfl, ifT rfl ?_⟩
      have nb := (hb6.nat st).ex (e7.trans e8)
      exact ⟨_, rfl, _, rfl, _, rfl, t2, c2, c2, natI xs, natI xs, rfl, g7.at.ex e8, nb, nb, rfl, by rw [natI_len]; exact l65, fun H9 e9 => done _ ((e7.trans e8).trans e9)⟩
    rcases fault_same hf with ⟨z1, st⟩ | ⟨z2, st, un⟩
    · refine ⟨fun z d H' e' hd => ?_, fun z => absurd (z1.symm.trans z) (by decide), fun z => absurd (z1.symm.trans z) (by decide)⟩
      rw [st]
      refine ⟨true, T.e_InvalidImage.exm, fun _ a0 ha0 => ?_, fun z => (nomatch z)⟩
      refine ⟨_, rfl, _, _, rfl, rfl, _, rfl, ifT (decide_eq_true (Int.natCast_nonneg _)) ?_⟩
      refine ⟨_, rfl, rfl, rfl, d, _, _, rfl, hd, rfl, _, rfl, (f.2 : Int), (f.2 : Int), rfl, ?_⟩
      rw [decide_eq_true rfl]
      refine ⟨_, rfl, iteT ?_⟩
      exact ⟨_, rfl, A.InvalidImage, _, _, false, rfl, rfl, Or.inr ⟨d, _, rfl, hd⟩, T.e_InvalidImage.exc T.cn T.ct, ClsV.own _, T.e_InvalidImage.kit_ne T.e_NotState (ne_ix T.nd 1 2 rfl rfl (by decide)) (ne_ix T.nd 0 2 rfl rfl (by decide)), _, rfl, done H' e'⟩
    · refine ⟨fun z => absurd (z2.symm.trans z) (by decide), fun z d H' e' hd => ?_, fun z => absurd (z2.symm.trans z) (by decide)⟩
      rw [st]
      refine ⟨false, T.e_NotState.exm_ne T.e_InvalidImage (ne_ix T.nd 2 1 rfl rfl (by decide)) (ne_ix T.nd 0 1 rfl rfl (by decide)), fun z => (nomatch z), fun _ => ?_⟩
      refine ⟨true, T.e_NotState.exm, fun _ a0 ha0 => ?_, fun z => (nomatch z)⟩
      refine ⟨_, rfl, _, _, rfl, rfl, _, rfl, ifT rfl ?_⟩
      refine ⟨_, rfl, A.NotState, _, _, true, rfl, rfl, Or.inr ⟨d, _, rfl, hd⟩, T.e_NotState.exc T.cn T.ct, ClsV.own _, T.e_NotState.kit_base T.e_MendError (ne_ix T.nd 2 0 rfl rfl (by decide)), _, rfl, iteT ?_⟩
      refine ⟨_, rfl, rfl, rfl, d, _, _, rfl, hd, rfl, _, rfl, c2, xs, rfl, hb6.ex e', st, l65, fun H8 e8 => ?_⟩
      rw [un]
      refine ⟨(f.2 : Int), (f.2 : Int), rfl, ?_⟩
      rw [decide_eq_true rfl]
      exact done H8 (e'.trans e8)

end

section
variable {P : Program} {w : World} {K : PySem.W.Frag} {mg : Str → Option Value} {base : Heap} {A : Ad}
theorem ok_m_repr (T : Txt K mg A)   : OkdG P w K mg base CX0 1 A.m_repr P_m_repr (spRp A) := by
  obtain ⟨fd, F⟩ := T.d_m_repr

  refine ⟨fd, GdR.okG F sc_m_repr (fun vs H Q E h => ?_) (fun cdv A' outer s H vs Q E gd hr h => ?_), F.binds fun _ _ _ _ _ _ us hl => match us, hl with | [_], _ => rfl⟩
  · obtain ⟨u, ys, zs, rfl, _⟩ := h
    rfl
  · obtain ⟨u, ys, zs, rfl, hu, lz, l65, b1, b2, k⟩ := h
    refine ⟨_, (pss_one (ps_ret (pe_joined (PJ.cons pe_str (PJ.cons (GdR.pe_fmtRD gd (units65R hr) (pe_fld (pv 0) rfl)) (PJ.cons pe_str (PJ.cons (GdR.pe_fmtRD gd (units65R hr) (pe_fld (pv 0) rfl)) (PJ.cons pe_str PJ.nil)))))))), ?_⟩
    obtain ⟨dx, p, q, h1, hp, hq, np, nq⟩ := hu
    have s1 := shN b1 l65
    have s2 := shN b2 (by omega)
    have z0 : (Str.empty ++ ("Update(" : Str)).length = 7 := by decide +kernel
    have z1 : (", " : Str).length = 2 := by decide +kernel
    have z2 : (")" : Str).length = 1 := by decide +kernel
    have big : ∀ n : Nat, n ≤ 100000 → n ≤ sizeLine := fun n h => Nat.le_trans h (by decide)
    refine ⟨_, rfl, big _ (by rw [z0]; decide), _, rfl, u, _, dx, _, _, rfl, h1, T.cR, T.nc_before, rfl, p, dN ys, rfl, dp_N hp, s1.1, s1.2.1, Nat.le_trans (lay_N ys).2.1 (by decide), big _ (by omega), _, rfl, big _ (by rw [Str.length_append, z0]; omega), ?_⟩
    refine ⟨_, rfl, big _ (by rw [Str.length_append, Str.length_append, z0, z1]; omega), _, rfl, u, _, dx, _, _, rfl, h1, T.cR, T.nc_after, rfl, q, dN zs, rfl, dp_N hq, s2.1, s2.2.1, Nat.le_trans (lay_N zs).2.1 (by decide), big _ (by omega), _, rfl, big _ (by rw [Str.length_append, Str.length_append, Str.length_append, z0, z1]; omega), ?_⟩
    refine ⟨_, rfl, big _ (by rw [Str.length_append, Str.length_append, Str.length_append, Str.length_append, z0, z1, z2]; omega), ?_⟩
    exact k H (Ex.refl H)

end

section
variable {P : Program} {w : World} {K : PySem.W.Frag} {mg : Str → Option Value} {base : Heap} {A : Ad}
theorem ok_m_rest (T : Txt K mg A)  (g_m_init : Okd P w K mg base (L2N.CX P w) 6 A.m_init P_m_init (spUi A)) : Okd P w K mg base (L2N.CX P w) 8 A.m_rest P_m_rest (spRst A) := by
  obtain ⟨fd, F⟩ := T.d_m_rest
  obtain ⟨fd_m_init, G_m_init, b_m_init⟩ := g_m_init
  refine ⟨fd, F.okN sc_m_rest (fun vs H Q E h => ?_) (fun cdv A' outer s H vs Q E hr h => ?_), F.binds fun _ _ _ _ _ _ us hl => match us, hl with | [_, _], _ => rfl⟩
  · obtain ⟨a, xs, rfl, _⟩ := h
    rfl
  · obtain ⟨a, xs, rfl, ha, l65, k1, k2⟩ := h
    refine ⟨_, (pss_one (ps_ret (MkS.pe_makeLSP (i := 0) T.mkR G_m_init (hr.mono (by decide)) rfl (by first | exact Or.inl rfl | exact Or.inr (Or.inl rfl)) b_m_init (fun σ => L2N.passAt (L2N.takes_of rfl rfl rfl rfl) σ) (pa_cons (pv 1) (pa_cons (pv 1) pa_nil))))), ?_⟩
    refine ⟨rfl, _, rfl, _, rfl, fun c dx hc hdx ne => ?_⟩
    have e1 : Ex H (upd (upd H dx (.own c)) c (.ins A.Update dx [])) := fun y o hy => by rw [upd_ne (ne_of_none hy hc), upd_ne (ne_of_none hy hdx)]; exact hy
    refine ⟨c, a, a, dx, xs, xs, rfl, upd_same, e1 _ _ ha, e1 _ _ ha, l65, l65, fun nf p2 q2 H' hp2 hq2 npq keep h2 g1 g2 => ⟨rfl, k1 nf c H' hc (fun y o hy => keep y o (ne_of_none hy hc) (e1 y o hy)) ?_⟩, fun f hf => (k2 f hf).from e1⟩
    exact ⟨dx, p2, q2, h2, g1, g2, (fun z => by rw [z, upd_same] at hp2; cases hp2), (fun z => by rw [z, upd_same] at hq2; cases hq2), back_none e1 hp2, back_none e1 hq2⟩

end

section
variable {P : Program} {w : World} {K : PySem.W.Frag} {mg : Str → Option Value} {base : Heap} {A : Ad}
theorem ok_law_row (T : Txt K mg A)  (g_law_whole : Okd P w K mg base CX0 1 A.law_whole P_law_whole spWh) : Okd P w K mg base CX0 2 A.law_row P_law_row spRw := by
  obtain ⟨fd, F⟩ := T.d_law_row
  obtain ⟨fd_law_whole, G_law_whole, b_law_whole⟩ := g_law_whole
  refine ⟨fd, F.ok sc_law_row (fun vs H Q E h => ?_) (fun cdv A' outer s H vs Q E hr h => ?_), F.binds fun _ _ _ _ _ _ us hl => match us, hl with | [_, _], _ => rfl⟩
  · obtain ⟨t, d, xs, rfl, _⟩ := h
    rfl
  · obtain ⟨t, d, xs, rfl, ht, hd, hl, k⟩ := h
    refine ⟨_, (pss_cons (ps_if (PW.pt (pw_or (pt_not (pt_val (pe_callB call_isi (by rfl) T.n_isinstance (by decide +kernel) (pa_cons (pv 0) (pa_cons (pe_bltn (v := .ty "list") (u := .type "list") (by rfl) T.n_list (by decide +kernel) rfl) pa_nil))))) (pw_or1 (pt_cmpR op_ne (pe_callB call_len_seq (by rfl) T.n_len PySem.boot_len (pa_cons (pv 0) pa_nil)) (pe_callB call_len_seq (by rfl) T.n_len PySem.boot_len (pa_cons (pv 1) pa_nil)) (nomark _))))) (pss_one (ps_ret pe_bl)) pss_nil)
      (pss_cons (ps_for PassesOwn.never rfl (pi_range1 (by rfl) T.n_range (pa_cons (pe_callB call_len_seq (by rfl) T.n_len PySem.boot_len (pa_cons (pv 1) pa_nil)) pa_nil)) (pg_name (i := 2) sc_law_row.nd rfl (Or.inl rfl)) (pss_one (ps_if (pt_not (pt_val (pe_call G_law_whole (hr.mono (by decide)) (by rfl) T.g_law_whole T.k_law_whole b_law_whole .nil pass0 (pa_cons (pe_ix ix_list (pv 0) (pv 2) (fun _ _ => rfl)) (pa_cons (pe_ix ix_list (pv 1) (pv 2) (fun _ _ => rfl)) pa_nil))))) (pss_one (ps_ret pe_bl)) pss_nil)))
      (pss_one (ps_ret pe_bl)))), ?_⟩
    refine ⟨_, rfl, _, _, _, _, true, rfl, ClsV.ty "list", TyX.base (TyOf.lst ht), kit_ty (by decide +kernel), ?_⟩
    refine ⟨true, rfl, ?_⟩
    refine iteF ?_
    refine ⟨_, rfl, t, _, rfl, .inl ht.sz, _, rfl, d, _, rfl, .inl hd.sz, rfl, _, rfl, ?_⟩
    rw [show (!decide (V.int ((nI xs).length : Nat) = V.int ((nI xs).length : Nat))) = false from by simp]
    refine iteF ?_
    refine ⟨_, rfl, d, _, rfl, .inl hd.sz, _, rfl, by rw [nI_len]; omega, by rw [nI_len]; omega, ?_⟩
    rw [nI_len, Int.toNat_natCast]
    refine for_range (lo := 0) (n := xs.length) (fun i σ G => ∃ v2, σ = [some (.ref t), some (.ref d), v2] ∧ Ex H G) ⟨none, rfl, Ex.refl H⟩ ?_ ?_
    · rintro i σ G hi ⟨v2, rfl, e⟩
      rw [Int.zero_add]
      refine ⟨_, rfl, _, rfl, t, _, _, _, rfl, rfl, (ht.ex e).sz, atN hi, _, rfl, _, rfl, d, _, _, _, rfl, rfl, (hd.ex e).sz, atN hi, _, _, rfl, ?_⟩
      rw [decide_eq_true rfl]
      refine ⟨true, rfl, ?_⟩
      exact iteF ⟨_, rfl, e⟩
    · rintro σ G ⟨v2, rfl, e⟩
      exact k G e

end

section
variable {P : Program} {w : World} {K : PySem.W.Frag} {mg : Str → Option Value} {base : Heap} {A : Ad}
theorem ok_law_rows (T : Txt K mg A)  (g_law_paired : Okd P w K mg base CX0 4 A.law_paired P_law_paired spPd) (g_law_draw : Okd P w K mg base CX0 2 A.law_draw P_law_draw spDw) (g_law_blocks : Okd P w K mg base CX0 1 A.law_blocks P_law_blocks spBk) (g_law_other : Okd P w K mg base CX0 5 A.law_other P_law_other spPd) : Okd P w K mg base CX0 6 A.law_rows P_law_rows spRws := by
  obtain ⟨fd, F⟩ := T.d_law_rows
  obtain ⟨fd_law_paired, G_law_paired, b_law_paired⟩ := g_law_paired
  obtain ⟨fd_law_draw, G_law_draw, b_law_draw⟩ := g_law_draw
  obtain ⟨fd_law_blocks, G_law_blocks, b_law_blocks⟩ := g_law_blocks
  obtain ⟨fd_law_other, G_law_other, b_law_other⟩ := g_law_other
  refine ⟨fd, F.ok sc_law_rows (fun vs H Q E h => ?_) (fun cdv A' outer s H vs Q E hr h => ?_), F.binds fun _ _ _ _ _ _ us hl => match us, hl with | [_, _], _ => rfl⟩
  · obtain ⟨b, c, n, rfl, _⟩ := h
    rfl
  · obtain ⟨b, c, n, rfl, n64, B, k⟩ := h
    refine ⟨_, (pss_cons (ps_set (i := 2) sc_law_rows.nd rfl (Or.inr rfl) (pe_call G_law_paired (hr.mono (by decide)) (by rfl) T.g_law_paired T.k_law_paired b_law_paired .nil pass0 (pa_cons (pv 0) (pa_cons (pe_listRg (by rfl) (by rfl) T.n_list (prg_1 (by rfl) T.n_range (pv 1))) (pa_cons (pe_listRg (by rfl) (by rfl) T.n_list (prg_1 (by rfl) T.n_range (pv 1))) pa_nil)))))
      (pss_cons (ps_set (i := 3) sc_law_rows.nd rfl (Or.inl rfl) (pe_call G_law_draw (hr.mono (by decide)) (by rfl) T.g_law_draw T.k_law_draw b_law_draw .nil pass0 (pa_cons (pv 0) (pa_cons pe_int pa_nil))))
      (pss_cut (ps_if (pt_cmpR op_eq (pe_call G_law_draw (hr.mono (by decide)) (by rfl) T.g_law_draw T.k_law_draw b_law_draw .nil pass0 (pa_cons (pv 0) (pa_cons pe_int pa_nil))) pe_int (nomark _)) (pss_one (ps_set (i := 3) sc_law_rows.nd rfl (Or.inl rfl) (pe_op op_add pe_int (pe_call G_law_draw (hr.mono (by decide)) (by rfl) T.g_law_draw T.k_law_draw b_law_draw .nil pass0 (pa_cons (pv 0) (pa_cons pe_int pa_nil)))))) pss_nil)
      (pss_cons (ps_set (i := 4) sc_law_rows.nd rfl (Or.inr rfl) (pe_lc (own := [("k", 12)]) (tt := tYes) (by rfl) sc_law_rows.nd (pi_range1 (by rfl) T.n_range (pa_cons (pv 3) pa_nil)) (blkOk_by (own := [("k", 12)]) (N := N_law_rows) (sc := defScope s_law_rows) (by decide +kernel)) (fun _ _ _ _ _ => (pg_name (i := 12) sc_law_rows.nd rfl (Or.inl rfl))) (fun _ _ _ _ _ => pts_nil) (fun _ _ _ _ _ => (pe_lst pa_nil))))
      (pss_cons (ps_for PassesOwn.never rfl (pi_list (pe_call G_law_blocks (hr.mono (by decide)) (by rfl) T.g_law_blocks T.k_law_blocks b_law_blocks .nil pass0 (pa_cons (pv 2) pa_nil))) (pg_name (i := 5) sc_law_rows.nd rfl (Or.inl rfl)) (pss_cons (ps_set (i := 6) sc_law_rows.nd rfl (Or.inr rfl) (pe_call G_law_draw (hr.mono (by decide)) (by rfl) T.g_law_draw T.k_law_draw b_law_draw .nil pass0 (pa_cons (pv 0) (pa_cons (pe_op op_add (pv 3) pe_int) pa_nil))))
      (pss_one (ps_if (pt_cmpR op_lt (pv 6) (pv 3) (nomark _)) (pss_one (ps_asg (pe_op op_cat (pe_ix ix_list (pv 4) (pv 6) (fun _ _ => rfl)) (pv 5)) (pg_sub (pv 4) (pv 6) set_list))) pss_nil))))
      (pss_cons (ps_setLc (i := 7) (own := [("hand", 13)]) (tt := tYes) (by rfl) sc_law_rows.nd rfl rfl (sw_true rfl rfl rfl (by decide +kernel)) (pi_list (pv 4)) (blkOk_by (own := [("hand", 13)]) (N := N_law_rows) (sc := defScope s_law_rows) (by decide +kernel)) (fun _ _ _ _ _ => (pg_name (i := 13) sc_law_rows.nd rfl (Or.inl rfl))) (fun _ _ _ _ _ => pts_nil) (fun _ _ _ _ _ => (pe_lst (pa_cons (pe_callTy (T := "list") (call_list_ofK (K := K) rfl) (by rfl) T.n_list (by decide +kernel) (pa_cons (pv 2) pa_nil)) (pa_cons (pe_call G_law_other (hr.mono (by decide)) (by rfl) T.g_law_other T.k_law_other b_law_other .nil pass0 (pa_cons (pv 0) (pa_cons (pv 2) (pa_cons (pv 13) pa_nil)))) pa_nil)))))
      (pss_cons (ps_set (i := 8) sc_law_rows.nd rfl (Or.inl rfl) (pe_call G_law_draw (hr.mono (by decide)) (by rfl) T.g_law_draw T.k_law_draw b_law_draw .nil pass0 (pa_cons (pv 0) (pa_cons pe_int pa_nil))))
      (pss_cons (ps_if (PW.pt (pw_or (pt_cmpR op_eq (pv 3) pe_int (nomark _)) (pw_or1 (pt_cmpR op_eq (pv 8) pe_int (nomark _))))) (pss_one (ps_ret (pv 7))) pss_nil)
      (pss_cons (ps_set (i := 6) sc_law_rows.nd rfl (Or.inr rfl) (pe_call G_law_draw (hr.mono (by decide)) (by rfl) T.g_law_draw T.k_law_draw b_law_draw .nil pass0 (pa_cons (pv 0) (pa_cons (pv 3) pa_nil))))
      (pss_cons (ps_if (pt_cmpR op_eq (pv 8) pe_int (nomark _)) (pss_cons (ps_set (i := 9) sc_law_rows.nd rfl (Or.inl rfl) (pe_ix ix_list (pv 4) (pe_op op_mod (pe_callTy call_int1 (by rfl) T.n_int (by decide +kernel) (pa_cons (pe_op op_add (pe_op op_add (pv 6) pe_int) (pe_call G_law_draw (hr.mono (by decide)) (by rfl) T.g_law_draw T.k_law_draw b_law_draw .nil pass0 (pa_cons (pv 0) (pa_cons (pv 3) pa_nil)))) pa_nil)) (pv 3)) (fun _ _ => rfl)))
      (pss_cons (ps_set (i := 10) sc_law_rows.nd rfl (Or.inl rfl) (pe_op op_cat (pe_ix ix_list (pv 4) (pv 6) (fun _ _ => rfl)) (pe_lc (own := [("x", 14)]) (tt := _) (by rfl) sc_law_rows.nd (pi_list (pv 9)) (blkOk_by (own := [("x", 14)]) (N := N_law_rows) (sc := defScope s_law_rows) (by decide +kernel)) (fun _ _ _ _ _ => (pg_name (i := 14) sc_law_rows.nd rfl (Or.inl rfl))) (fun _ _ _ _ _ => (pts_one (pt_cmpR (op_notInK (K := K) rfl) (pv 14) (pe_ix (ix_listK (K := K) rfl) (pv 4) (pv 6) (fun _ _ => rfl)) (by with_unfolding_all rfl)))) (fun _ _ _ _ _ => (pv 14)))))
      (pss_cons (ps_asg (pe_lst (pa_cons (pe_callTy call_list_of (by rfl) T.n_list (by decide +kernel) (pa_cons (pv 2) pa_nil)) (pa_cons (pe_call G_law_other (hr.mono (by decide)) (by rfl) T.g_law_other T.k_law_other b_law_other .nil pass0 (pa_cons (pv 0) (pa_cons (pv 2) (pa_cons (pv 10) pa_nil)))) pa_nil))) (pg_sub (pv 7) (pv 6) set_list))
      (pss_one (ps_ret (pv 7)))))) pss_nil)
      (pss_cut (ps_if (pt_cmpR op_eq (pv 8) pe_int (nomark _)) (pss_one (ps_set (i := 1) sc_law_rows.nd rfl (Or.inl rfl) (pe_call G_law_draw (hr.mono (by decide)) (by rfl) T.g_law_draw T.k_law_draw b_law_draw .nil pass0 (pa_cons (pv 0) (pa_cons pe_int pa_nil))))) pss_nil)
      (pss_cons (ps_set (i := 11) sc_law_rows.nd rfl (Or.inl rfl) (pe_call G_law_paired (hr.mono (by decide)) (by rfl) T.g_law_paired T.k_law_paired b_law_paired .nil pass0 (pa_cons (pv 0) (pa_cons (pe_listRg (by rfl) (by rfl) T.n_list (prg_1 (by rfl) T.n_range (pv 1))) (pa_cons (pe_listRg (by rfl) (by rfl) T.n_list (prg_1 (by rfl) T.n_range (pv 1))) pa_nil)))))
      (pss_cons (ps_asg (pe_lst (pa_cons (pv 11) (pa_cons (pe_call G_law_paired (hr.mono (by decide)) (by rfl) T.g_law_paired T.k_law_paired b_law_paired .nil pass0 (pa_cons (pv 0) (pa_cons (pv 11) (pa_cons (pe_listRg (by rfl) (by rfl) T.n_list (prg_1 (by rfl) T.n_range (pv 1))) pa_nil)))) pa_nil))) (pg_sub (pv 7) (pv 6) set_list))
      (pss_one (ps_ret (pv 7)))))))))))))))), ?_⟩
    refine ⟨_, rfl, _, rfl, _, rfl, RgOk.of_le (by omega) (by omega) (by omega) (by omega), fun r1 hr1 => ?_⟩
    rw [rgN]
    have e1 := Ex.new (o := .lst (nI (List.range n))) hr1
    have g1 : ListN (upd H r1 (.lst (nI (List.range n)))) r1 (List.range n) := upd_same
    have B1 := B.ex e1
    generalize upd H r1 (.lst (nI (List.range n))) = H1 at e1 g1 B1 ⊢
    refine ⟨_, rfl, _, rfl, RgOk.of_le (by omega) (by omega) (by omega) (by omega), fun r2 hr2 => ?_⟩
    rw [rgN]
    have e2 := Ex.new (o := .lst (nI (List.range n))) hr2
    have g2 : ListN (upd H1 r2 (.lst (nI (List.range n)))) r2 (List.range n) := upd_same
    have B2 := B1.ex e2
    have g1b := g1.ex e2
    have e12 := e1.trans e2
    generalize upd H1 r2 (.lst (nI (List.range n))) = H2 at e2 g2 B2 g1b e12 ⊢
    have lr : (List.range n).length = n := List.length_range
    have cr : Clo (List.range n) (List.range n) := by have := clo_rng (sta_rng n); rw [lr] at this; exact this
    refine ⟨b, c, r1, r2, List.range n, List.range n, rfl, B2, g1b, g2, sta_rng n, cr, by omega, fun o ys H3 ho B3 M3 go so lo => ?_⟩
    rw [lr] at lo
    have M03 : Mut b H H3 := fun x u n1 h => M3 _ _ n1 (e12 _ _ h)
    have foH := back_none e12 ho
    clear g1 g2 g1b e1 e2 hr1 hr2 B1
    refine ⟨_, rfl, b, c, 5, rfl, by decide, by decide, B3, fun m H4 ml B4 M4 => ?_⟩
    have go4 := go.mut B3 M4
    refine ⟨fun σ G => ∃ m : Nat, σ = [some (.ref b), some (.int (n : Int)), some (.ref o), some (.int (m : Int)), none, none, none, none, none, none, none, none, none, none, none] ∧ m ≤ 6 ∧ Bx G b c ∧ Mut b H4 G, ?_, ?_⟩
    · refine ⟨_, rfl, b, c, 8, rfl, by decide, by decide, B4, fun d H5 dl B5 M5 => ?_⟩
      refine ⟨rfl, _, rfl, ?_⟩
      refine ite_b (fun c7 => ?_) (fun c7 => ⟨m, rfl, by omega, B5, M5⟩)
      refine ⟨_, rfl, b, c, 2, rfl, by decide, by decide, B5, fun d2 H6 d2l B6 M6 => ⟨_, _, rfl, rfl, ?_⟩⟩
      exact ⟨5 + d2, by rw [show ((5 + d2 : Nat) : Int) = 5 + (d2 : Int) from by omega]; rfl, by omega, B6, M5.then M6⟩
    rintro σ G ⟨m, rfl, ml, BG, MG⟩
    have goG := go4.mut B4 MG
    have MHG : Mut b H G := (M03.then M4).then MG
    clear M03 M4 MG B4 B3 B2 M3 go go4 e12
    refine ⟨_, rfl, _, rfl, by omega, by omega, fun hs hhs => ?_⟩
    rw [Int.toNat_natCast]
    have nhb := (BG.ne hhs).1
    have nhc := (BG.ne hhs).2
    have nho : o ≠ hs := ne_of_none goG hhs
    refine lc_range (lo := 0) (n := m) (fun j G2 => ∃ ps : List Addr, Ex G G2 ∧ G2 hs = some (.lst (ps.map V.ref)) ∧ AtL (fun a b => a ≠ hs ∧ ListN G2 a b) ps (List.replicate j ([] : List Nat))) ⟨[], Ex.new hhs, upd_same, AtL.nil⟩ ?_ ?_
    · rintro j G2 hj ⟨ps, e2, gh, at_⟩
      refine ⟨rfl, ?_⟩
      refine ⟨(by show 0 ≤ sizeLine; decide), fun e he => ?_⟩
      have nhe : hs ≠ e := ne_of_none gh he
      refine ⟨_, (by rw [upd_ne nhe]; exact gh), small1000 (by rw [List.length_map, at_.1, List.length_replicate]; omega), ps ++ [e], fun x u h => ?_, by rw [upd_same, List.map_append]; rfl, ?_⟩
      · rw [upd_ne (ne_of_none h hhs), upd_ne (ne_of_none (e2 _ _ h) he)]
        exact e2 _ _ h
      rw [List.replicate_succ']
      refine AtL.snoc (at_.mono fun a b h => ⟨h.1, ?_⟩) ⟨nhe.symm, ?_⟩
      · show upd _ hs _ a = _
        rw [upd_ne h.1, upd_ne (ne_of_none h.2 he)]
        exact h.2
      · show upd _ hs _ e = _
        rw [upd_ne nhe.symm, upd_same]
        rfl
    rintro G2 ⟨ps, e2, gh, at_⟩
    have go2 := goG.ex e2
    have B2 := BG.ex e2
    have M2 := MHG.ext e2
    have fhH := bx_back BG MHG hhs
    clear goG
    refine ⟨_, rfl, o, ys, rfl, go2, so, by omega, fun bl ps0 bs0 G3 hbl e3 gbl at0 bl64 bcl bnd => ?_⟩
    have B3 := B2.ex e3
    have M3 := M2.ext e3
    have go3 := go2.ex e3
    have gh3 := e3 _ _ gh
    have at3 : AtL (fun a b => a ≠ hs ∧ ListN G3 a b) ps (List.replicate m ([] : List Nat)) := at_.mono fun a b h => ⟨h.1, h.2.ex e3⟩
    have nhl : bl ≠ hs := (ne_of_none gh hbl).symm
    have nlb := (B2.ne hbl).1
    have at0 : AtL (fun a b => a ≠ hs ∧ ListN G3 a b) ps0 bs0 := at0.mono fun a b h => ⟨(ne_of_none gh h.2.1).symm, h.2.2⟩
    clear at_ gh e2 e3 B2 M2 go2
    have lp0 := at0.1
    refine ⟨bl, rfl, ⟨_, SqL.of gbl⟩, for_list (K := K) (a := bl) (xs := ps0.map V.ref) (fun i σ G => ∃ (v5 v6 : Option V) (ps : List Addr) (hl : List (List Nat)), σ = [some (.ref b), some (.int (n : Int)), some (.ref o), some (.int (m : Int)), some (.ref hs), v5, v6, none, none, none, none, none, none, none, none] ∧ Bx G b c ∧ (∀ x u, x ≠ b → x ≠ hs → G3 x = some u → G x = some u) ∧ G hs = some (.lst (ps.map V.ref)) ∧ AtL (fun a h => a ≠ hs ∧ ListN G a h) ps hl ∧ hl.length = m ∧ ∀ h ∈ hl, Clo ys h ∧ ∀ x ∈ h, x ∉ (bs0.drop i).flatten)
      ⟨none, none, ps, List.replicate m [], rfl, B3, fun x u _ _ h => h, gh3, at3, List.length_replicate, fun h hh => by rw [List.eq_of_mem_replicate hh]; exact ⟨⟨List.nodup_nil, (fun x h => by cases h), (fun x h => by cases h)⟩, fun x h => by cases h⟩⟩ (fun i σ G _ ⟨_, _, _, _, _, _, k, _⟩ => SqL.of (k _ _ nlb nhl gbl)) ?_ ?_⟩
    · rintro i x σ G hx ⟨v5, v6, ps, hl, rfl, B4, kp, gh, at_, hm, hcl⟩
      obtain ⟨a, ha, rfl⟩ := ref_at hx
      obtain ⟨bk, hbk, ⟨nah, gbk⟩, bkm⟩ := at0.get ha
      have nab : a ≠ b := B3.neN gbk
      have gbk4 : ListN G a bk := kp _ _ nab nah gbk
      have cbk := bcl bk bkm
      refine ⟨_, rfl, _, rfl, _, _, rfl, rfl, b, c, _, rfl, by omega, by omega, B4, fun d G5 dl B5 M5 => ?_⟩
      have at5 : AtL (fun a h => a ≠ hs ∧ ListN G5 a h) ps hl := at_.mono fun a b h => ⟨h.1, h.2.mut B4 M5⟩
      have gh5 := M5 _ _ nhb gh
      have gbk5 := gbk4.mut B4 M5
      refine ⟨_, rfl, _, rfl, _, _, rfl, rfl, _, rfl, ?_⟩
      refine ite_b (fun cc => ?_) (fun cc => ⟨_, _, ps, hl, rfl, B5, fun x u n1 n2 h => M5 _ _ n1 (kp x u n1 n2 h), gh5, at5, hm, fun h hh => ⟨(hcl h hh).1, hand_more hbk (hcl h hh).2⟩⟩)
      have dm : d < m := by have := of_decide_eq_true cc; omega
      obtain ⟨pa, h, hpa, hhd, ⟨npa, gha⟩, hhm⟩ := at5.ex_at (i := d) (by omega)
      obtain ⟨ch, nh⟩ := hcl h hhm
      obtain ⟨ch2, nh2⟩ := hand_ok hbk bnd ch cbk nh
      have lh := nodup_len ch2.nd ch2.lt
      have nhl2 : (nI h).length = h.length := nI_len h
      have nbl2 : (nI bk).length = bk.length := nI_len bk
      refine ⟨_, rfl, _, rfl, hs, _, _, _, rfl, rfl, SqL.of gh5, atR (i := d) hpa, _, rfl, pa, a, _, _, rfl, rfl, gha, gbk5, Nat.le_of_lt (small1000 (show (nI h).length + (nI bk).length ≤ 1000 from by rw [nhl2, nbl2]; rw [List.length_append] at lh; omega)), fun r hr => ?_⟩
      have e6 := Ex.new (o := .lst (nI h ++ nI bk)) hr
      have g6 : ListN (upd G5 r (.lst (nI h ++ nI bk))) r (h ++ bk) := by
        show upd G5 r _ r = _
        rw [upd_same]
        unfold nI
        rw [List.map_append]
      have nrh : r ≠ hs := (ne_of_none gh5 hr).symm
      have B6 := B5.ex e6
      have gh6 := e6 _ _ gh5
      have at6 : AtL (fun a g => a ≠ hs ∧ ListN (upd G5 r (.lst (nI h ++ nI bk))) a g) ps hl := at5.mono fun a b h => ⟨h.1, h.2.ex e6⟩
      have kp6 : ∀ x u, x ≠ b → x ≠ hs → G3 x = some u → upd G5 r (.lst (nI h ++ nI bk)) x = some u := fun x u n1 n2 hx => e6 _ _ (M5 _ _ n1 (kp x u n1 n2 hx))
      generalize upd G5 r (.lst (nI h ++ nI bk)) = G6 at e6 g6 B6 gh6 at6 kp6 ⊢
      refine ⟨_, rfl, _, rfl, hs, _, _, d, rfl, rfl, gh6, Evl.ixN_nat (by rw [List.length_map, at6.1]; omega), ?_⟩
      rw [← List.map_set]
      refine ⟨_, _, ps.set d r, hl.set d (h ++ bk), rfl, B6.keep (fun o h => by rw [upd_ne nhb.symm]; exact h) (fun o h => by rw [upd_ne nhc.symm]; exact h), fun x u n1 n2 h => by rw [upd_ne n2]; exact kp6 x u n1 n2 h, upd_same, ?_, by rw [List.length_set]; exact hm, fun g hg => ?_⟩
      · refine AtL.set (at6.mono fun a b h => ⟨h.1, ?_⟩) ⟨nrh, ?_⟩
        · show upd _ hs _ a = _
          rw [upd_ne h.1]
          exact h.2
        · show upd _ hs _ r = _
          rw [upd_ne nrh]
          exact g6
      · rcases List.mem_or_eq_of_mem_set hg with hg | rfl
        · exact ⟨(hcl g hg).1, hand_more hbk (hcl g hg).2⟩
        · exact ⟨ch2, nh2⟩
    rintro σ G ⟨v5, v6, ps, hl, rfl, BG, kp, gh, at_, hm, hcl⟩
    have MG : Mut b H G := fun x u n1 h => kp x u n1 (ne_of_none h fhH) (M3 _ _ n1 h)
    have goG : ListN G o ys := kp _ _ (B3.neN go3) nho go3
    have hcl : ∀ h ∈ hl, Clo ys h := fun h hh => (hcl h hh).1
    have at_ : AtL (fun a h => ListN G a h) ps hl := at_.mono fun a b h => h.2
    clear at3 gh3 go3 B3 M3 kp at0 lp0 bcl bnd gbl nhl nlb hbl
    refine ⟨_, rfl, hs, rfl, ⟨_, SqL.of gh⟩, fun D hD => ?_⟩
    have nhD : hs ≠ D := ne_of_none gh hD
    have noD : o ≠ D := ne_of_none goG hD
    have nDb := (BG.ne hD).1
    have nDc := (BG.ne hD).2
    have fDH := bx_back BG MG hD
    have lps : (ps.map V.ref).length = m := by rw [List.length_map, at_.1, hm]
    refine lc_list (K := K) (a := hs) (xs := ps.map V.ref) (fun j G2 => ∃ (qs : List Addr) (rs : List PP), Bx G2 b c ∧ (∀ x u, x ≠ b → x ≠ D → G x = some u → G2 x = some u) ∧ G2 D = some (.lst (qs.map V.ref)) ∧ AtL (RwN D G2) qs rs ∧ rs.length = j ∧ ∀ a ∈ rs, GoodP a)
      ⟨[], [], BG.ex (Ex.new hD), fun x u n1 n2 h => by rw [upd_ne n2]; exact h, upd_same, AtL.nil, rfl, (fun a h => by cases h)⟩ (fun j G2 _ ⟨_, _, _, k2, _⟩ => SqL.of (k2 _ _ nhb nhD gh)) ?_ ?_
    · rintro j x G2 hx ⟨qs, rs, B2, kp, gD, at2, lr2, gr⟩
      have jl := (List.getElem?_eq_some_iff.mp hx).1
      rw [lps] at jl
      obtain ⟨pj, hpj, rfl⟩ := ref_at hx
      obtain ⟨h, hh, gh1, hhm⟩ := at_.get hpj
      have ch := hcl h hhm
      have go2 : ListN G2 o ys := kp _ _ (BG.neN goG) noD goG
      have gh2 : ListN G2 pj h := kp _ _ (BG.neN gh1) (ne_of_none gh1 hD) gh1
      refine ⟨rfl, _, rfl, o, _, rfl, .inl go2.sz, fun c1 hc1 => ?_⟩
      have nc1D : c1 ≠ D := (ne_of_none gD hc1).symm
      have e3 := Ex.new (o := .lst (nI ys)) hc1
      have k1 : ListN (upd G2 c1 (.lst (nI ys))) c1 ys := upd_same
      have B3 := B2.ex e3
      have go3 := go2.ex e3
      have gh3 := gh2.ex e3
      have gD3 := e3 _ _ gD
      have at3 : AtL (RwN D (upd G2 c1 (.lst (nI ys)))) qs rs := at2.mono fun a b h => h.keep fun x o _ q => e3 _ _ q
      have kp3 : ∀ x u, x ≠ b → x ≠ D → G x = some u → upd G2 c1 (.lst (nI ys)) x = some u := fun x u n1 n2 q => e3 _ _ (kp x u n1 n2 q)
      generalize upd G2 c1 (.lst (nI ys)) = G3 at e3 k1 B3 go3 gh3 gD3 at3 kp3 ⊢
      refine ⟨_, rfl, _, rfl, _, rfl, b, c, o, pj, ys, h, rfl, B3, go3, gh3, so, ch, by omega, fun z zs G4 hz B4 M4 gz sz lz => ⟨(by show 2 ≤ sizeLine; decide), fun e he => ?_⟩⟩
      have gD4 := M4 _ _ nDb gD3
      have nzD : z ≠ D := (ne_of_none gD3 hz).symm
      have e5 := Ex.new (o := .lst [.ref c1, .ref z]) he
      have g5 : upd G4 e (.lst [.ref c1, .ref z]) e = some (.lst [.ref c1, .ref z]) := upd_same
      have neD : e ≠ D := (ne_of_none gD4 he).symm
      have gD5 := e5 _ _ gD4
      have at5 : AtL (RwN D (upd G4 e (.lst [.ref c1, .ref z]))) qs rs := (at3.mono fun a b h => h.mut B3 M4).mono fun a b h => h.keep fun x o _ q => e5 _ _ q
      have k5 := (k1.mut B3 M4).ex e5
      have gz5 := gz.ex e5
      have B5 := B4.ex e5
      have kp5 : ∀ x u, x ≠ b → x ≠ D → G x = some u → upd G4 e (.lst [.ref c1, .ref z]) x = some u := fun x u n1 n2 q => e5 _ _ (M4 _ _ n1 (kp3 x u n1 n2 q))
      generalize upd G4 e (.lst [.ref c1, .ref z]) = G5 at e5 g5 gD5 at5 k5 gz5 B5 kp5 ⊢
      have kD : ∀ (l : List V) x u, x ≠ D → G5 x = some u → upd G5 D (.lst l) x = some u := fun l x u n q => by rw [upd_ne n]; exact q
      refine ⟨_, gD5, small1000 (by rw [List.length_map, at5.1]; omega), qs ++ [e], rs ++ [(ys, zs)], B5.keep (kD _ b · nDb.symm) (kD _ c · nDc.symm), fun x u n1 n2 q => kD _ x u n2 (kp5 x u n1 n2 q), by rw [upd_same, List.map_append]; rfl, ?_, by rw [List.length_append, lr2]; rfl, fun a ha => ?_⟩
      · exact AtL.snoc (at5.mono fun a b h => h.keep (kD _)) ⟨c1, z, neD, nc1D, nzD, kD _ _ _ neD g5, kD _ _ _ nc1D k5, kD _ _ _ nzD gz5⟩
      · rcases List.mem_append.mp ha with ha | ha
        · exact gr a ha
        · rw [List.mem_singleton.mp ha]
          exact ⟨so, sz, lz, by show ys.length ≤ 64; omega⟩
    rintro G2 ⟨qs, rs, B2, kp, gD, at2, lr2, gr⟩
    rw [lps] at lr2
    have done : ∀ (G' : Hp) (qs : List Addr) (rs : List PP), Bx G' b c → Mut b H G' → G' D = some (.lst (qs.map V.ref)) → AtL (RwN D G') qs rs → (∀ a ∈ rs, GoodP a) → rs.length ≤ 6 → Q (.ref D) G' := fun G' qs rs B' M' g' at' gr' l' => k D rs G' B' M' ⟨qs, g', at'.1, fun i p a h1 h2 => (at'.2 i p a h1 h2).at⟩ gr' l'
    have M2 : Mut b H G2 := fun x u n1 q => kp x u n1 (ne_of_none q fDH) (MG x u n1 q)
    have go2 : ListN G2 o ys := kp _ _ (BG.neN goG) noD goG
    have gh2 := kp _ _ nhb nhD gh
    have ats2 : AtL (fun a h => ListN G2 a h) ps hl := at_.mono fun a h q => kp _ _ (BG.neN q) (ne_of_none q hD) q
    clear kp at_ gh goG BG MG k hD hhs MHG
    refine ⟨_, rfl, b, c, 4, rfl, by decide, by decide, B2, fun w H3 wl B3 M3 => ?_⟩
    have gD3 := M3 _ _ nDb gD
    have at3 : AtL (RwN D H3) qs rs := at2.mono fun a b h => h.mut B2 M3
    have go3 := go2.mut B2 M3
    have gh3 := M3 _ _ nhb gh2
    have ats3 : AtL (fun a h => ListN H3 a h) ps hl := ats2.mono fun a h q => q.mut B2 M3
    have MH3 := M2.then M3
    clear M2 M3 B2 gD at2 go2 gh2 ats2
    refine ⟨_, rfl, rfl, _, rfl, ?_⟩
    refine ite_b (fun c1 => iteT ⟨_, rfl, done _ qs rs B3 MH3 gD3 at3 gr (by omega)⟩) (fun c1 => ?_)
    have m0 : 0 < m := by
      have := of_decide_eq_false c1
      rcases Nat.eq_zero_or_pos m with z | z
      · exact absurd (by rw [z]; rfl) this
      · exact z
    refine ⟨_, rfl, rfl, _, rfl, ?_⟩
    refine ite_b (fun c2 => ⟨_, rfl, done _ qs rs B3 MH3 gD3 at3 gr (by omega)⟩) (fun c2 => ?_)
    refine ⟨_, rfl, _, rfl, b, c, (m : Int), rfl, by omega, by omega, B3, fun i H4 il B4 M4 => ?_⟩
    have gD4 := M4 _ _ nDb gD3
    have at4 : AtL (RwN D H4) qs rs := at3.mono fun a b h => h.mut B3 M4
    have go4 := go3.mut B3 M4
    have gh4 := M4 _ _ nhb gh3
    have ats4 : AtL (fun a h => ListN H4 a h) ps hl := ats3.mono fun a h q => q.mut B3 M4
    have MH4 := MH3.then M4
    have im : i < m := by omega
    clear MH3 M4 B3 gD3 at3 go3 gh3 ats3
    refine ⟨_, rfl, rfl, _, rfl, ?_⟩
    refine ite_b (fun c3 => ?_) (fun c3 => ?_)
    · refine ⟨_, rfl, _, rfl, _, _, rfl, rfl, _, rfl, _, rfl, b, c, (m : Int), rfl, by omega, by omega, B4, fun d H5 dl B5 M5 => ⟨_, _, rfl, rfl, ?_⟩⟩
      obtain ⟨e, he⟩ := Int.eq_ofNat_of_zero_le (Int.emod_nonneg ((i : Int) + 1 + (d : Int)) (by omega : (m : Int) ≠ 0))
      have el := Int.emod_lt_of_pos ((i : Int) + 1 + (d : Int)) (show (0 : Int) < m by omega)
      rw [he] at el
      have gD5 := M5 _ _ nDb gD4
      have at5 : AtL (RwN D H5) qs rs := at4.mono fun a b h => h.mut B4 M5
      have go5 := go4.mut B4 M5
      have gh5 := M5 _ _ nhb gh4
      have ats5 : AtL (fun a h => ListN H5 a h) ps hl := ats4.mono fun a h q => q.mut B4 M5
      have MH5 := MH4.then M5
      obtain ⟨pe, ge, hpe, hge, gpe, gem⟩ := ats5.ex_at (i := e) (by omega)
      obtain ⟨pi, gi, hpi, hgi, gpi, gim⟩ := ats5.ex_at (i := i) (by omega)
      have cge := hcl ge gem
      have cgi := hcl gi gim
      refine .inl ⟨_, rfl, _, rfl, _, _, rfl, rfl, by omega, hs, _, _, _, rfl, rfl, SqL.of gh5, (by rw [he]; exact atR hpe), ?_⟩
      refine ⟨_, rfl, _, rfl, hs, _, _, _, rfl, rfl, SqL.of gh5, atR (i := i) hpi, _, rfl, pe, rfl, ⟨_, gpe.sz⟩, fun D2 hD2 => ?_⟩
      refine lc_list (K := K) (a := pe) (xs := nI ge) (fun j G => Ex H5 G ∧ ListN G D2 ((ge.take j).filter fun x => !gi.contains x)) ⟨Ex.new hD2, upd_same⟩ (fun j G _ z => SqL.of (z.1 _ _ gpe)) ?_ ?_
      · rintro j x G hx ⟨e6, gd⟩
        obtain ⟨jl, rfl⟩ := nat_at hx
        refine ⟨rfl, ?_⟩
        refine ⟨_, rfl, _, rfl, _, rfl, hs, _, _, _, rfl, rfl, SqL.of (e6 _ _ gh5), atR (i := i) hpi, pi, _, rfl, .inl (gpi.ex e6).sz, rfl, flat_nI _, _, rfl, ?_⟩
        rw [inV_nI]
        by_cases cc : gi.contains (ge.getD j 0) = true
        · rw [cc]
          refine iteF ⟨e6, ?_⟩
          rw [take_filter_neg jl (q := fun x => !gi.contains x) (by rw [cc]; rfl)]
          exact gd
        · rw [Bool.eq_false_iff.mpr cc]
          have lg : (ge.take j).length ≤ 64 := by rw [List.length_take]; have := nodup_len cge.nd cge.lt; omega
          refine iteT ⟨_, rfl, _, gd, small1000 (by rw [nI_len]; have := List.length_filter_le (fun x => !gi.contains x) (ge.take j); omega), fun y u hy => by rw [upd_ne (ne_of_none hy hD2)]; exact e6 _ _ hy, ?_⟩
          show upd G D2 _ D2 = _
          rw [upd_same, take_filter_pos jl (q := fun x => !gi.contains x) (by rw [Bool.eq_false_iff.mpr cc]; rfl), nI_app]
      rintro G6 ⟨e6, gd⟩
      rw [nI_len, List.take_length] at gd
      have cb := clo_both so cgi cge
      have lb := nodup_len cb.nd cb.lt
      have n1 := nI_len gi
      have n2 := nI_len (ge.filter fun x => !gi.contains x)
      refine ⟨pi, D2, _, _, rfl, rfl, gpi.ex e6, gd, Nat.le_of_lt (small1000 (show (nI gi).length + (nI (ge.filter fun x => !gi.contains x)).length ≤ 1000 from by rw [n1, n2]; rw [List.length_append] at lb; omega)), fun bo hbo => ?_⟩
      have e7 := e6.trans (Ex.new (o := .lst (nI gi ++ nI (ge.filter fun x => !gi.contains x))) hbo)
      have gb : ListN (upd G6 bo (.lst (nI gi ++ nI (ge.filter fun x => !gi.contains x)))) bo (gi ++ ge.filter fun x => !gi.contains x) := by
        show upd G6 bo _ bo = _
        rw [upd_same]
        unfold nI
        rw [List.map_append]
      replace gD5 := (e7) _ _ gD5
      replace at5 := at5.mono fun a b (h : RwN D _ a b) => h.keep fun x u _ q => (e7) x u q
      replace go5 := go5.ex (e7)
      replace B5 := B5.ex (e7)
      replace MH5 := MH5.ext (e7)
      generalize upd G6 bo (.lst (nI gi ++ nI (ge.filter fun x => !gi.contains x))) = G7 at e7 gb gD5 at5 go5 B5 MH5 ⊢
      generalize (gi ++ ge.filter fun x => !gi.contains x) = am at gb cb
      refine ⟨_, rfl, o, _, rfl, .inl go5.sz, fun c1 hc1 => ?_⟩
      have nc1D : c1 ≠ D := (ne_of_none gD5 hc1).symm
      have e8 := Ex.new (o := .lst (nI ys)) hc1
      have k1 : ListN (upd G7 c1 (.lst (nI ys))) c1 ys := upd_same
      replace gb := gb.ex e8
      replace gD5 := (e8) _ _ gD5
      replace at5 := at5.mono fun a b (h : RwN D _ a b) => h.keep fun x u _ q => (e8) x u q
      replace go5 := go5.ex (e8)
      replace B5 := B5.ex (e8)
      replace MH5 := MH5.ext (e8)
      generalize upd G7 c1 (.lst (nI ys)) = G8 at e8 k1 gb gD5 at5 go5 B5 MH5 ⊢
      refine ⟨_, rfl, _, rfl, _, rfl, b, c, o, bo, ys, am, rfl, B5, go5, gb, so, cb, by omega, fun z zs G9 hz B9 M9 gz sz lz => ⟨(by show 2 ≤ sizeLine; decide), fun e he => ?_⟩⟩
      have nzD : z ≠ D := (ne_of_none gD5 hz).symm
      replace gD5 := M9 _ _ nDb gD5
      have at9 : AtL (RwN D G9) qs rs := at5.mono fun a b h => h.mut B5 M9
      replace k1 := k1.mut B5 M9
      replace MH5 := MH5.then M9
      have eA := Ex.new (o := .lst [.ref c1, .ref z]) he
      have gA : upd G9 e (.lst [.ref c1, .ref z]) e = some (.lst [.ref c1, .ref z]) := upd_same
      have neD : e ≠ D := (ne_of_none gD5 he).symm
      replace gD5 := eA _ _ gD5
      have atA : AtL (RwN D (upd G9 e (.lst [.ref c1, .ref z]))) qs rs := at9.mono fun a b h => h.keep fun x u _ q => eA _ _ q
      replace k1 := k1.ex eA
      replace gz := gz.ex eA
      have BA := B9.ex eA
      replace MH5 := MH5.ext eA
      generalize upd G9 e (.lst [.ref c1, .ref z]) = GA at eA gA gD5 atA k1 gz BA MH5 ⊢
      refine ⟨_, rfl, _, rfl, D, _, _, i, rfl, rfl, gD5, Evl.ixN_nat (by rw [List.length_map, atA.1]; omega), ?_⟩
      rw [← List.map_set]
      have kD : ∀ (l : List V) x u, x ≠ D → GA x = some u → upd GA D (.lst l) x = some u := fun l x u n q => by rw [upd_ne n]; exact q
      refine ⟨_, rfl, done _ (qs.set i e) (rs.set i (ys, zs)) (BA.keep (kD _ b · nDb.symm) (kD _ c · nDc.symm)) (fun x u n1 q => kD _ x u (ne_of_none q fDH) (MH5 x u n1 q)) upd_same ?_ (fun a ha => ?_) (by rw [List.length_set]; omega)⟩
      · exact AtL.set (atA.mono fun a b h => h.keep (kD _)) ⟨c1, z, neD, nc1D, nzD, kD _ _ _ neD gA, kD _ _ _ nc1D k1, kD _ _ _ nzD gz⟩
      · rcases List.mem_or_eq_of_mem_set ha with ha | rfl
        · exact gr a ha
        · exact ⟨so, sz, lz, by show ys.length ≤ 64; omega⟩
    refine ⟨fun σ G => ∃ nn : Nat, nn ≤ 64 ∧ σ = [some (.ref b), some (.int (nn : Int)), some (.ref o), some (.int (m : Int)), some (.ref hs), v5, some (.int (i : Int)), some (.ref D), some (.int (w : Int)), none, none, none, none, none, none] ∧ Bx G b c ∧ Mut b H4 G, ?_, ?_⟩
    · refine ⟨_, rfl, rfl, _, rfl, ?_⟩
      refine ite_b (fun c7 => ?_) (fun c7 => ⟨n, n64, rfl, B4, fun x u _ h => h⟩)
      exact ⟨_, rfl, b, c, 13, rfl, by decide, by decide, B4, fun d2 H6 d2l B6 M6 => ⟨d2, by omega, rfl, B6, M6⟩⟩
    · rintro σ G5 ⟨nn, nn64, rfl, B5, M5⟩
      have gD5 := M5 _ _ nDb gD4
      have at5 : AtL (RwN D G5) qs rs := at4.mono fun a b h => h.mut B4 M5
      have go5 := go4.mut B4 M5
      have MH5 := MH4.then M5
      have lr : (List.range nn).length = nn := List.length_range
      have cr : Clo (List.range nn) (List.range nn) := by have := clo_rng (sta_rng nn); rw [lr] at this; exact this
      refine ⟨_, rfl, _, rfl, _, rfl, RgOk.of_le (by omega) (by omega) (by omega) (by omega), fun x1 hx1 => ?_⟩
      rw [rgN]
      have f1 := Ex.new (o := .lst (nI (List.range nn))) hx1
      have g1 : ListN (upd G5 x1 (.lst (nI (List.range nn)))) x1 (List.range nn) := upd_same
      replace gD5 := (f1) _ _ gD5
      replace at5 := at5.mono fun a b (h : RwN D _ a b) => h.keep fun x u _ q => (f1) x u q
      replace go5 := go5.ex (f1)
      replace B5 := B5.ex (f1)
      replace MH5 := MH5.ext (f1)
      generalize upd G5 x1 (.lst (nI (List.range nn))) = G6 at f1 g1 gD5 at5 go5 B5 MH5 ⊢
      refine ⟨_, rfl, _, rfl, RgOk.of_le (by omega) (by omega) (by omega) (by omega), fun x2 hx2 => ?_⟩
      rw [rgN]
      have f2 := Ex.new (o := .lst (nI (List.range nn))) hx2
      have g2 : ListN (upd G6 x2 (.lst (nI (List.range nn)))) x2 (List.range nn) := upd_same
      replace gD5 := (f2) _ _ gD5
      replace at5 := at5.mono fun a b (h : RwN D _ a b) => h.keep fun x u _ q => (f2) x u q
      replace go5 := go5.ex (f2)
      replace B5 := B5.ex (f2)
      replace MH5 := MH5.ext (f2)
      replace g1 := g1.ex f2
      generalize upd G6 x2 (.lst (nI (List.range nn))) = G7 at f2 g2 g1 gD5 at5 go5 B5 MH5 ⊢
      refine ⟨b, c, x1, x2, List.range nn, List.range nn, rfl, B5, g1, g2, sta_rng nn, cr, by omega, fun c1 bs G8 hc1 B8 M8 k1 sb lb => ?_⟩
      rw [lr] at lb
      have nc1D : c1 ≠ D := (ne_of_none gD5 hc1).symm
      replace gD5 := M8 _ _ nDb gD5
      replace at5 := at5.mono fun a b (h : RwN D _ a b) => h.mut B5 M8
      replace go5 := go5.mut B5 M8
      replace MH5 := MH5.then M8
      replace B5 := B8
      refine ⟨_, rfl, _, rfl, _, rfl, _, rfl, _, rfl, RgOk.of_le (by omega) (by omega) (by omega) (by omega), fun x3 hx3 => ?_⟩
      rw [rgN]
      have f3 := Ex.new (o := .lst (nI (List.range nn))) hx3
      have g3 : ListN (upd G8 x3 (.lst (nI (List.range nn)))) x3 (List.range nn) := upd_same
      replace gD5 := (f3) _ _ gD5
      replace at5 := at5.mono fun a b (h : RwN D _ a b) => h.keep fun x u _ q => (f3) x u q
      replace go5 := go5.ex (f3)
      replace B5 := B5.ex (f3)
      replace MH5 := MH5.ext (f3)
      replace k1 := k1.ex f3
      generalize upd G8 x3 (.lst (nI (List.range nn))) = G9a at f3 g3 k1 gD5 at5 go5 B5 MH5 ⊢
      have cb : Clo bs (List.range nn) := by have := clo_rng sb; rw [lb] at this; exact this
      refine ⟨b, c, c1, x3, bs, List.range nn, rfl, B5, k1, g3, sb, cb, by omega, fun z zs G9 hz B9 M9 gz sz lz => ⟨(by show 2 ≤ sizeLine; decide), fun e he => ?_⟩⟩
      have nzD : z ≠ D := (ne_of_none gD5 hz).symm
      replace gD5 := M9 _ _ nDb gD5
      have at9 : AtL (RwN D G9) qs rs := at5.mono fun a b h => h.mut B5 M9
      replace k1 := k1.mut B5 M9
      replace MH5 := MH5.then M9
      have eA := Ex.new (o := .lst [.ref c1, .ref z]) he
      have gA : upd G9 e (.lst [.ref c1, .ref z]) e = some (.lst [.ref c1, .ref z]) := upd_same
      have neD : e ≠ D := (ne_of_none gD5 he).symm
      replace gD5 := eA _ _ gD5
      have atA : AtL (RwN D (upd G9 e (.lst [.ref c1, .ref z]))) qs rs := at9.mono fun a b h => h.keep fun x u _ q => eA _ _ q
      replace k1 := k1.ex eA
      replace gz := gz.ex eA
      have BA := B9.ex eA
      replace MH5 := MH5.ext eA
      generalize upd G9 e (.lst [.ref c1, .ref z]) = GA at eA gA gD5 atA k1 gz BA MH5 ⊢
      refine ⟨_, rfl, _, rfl, D, _, _, i, rfl, rfl, gD5, Evl.ixN_nat (by rw [List.length_map, atA.1]; omega), ?_⟩
      rw [← List.map_set]
      have kD : ∀ (l : List V) x u, x ≠ D → GA x = some u → upd GA D (.lst l) x = some u := fun l x u n q => by rw [upd_ne n]; exact q
      refine ⟨_, rfl, done _ (qs.set i e) (rs.set i (bs, zs)) (BA.keep (kD _ b · nDb.symm) (kD _ c · nDc.symm)) (fun x u n1 q => kD _ x u (ne_of_none q fDH) (MH5 x u n1 q)) upd_same ?_ (fun a ha => ?_) (by rw [List.length_set]; omega)⟩
      · exact AtL.set (atA.mono fun a b h => h.keep (kD _)) ⟨c1, z, neD, nc1D, nzD, kD _ _ _ neD gA, kD _ _ _ nc1D k1, kD _ _ _ nzD gz⟩
      · rcases List.mem_or_eq_of_mem_set ha with ha | rfl
        · exact gr a ha
        · exact ⟨sb, sz, lz, by show bs.length ≤ 64; omega⟩

end

section
variable {P : Program} {w : World} {K : PySem.W.Frag} {mg : Str → Option Value} {base : Heap} {A : Ad}
theorem ok_law_sum (T : Txt K mg A)   : Okd P w K mg base CX0 1 A.law_sum P_law_sum spSum := by
  obtain ⟨fd, F⟩ := T.d_law_sum

  refine ⟨fd, F.ok sc_law_sum (fun vs H Q E h => ?_) (fun cdv A' outer s H vs Q E hr h => ?_), F.binds fun _ _ _ _ _ _ us hl => match us, hl with | [_, _], _ => rfl⟩
  · obtain ⟨p, q, a, b, rfl, _⟩ := h
    rfl
  · obtain ⟨p, q, a, b, rfl, hp, hq, ga, gb, k⟩ := h
    refine ⟨_, (pss_cons (ps_set (i := 2) sc_law_sum.nd rfl (Or.inr rfl) (pe_ix ix_list (pv 0) pe_int (fun _ _ => rfl)))
      (pss_cons (ps_if (pt_cmpR (op_neD hr.units) (pv 2) (pe_ix ix_list (pv 1) pe_int (fun _ _ => rfl)) (nomark _)) (pss_one (ps_ret (pe_lst (pa_cons pe_str (pa_cons pe_int (pa_cons (pe_lst pa_nil) (pa_cons (pe_lst pa_nil) pa_nil))))))) pss_nil)
      (pss_cons (ps_for PassesOwn.never rfl (pi_range1 (by rfl) T.n_range (pa_cons (pe_callB call_len_seq (by rfl) T.n_len PySem.boot_len (pa_cons (pv 2) pa_nil)) pa_nil)) (pg_name (i := 3) sc_law_sum.nd rfl (Or.inl rfl)) (pss_one (ps_if (PW.pt (pw_and (pt_cmpR op_ne (pe_ix ix_list (pe_ix ix_list (pv 0) pe_int (fun _ _ => rfl)) (pv 3) (fun _ _ => rfl)) (pe_ix ix_list (pv 2) (pv 3) (fun _ _ => rfl)) (nomark _)) (pw_and1 (pt_cmpR op_ne (pe_ix ix_list (pe_ix ix_list (pv 1) pe_int (fun _ _ => rfl)) (pv 3) (fun _ _ => rfl)) (pe_ix ix_list (pv 2) (pv 3) (fun _ _ => rfl)) (nomark _))))) (pss_one (ps_ret (pe_lst (pa_cons pe_str (pa_cons (pv 3) (pa_cons (pe_lst pa_nil) (pa_cons (pe_lst pa_nil) pa_nil))))))) pss_nil)))
      (pss_one (ps_ret (pe_lst (pa_cons pe_str (pa_cons pe_int (pa_cons (pv 2) (pa_cons (pe_lc (own := [("x", 3)]) (tt := tYes) (by rfl) sc_law_sum.nd (pi_range1 (by rfl) T.n_range (pa_cons (pe_callB call_len_seq (by rfl) T.n_len PySem.boot_len (pa_cons (pv 2) pa_nil)) pa_nil)) (blkOk_by (own := [("x", 3)]) (N := N_law_sum) (sc := defScope s_law_sum) (by decide +kernel)) (fun _ _ _ _ _ => (pg_name (i := 3) sc_law_sum.nd rfl (Or.inl rfl))) (fun _ _ _ _ _ => pts_nil) (fun _ _ _ _ _ => (pe_ifExp (pt_cmpR op_ne (pe_ix (ix_listK (K := K) rfl) (pe_ix (ix_listK (K := K) rfl) (pv 0) pe_int (fun _ _ => rfl)) (pv 3) (fun _ _ => rfl)) (pe_ix (ix_listK (K := K) rfl) (pv 2) (pv 3) (fun _ _ => rfl)) (nomark _)) (pe_ix (ix_listK (K := K) rfl) (pe_ix (ix_listK (K := K) rfl) (pv 0) pe_int (fun _ _ => rfl)) (pv 3) (fun _ _ => rfl)) (pe_ix (ix_listK (K := K) rfl) (pe_ix (ix_listK (K := K) rfl) (pv 1) pe_int (fun _ _ => rfl)) (pv 3) (fun _ _ => rfl))))) pa_nil)))))))))), ?_⟩
    obtain ⟨s1, t1, h1, hs1, ht1⟩ := hp
    obtain ⟨s2, t2, h2, hs2, ht2⟩ := hq
    have la := ga.len
    have lb := gb.len
    have l64 := ga.l64
    refine ⟨_, rfl, p, _, _, _, rfl, rfl, SqL.of h1, atI_nat (j := 0) rfl, ?_⟩
    refine ⟨_, rfl, _, rfl, q, _, _, _, rfl, rfl, SqL.of h2, atI_nat (j := 0) rfl, dN a.1, dN b.1, dp_N hs1, dp_N hs2, (lay_N _).shaped (by decide), (lay_N _).shaped (by decide), ?_⟩
    rw [eqv_N]
    refine ⟨_, rfl, ?_⟩
    have two : ∀ (w2 : Str) (n : Nat) (o : Sm), (∀ ys zs, o ≠ .sm ys zs) → w2 = wdF o → n = xoF o → sumF a b = o → ∀ x, H x = none → ∀ y, upd H x (.lst []) y = none → ∀ d, upd (upd H x (.lst [])) y (.lst []) d = none → Q (.ref d) (upd (upd (upd H x (.lst [])) y (.lst [])) d (.lst [.str w2, .int (n : Int), .ref x, .ref y])) := by
      rintro w2 n o no rfl rfl so x hx y hy d hd
      refine k d _ (((Ex.new hx).trans (Ex.new hy)).trans (Ex.new hd)) ⟨x, y, ?_, fun ys zs z => ?_⟩
      · rw [upd_same, so]
      · rw [so] at z
        exact absurd z (no ys zs)
    by_cases e : a.1 = b.1
    rotate_left
    · rw [decide_eq_false e]
      refine iteT ?_
      exact ⟨(by show 0 ≤ sizeLine; decide), fun x hx => ⟨(by show 0 ≤ sizeLine; decide), fun y hy => ⟨(by show 4 ≤ sizeLine; decide), fun d hd => two _ 0 .df (fun ys zs z => by cases z) rfl rfl (by unfold sumF; rw [if_neg e]) x hx y hy d hd⟩⟩⟩
    rw [decide_eq_true e]
    refine iteF ?_
    refine ⟨_, rfl, s1, _, rfl, .inl hs1.sz, _, rfl, by rw [nI_len]; omega, by rw [nI_len]; omega, ?_⟩
    rw [nI_len, Int.toNat_natCast]
    refine for_range (lo := 0) (n := a.1.length) (fun i σ G => ∃ v3 : Option V, σ = [some (.ref p), some (.ref q), some (.ref s1), v3] ∧ G = H ∧ ∀ j, j < i → bothF a b j = false) ⟨none, rfl, rfl, fun j hj => absurd hj (Nat.not_lt_zero j)⟩ ?_ ?_
    · rintro i σ G hi ⟨v3, rfl, rfl, no⟩
      rw [Int.zero_add]
      have ib : i < b.2.length := by rw [lb, ← e]; exact hi
      refine ⟨_, rfl, p, _, _, _, rfl, rfl, SqL.of h1, atI_nat (j := 1) rfl, _, rfl, t1, _, _, _, rfl, rfl, ht1.sz, atN (by rw [la]; exact hi), _, rfl, _, rfl, s1, _, _, _, rfl, rfl, hs1.sz, atN hi, rfl, _, rfl, ?_⟩
      rw [dec_ints]
      have step : bothF a b i = false → ∀ j, j < i + 1 → bothF a b j = false := fun h j hj => by
        by_cases c : j = i
        · rw [c]; exact h
        · exact no j (by omega)
      by_cases c1 : a.2.getD i 0 = a.1.getD i 0
      · rw [decide_eq_true c1]
        refine iteF (iteF ⟨_, rfl, rfl, step ?_⟩)
        unfold bothF
        rw [decide_eq_false (fun z => z c1), Bool.false_and]
      rw [decide_eq_false c1]
      refine iteT ?_
      refine ⟨_, rfl, q, _, _, _, rfl, rfl, SqL.of h2, atI_nat (j := 1) rfl, _, rfl, t2, _, _, _, rfl, rfl, ht2.sz, atN ib, _, rfl, _, rfl, s1, _, _, _, rfl, rfl, hs1.sz, atN hi, rfl, _, rfl, ?_⟩
      rw [dec_ints]
      by_cases c2 : b.2.getD i 0 = a.1.getD i 0
      · rw [decide_eq_true c2]
        refine iteF ⟨_, rfl, rfl, step ?_⟩
        unfold bothF
        rw [c2]
        simp
      rw [decide_eq_false c2]
      refine iteT ?_
      have fb : firstOf (bothF a b) a.1.length = some i := firstOf_some hi (by unfold bothF; rw [decide_eq_true c1, decide_eq_true c2]; rfl) no
      exact ⟨_, rfl, (by show 0 ≤ sizeLine; decide), fun x hx => ⟨(by show 0 ≤ sizeLine; decide), fun y hy => ⟨(by show 4 ≤ sizeLine; decide), fun d hd => two _ i (.bz i) (fun ys zs z => by cases z) rfl rfl (by unfold sumF; rw [if_pos e, fb]) x hx y hy d hd⟩⟩⟩
    · rintro σ G ⟨v3, rfl, rfl, no⟩
      have fb : firstOf (bothF a b) a.1.length = none := firstOf_none no
      have so : sumF a b = .sm a.1 (mgF a.1 a.2 b.2 a.1.length) := by unfold sumF; rw [if_pos e, fb]
      refine ⟨_, rfl, _, rfl, s1, _, rfl, .inl hs1.sz, _, rfl, by rw [nI_len]; omega, by rw [nI_len]; omega, fun D hD => ?_⟩
      rw [nI_len, Int.toNat_natCast]
      refine lc_range (lo := 0) (n := a.1.length) (fun j G2 => Ex G G2 ∧ ListN G2 D (mgF a.1 a.2 b.2 j)) ⟨Ex.new hD, upd_same⟩ ?_ ?_
      · rintro j G2 hj ⟨e2, hd⟩
        rw [Int.zero_add]
        refine ⟨rfl, ?_⟩
        have fin : ∀ v : Nat, v = (if a.2.getD j 0 ≠ a.1.getD j 0 then a.2.getD j 0 else b.2.getD j 0) → ∃ acc, G2 D = some (.lst acc) ∧ acc.length < sizeLine ∧ (Ex G (upd G2 D (.lst (acc ++ [V.int (v : Int)]))) ∧ ListN (upd G2 D (.lst (acc ++ [V.int (v : Int)]))) D (mgF a.1 a.2 b.2 (j + 1))) := by
          rintro v rfl
          refine ⟨_, hd, small1000 (by rw [nI_len, mgF_len]; omega), fun y o ho => by rw [upd_ne (ne_of_none ho hD)]; exact e2 _ _ ho, ?_⟩
          show upd G2 D _ D = _
          rw [upd_same]
          unfold mgF
          rw [List.range_succ, List.map_append, ← nI_app]
          rfl
        refine ⟨_, rfl, p, _, _, _, rfl, rfl, SqL.of (e2 _ _ h1), atI_nat (j := 1) rfl, _, rfl, t1, _, _, _, rfl, rfl, (ht1.ex e2).sz, atN (by rw [la]; exact hj), _, rfl, _, rfl, s1, _, _, _, rfl, rfl, (hs1.ex e2).sz, atN hj, rfl, _, rfl, ?_⟩
        rw [dec_ints]
        by_cases c1 : a.2.getD j 0 = a.1.getD j 0
        · rw [decide_eq_true c1]
          refine iteF ⟨_, rfl, q, _, _, _, rfl, rfl, SqL.of (e2 _ _ h2), atI_nat (j := 1) rfl, _, rfl, t2, _, _, _, rfl, rfl, (ht2.ex e2).sz, atN (by rw [lb, ← e]; exact hj), fin _ ?_⟩
          rw [if_neg (fun z => z c1)]
        · rw [decide_eq_false c1]
          refine iteT ⟨_, rfl, p, _, _, _, rfl, rfl, SqL.of (e2 _ _ h1), atI_nat (j := 1) rfl, _, rfl, t1, _, _, _, rfl, rfl, (ht1.ex e2).sz, atN (by rw [la]; exact hj), fin _ ?_⟩
          rw [if_pos c1]
      · rintro G2 ⟨e2, gD⟩
        exact ⟨(by show 4 ≤ sizeLine; decide), fun d hd => k d _ (e2.trans (Ex.new hd)) ⟨s1, D, by rw [upd_same, so]; rfl, fun ys zs z => by
          rw [so] at z
          cases z
          exact ⟨(hs1.ex e2).ex (Ex.new hd), gD.ex (Ex.new hd)⟩⟩⟩

end

section
variable {P : Program} {w : World} {K : PySem.W.Frag} {mg : Str → Option Value} {base : Heap} {A : Ad}
theorem ok_law_spoil (T : Txt K mg A)   : Okd P w K mg base CX0 1 A.law_spoil P_law_spoil spSpl := by
  obtain ⟨fd, F⟩ := T.d_law_spoil

  refine ⟨fd, F.ok sc_law_spoil (fun vs H Q E h => ?_) (fun cdv A' outer s H vs Q E hr h => ?_), F.binds fun _ _ _ _ _ _ us hl => match us, hl with | [_], _ => rfl⟩
  · obtain ⟨a, xs, rfl, _⟩ := h
    rfl
  · obtain ⟨a, xs, rfl, ha, hl, k⟩ := h
    refine ⟨_, (pss_cons (ps_for PassesOwn.never rfl (pi_range1 (by rfl) T.n_range (pa_cons (pe_callB call_len_seq (by rfl) T.n_len PySem.boot_len (pa_cons (pv 0) pa_nil)) pa_nil)) (pg_name (i := 1) sc_law_spoil.nd rfl (Or.inl rfl)) (pss_one (ps_asg pe_int (pg_sub (pv 0) (pv 1) set_list))))
      (pss_one (ps_expr (pe_bm PySem.F.plainAttrs_list PySem.F.slot_list_append PySem.F.type_list_append mt_append (pv 0) (pa_cons pe_int pa_nil))))), ?_⟩
    refine ⟨_, rfl, a, _, rfl, .inl (SqL.of ha), _, rfl, by omega, by omega, ?_⟩
    rw [Int.toNat_natCast]
    refine for_range (lo := 0) (n := xs.length) (fun i σ G => ∃ v1 ys, σ = [some (.ref a), v1] ∧ (∀ x o, x ≠ a → H x = some o → G x = some o) ∧ G a = some (.lst ys) ∧ ys.length = xs.length) ⟨none, xs, rfl, fun _ _ _ h => h, ha, rfl⟩ ?_ ?_
    · rintro i σ G hi ⟨v1, ys, rfl, K1, hy, yl⟩
      rw [Int.zero_add]
      refine ⟨_, rfl, _, rfl, a, _, _, i, rfl, rfl, hy, Evl.ixN_nat (by rw [yl]; exact hi), ?_⟩
      exact ⟨_, _, rfl, fun x o h1 h => by rw [upd_ne h1]; exact K1 x o h1 h, upd_same, by rw [List.length_set]; exact yl⟩
    rintro σ G ⟨v1, ys, rfl, K1, hy, yl⟩
    refine ⟨_, rfl, Or.inl ⟨rfl, _, SqL.of hy⟩, _, _, _, rfl, rfl, hy, small1000 (by omega), ?_⟩
    exact k _ _ (fun x o h1 h => by rw [upd_ne h1]; exact K1 x o h1 h) upd_same

end

section
variable {P : Program} {w : World} {K : PySem.W.Frag} {mg : Str → Option Value} {base : Heap} {A : Ad}
theorem ok_law_size (T : Txt K mg A)  (g_law_draw : Okd P w K mg base CX0 2 A.law_draw P_law_draw spDw) : Okd P w K mg base CX0 3 A.law_size P_law_size spSz := by
  obtain ⟨fd, F⟩ := T.d_law_size
  obtain ⟨fd_law_draw, G_law_draw, b_law_draw⟩ := g_law_draw
  refine ⟨fd, F.ok sc_law_size (fun vs H Q E h => ?_) (fun cdv A' outer s H vs Q E hr h => ?_), F.binds fun _ _ _ _ _ _ us hl => match us, hl with | [_], _ => rfl⟩
  · obtain ⟨b, c, rfl, _⟩ := h
    rfl
  · obtain ⟨b, c, rfl, B, k⟩ := h
    refine ⟨_, (pss_cons (ps_if (pt_cmpR op_eq (pe_call G_law_draw (hr.mono (by decide)) (by rfl) T.g_law_draw T.k_law_draw b_law_draw .nil pass0 (pa_cons (pv 0) (pa_cons pe_int pa_nil))) pe_int (nomark _)) (pss_one (ps_ret (pe_call G_law_draw (hr.mono (by decide)) (by rfl) T.g_law_draw T.k_law_draw b_law_draw .nil pass0 (pa_cons (pv 0) (pa_cons pe_int pa_nil))))) pss_nil)
      (pss_one (ps_ret (pe_call G_law_draw (hr.mono (by decide)) (by rfl) T.g_law_draw T.k_law_draw b_law_draw .nil pass0 (pa_cons (pv 0) (pa_cons pe_int pa_nil)))))), ?_⟩
    refine ⟨_, rfl, b, c, 8, rfl, by decide, by decide, B, fun d H1 d1 B1 M1 => ⟨rfl, _, rfl, ?_⟩⟩
    refine ite_b (fun _ => ?_) (fun _ => ?_)
    · refine ⟨_, rfl, b, c, 65, rfl, by decide, by decide, B1, fun n H2 n1 B2 M2 => k n H2 (by omega) B2 (M1.trans M2)⟩
    · refine ⟨_, rfl, b, c, 13, rfl, by decide, by decide, B1, fun n H2 n1 B2 M2 => k n H2 (by omega) B2 (M1.trans M2)⟩

end

section
variable {P : Program} {w : World} {K : PySem.W.Frag} {mg : Str → Option Value} {base : Heap} {A : Ad}
theorem ok_law_touched (T : Txt K mg A)  (g_law_blocks : Okd P w K mg base CX0 1 A.law_blocks P_law_blocks spBk) (g_law_draw : Okd P w K mg base CX0 2 A.law_draw P_law_draw spDw) : Okd P w K mg base CX0 3 A.law_touched P_law_touched spTch := by
  obtain ⟨fd, F⟩ := T.d_law_touched
  obtain ⟨fd_law_blocks, G_law_blocks, b_law_blocks⟩ := g_law_blocks
  obtain ⟨fd_law_draw, G_law_draw, b_law_draw⟩ := g_law_draw
  refine ⟨fd, F.ok sc_law_touched (fun vs H Q E h => ?_) (fun cdv A' outer s H vs Q E hr h => ?_), F.binds fun _ _ _ _ _ _ us hl => match us, hl with | [_, _, _], _ => rfl⟩
  · obtain ⟨b, c, p, ys, m, rfl, _⟩ := h
    rfl
  · obtain ⟨b, c, p, ys, m, rfl, B, hp, sy, l64, k⟩ := h
    refine ⟨_, (pss_cons (ps_set (i := 3) sc_law_touched.nd rfl (Or.inl rfl) (pe_call G_law_blocks (hr.mono (by decide)) (by rfl) T.g_law_blocks T.k_law_blocks b_law_blocks .nil pass0 (pa_cons (pv 1) pa_nil)))
      (pss_cons (ps_set (i := 4) sc_law_touched.nd rfl (Or.inl rfl) (pe_lst pa_nil))
      (pss_cons (ps_for PassesOwn.never rfl (pi_range1 (by rfl) T.n_range (pa_cons (pe_call G_law_draw (hr.mono (by decide)) (by rfl) T.g_law_draw T.k_law_draw b_law_draw .nil pass0 (pa_cons (pv 0) (pa_cons (pe_op op_add (pe_callB call_len_seq (by rfl) T.n_len PySem.boot_len (pa_cons (pv 3) pa_nil)) pe_int) pa_nil))) pa_nil)) (pg_name (i := 5) sc_law_touched.nd rfl (Or.inl rfl)) (pss_cons (ps_set (i := 6) sc_law_touched.nd rfl (Or.inl rfl) (pe_bm PySem.F.plainAttrs_list PySem.F.slot_list_pop PySem.F.type_list_pop mt_popAt (pv 3) (pa_cons (pe_call G_law_draw (hr.mono (by decide)) (by rfl) T.g_law_draw T.k_law_draw b_law_draw .nil pass0 (pa_cons (pv 0) (pa_cons (pe_callB call_len_seq (by rfl) T.n_len PySem.boot_len (pa_cons (pv 3) pa_nil)) pa_nil))) pa_nil)))
      (pss_one (ps_if (pt_cmpR op_le (pe_op op_add (pe_callB call_len_seq (by rfl) T.n_len PySem.boot_len (pa_cons (pv 4) pa_nil)) (pe_callB call_len_seq (by rfl) T.n_len PySem.boot_len (pa_cons (pv 6) pa_nil))) (pv 2) (nomark _)) (pss_one (ps_set (i := 4) sc_law_touched.nd rfl (Or.inl rfl) (pe_op op_cat (pv 4) (pv 6)))) pss_nil))))
      (pss_one (ps_ret (pv 4)))))), ?_⟩
    refine ⟨_, rfl, p, ys, rfl, hp, sy, l64, fun pl ps bs H1 hpl e0 gpl at0 bl bcl bnd => ?_⟩
    obtain ⟨nplb, nplc⟩ := B.ne hpl
    have B1 := B.ex e0
    refine ⟨(by show 0 ≤ sizeLine; decide), fun f hf => ?_⟩
    have e1 := Ex.new (o := .lst []) hf
    have gf : ListN (upd H1 f (.lst [])) f [] := upd_same
    have nfp : f ≠ pl := (ne_of_none gpl hf).symm
    have gpl1 := e1 _ _ gpl
    have B2 := B1.ex e1
    have e01 := e0.trans e1
    have at1 : AtL (fun a b => a ≠ pl ∧ ListN (upd H1 f (.lst [])) a b) ps bs := at0.mono fun a b h => ⟨h.1, h.2.2.ex e1⟩
    have ff : H f = none := back_none e0 hf
    generalize upd H1 f (.lst []) = H2 at e1 gf gpl1 B2 e01 at1 ⊢
    have lp : (ps.map V.ref).length = ps.length := List.length_map ..
    have lb := at0.1
    refine ⟨_, rfl, _, rfl, pl, _, rfl, .inl (SqL.of gpl1), _, _, rfl, rfl, b, c, _, rfl, by omega, by omega, B2, fun d G1 dlt B3 M3 => ⟨_, rfl, by omega, by omega, ?_⟩⟩
    rw [Int.toNat_natCast]
    rw [lp] at dlt
    refine for_range (lo := 0) (n := d) (fun i σ G => ∃ (v5 v6 : Option V) (f : Addr) (am : List Nat) (ps : List Addr) (bs : List (List Nat)), σ = [some (.ref b), some (.ref p), some (.int m), some (.ref pl), some (.ref f), v5, v6] ∧ Bx G b c ∧ (∀ x o, x ≠ b → x ≠ pl → H x = some o → G x = some o) ∧ H f = none ∧ f ≠ pl ∧ ListN G f am ∧ G pl = some (.lst (ps.map V.ref)) ∧ AtL (fun a b => a ≠ pl ∧ ListN G a b) ps bs ∧ (∀ b ∈ bs, Clo ys b) ∧ (am ++ bs.flatten).Nodup ∧ Clo ys am ∧ d ≤ bs.length + i ∧ bs.length ≤ 64)
      ⟨none, none, f, [], ps, bs, rfl, B3, fun x o n1 _ h => M3 _ _ n1 (e01 _ _ h), ff, nfp, gf.mut B2 M3, M3 _ _ nplb gpl1, at1.mono fun a b h => ⟨h.1, h.2.mut B2 M3⟩, bcl, bnd, ⟨List.nodup_nil, (fun x h => by cases h), (fun x h => by cases h)⟩, by omega, bl⟩ ?_ ?_
    · rintro i σ G hi ⟨v5, v6, f, am, ps, bs, rfl, B4, kp, ff, nfp, gf, gp, at_, bcl, nd, ca, tot, bl⟩
      have lp : (ps.map V.ref).length = ps.length := List.length_map ..
      have lb := at_.1
      refine ⟨_, rfl, .inl ⟨rfl, _, SqL.of gp⟩, _, rfl, _, rfl, pl, _, rfl, .inl (SqL.of gp), b, c, _, rfl, by omega, by omega, B4, fun j G2 jlt B5 M5 => ?_⟩
      rw [lp] at jlt
      have jl : j < bs.length := by omega
      obtain ⟨a, y, ha, hy, ⟨nap, gy⟩, ym⟩ := at_.ex_at jl
      have at5 : AtL (fun a b => a ≠ pl ∧ ListN G2 a b) ps bs := at_.mono fun a b h => ⟨h.1, h.2.mut B4 M5⟩
      have gy5 := gy.mut B4 M5
      have gf5 := gf.mut B4 M5
      refine ⟨pl, _, (j : Int), j, .ref a, rfl, rfl, M5 _ _ nplb gp, (by have : (2 : Int) ^ 63 = 9223372036854775808 := (by decide); omega), (by have : (2 : Int) ^ 63 = 9223372036854775808 := (by decide); omega), seq_nat (by omega), (by rw [List.getElem?_map, ha]; rfl), ?_⟩
      have er : (ps.map V.ref).eraseIdx j = (ps.eraseIdx j).map V.ref := by
        rw [List.eraseIdx_eq_take_drop_succ, List.eraseIdx_eq_take_drop_succ, List.map_append, List.map_take, List.map_drop]
      rw [er]
      have pm := pop_perm hy
      have pl1 := pm.length_eq
      rw [List.length_cons] at pl1
      have pf := pm.flatten
      have U : ∀ {x : Addr} {xs : List Nat}, x ≠ pl → ListN G2 x xs → ListN (upd G2 pl (.lst ((ps.eraseIdx j).map V.ref))) x xs := fun {x xs} n h => by
        show upd G2 pl _ x = _
        rw [upd_ne n]
        exact h
      have B6 : Bx (upd G2 pl (.lst ((ps.eraseIdx j).map V.ref))) b c := B5.keep (fun o h => by rw [upd_ne nplb.symm]; exact h) (fun o h => by rw [upd_ne nplc.symm]; exact h)
      have gp6 : upd G2 pl (.lst ((ps.eraseIdx j).map V.ref)) pl = some (.lst ((ps.eraseIdx j).map V.ref)) := upd_same
      have kp6 : ∀ x o, x ≠ b → x ≠ pl → H x = some o → upd G2 pl (.lst ((ps.eraseIdx j).map V.ref)) x = some o := fun x o n1 n2 h => by rw [upd_ne n2]; exact M5 _ _ n1 (kp x o n1 n2 h)
      have at6 : AtL (fun a b => a ≠ pl ∧ ListN (upd G2 pl (.lst ((ps.eraseIdx j).map V.ref))) a b) (ps.eraseIdx j) (bs.eraseIdx j) := at5.erase.mono fun a b h => ⟨h.1, U h.1 h.2⟩
      have gy6 := U nap gy5
      have gf6 := U nfp gf5
      generalize upd G2 pl (.lst ((ps.eraseIdx j).map V.ref)) = G3 at B6 gp6 kp6 at6 gy6 gf6 ⊢
      have cy := bcl y ym
      have bcl2 : ∀ b ∈ bs.eraseIdx j, Clo ys b := fun b hb => bcl b (pm.mem_iff.mp (List.mem_cons_of_mem _ hb))
      have nd2 : (am ++ (y ++ (bs.eraseIdx j).flatten)).Nodup := ((List.Perm.append_left am pf).nodup_iff).mpr nd
      generalize ps.eraseIdx j = ps2 at gp6 at6 ⊢
      generalize bs.eraseIdx j = bs2 at at6 bcl2 nd2 pl1 ⊢
      have nam : (nI am).length = am.length := nI_len am
      have ny : (nI y).length = y.length := nI_len y
      refine ⟨_, rfl, f, _, rfl, .inl gf6.sz, _, rfl, a, _, rfl, .inl gy6.sz, ?_⟩
      refine ⟨_, _, rfl, rfl, _, rfl, _, _, rfl, rfl, _, rfl, ?_⟩
      have ndA := (List.append_assoc am y bs2.flatten).symm ▸ nd2
      refine ite_b (fun cc => ?_) (fun cc => ?_)
      · have ay := nodup_len (List.nodup_append.mp ndA).1 (fun x hx => (List.mem_append.mp hx).elim (ca.lt x) (cy.lt x))
        refine ⟨_, rfl, _, rfl, f, a, _, _, rfl, rfl, gf6, gy6, Nat.le_of_lt (small1000 (show (nI am).length + (nI y).length ≤ 1000 from by rw [nam, ny]; rw [List.length_append] at ay; omega)), fun r hr => ?_⟩
        have nrb := (B6.ne hr).1
        have nrp : r ≠ pl := (ne_of_none gp6 hr).symm
        have e7 := Ex.new (o := .lst (nI am ++ nI y)) hr
        have g7 : ListN (upd G3 r (.lst (nI am ++ nI y))) r (am ++ y) := by
          show upd G3 r _ r = _
          rw [upd_same]
          unfold nI
          rw [List.map_append]
        have hH : H r = none := by
          cases q : H r with
          | none => rfl
          | some o => have := kp6 r o nrb nrp q; rw [hr] at this; cases this
        exact ⟨_, _, r, am ++ y, ps2, bs2, rfl, B6.ex e7, fun x o n1 n2 h => e7 _ _ (kp6 x o n1 n2 h), hH, nrp, g7, e7 _ _ gp6, at6.mono fun a b h => ⟨h.1, h.2.ex e7⟩, bcl2, ndA, ⟨(List.nodup_append.mp ndA).1, fun x hx => (List.mem_append.mp hx).elim (ca.lt x) (cy.lt x), fun x hx => (List.mem_append.mp hx).elim (fun h => List.mem_append.mpr (.inl (ca.go x h))) fun h => List.mem_append.mpr (.inr (cy.go x h))⟩, by omega, by omega⟩
      · refine ⟨_, _, f, am, ps2, bs2, rfl, B6, kp6, ff, nfp, gf6, gp6, at6, bcl2, ?_, ca, by omega, by omega⟩
        refine nd2.sublist ?_
        exact List.Sublist.append (List.Sublist.refl am) (List.sublist_append_right y _)
    · rintro σ G ⟨v5, v6, f, am, ps, bs, rfl, B4, kp, ff, nfp, gf, gp, at_, bcl, nd, ca, tot, bl⟩
      exact ⟨_, rfl, k f am G ff B4 (fun x o n h => kp x o n (ne_of_none h hpl) h) gf ca⟩

end

section
variable {P : Program} {w : World} {K : PySem.W.Frag} {mg : Str → Option Value} {base : Heap} {A : Ad}
theorem ok_m_init (T : Txt K mg A)  (g_check_pair : Okd P w K mg base (L2N.CX P w) 5 A.check_pair P_check_pair (spCP A)) : Okd P w K mg base (L2N.CX P w) 6 A.m_init P_m_init (spUi A) := by
  obtain ⟨fd, F⟩ := T.d_m_init
  obtain ⟨fd_check_pair, G_check_pair, b_check_pair⟩ := g_check_pair
  refine ⟨fd, F.okN sc_m_init (fun vs H Q E h => ?_) (fun cdv A' outer s H vs Q E hr h => ?_), F.binds fun _ _ _ _ _ _ us hl => match us, hl with | [_, _, _], _ => rfl⟩
  · obtain ⟨u, a, b, dx, xs, zs, rfl, _⟩ := h
    rfl
  · obtain ⟨u, a, b, dx, xs, zs, rfl, hu, ha, hb, hl, hl2, kq, kr⟩ := h
    refine ⟨_, (pss_cons (ps_expr (pe_callS G_check_pair (hr.mono (by decide)) rfl T.g_check_pair T.k_check_pair b_check_pair (fun σ => L2N.passAt (L2N.takes_of rfl rfl rfl rfl) σ) (pa_cons (pv 1) (pa_cons (pv 2) pa_nil))))
      (pss_cons (ps_fld (pv 0) (pe_callTy call_list_of (by rfl) T.n_list (by decide +kernel) (pa_cons (pv 1) pa_nil)) rfl)
      (pss_one (ps_fld (pv 0) (pe_callTy call_list_of (by rfl) T.n_list (by decide +kernel) (pa_cons (pv 2) pa_nil)) rfl)))), ?_⟩
    refine ⟨_, rfl, _, rfl, a, b, xs, zs, rfl, ha, hb, hl, hl2, fun f0 H1 e1 => ?_, fun f hf => kr f hf⟩
    have kq := kq f0
    obtain ⟨fs1, fs2, hlen⟩ := faultF_no f0
    obtain ⟨s1, st1⟩ := faultS_no fs1
    obtain ⟨s2, st2⟩ := faultS_no fs2
    have la := (ha.ex e1).nat s1
    have lb := (hb.ex e1).nat s2
    have hu1 := e1 _ _ hu
    refine ⟨_, rfl, a, _, rfl, Or.inl la.sz, fun p hp => ?_⟩
    have nup : u ≠ p := ne_of_none hu1 hp
    have eP := Ex.new (o := .lst (nI (natI xs))) hp
    have lp : ListN (upd H1 p (.lst (nI (natI xs)))) p (natI xs) := upd_same
    have hu2 := eP _ _ hu1
    have lb2 := lb.ex eP
    generalize upd H1 p (.lst (nI (natI xs))) = H2 at eP lp hu2 lb2 ⊢
    refine ⟨_, rfl, u, _, dx, _, rfl, hu2, T.cR, T.nc_before, (by decide), ?_⟩
    have k3 : ∀ x o, x ≠ u → H2 x = some o → upd H2 u (.ins A.Update dx [("before", .ref p)]) x = some o := fun x o h1 h => by rw [upd_ne h1]; exact h
    have hu3 : upd H2 u (.ins A.Update dx [("before", .ref p)]) u = some (.ins A.Update dx [("before", .ref p)]) := upd_same
    have nbu : b ≠ u := fun z => by have h : H2 b = some _ := lb2; rw [z, hu2] at h; cases h
    rw [show putF (Str.ofString "before") (V.ref p) [] = [(("before" : Str), V.ref p)] from rfl]
    generalize upd H2 u (.ins A.Update dx [("before", .ref p)]) = H3 at k3 hu3 ⊢
    have lb3 : ListN H3 b (natI zs) := k3 _ _ nbu lb2
    have lp3 : ListN H3 p (natI xs) := k3 _ _ (Ne.symm nup) lp
    refine ⟨_, rfl, b, _, rfl, Or.inl lb3.sz, fun q hq => ?_⟩
    have nuq : u ≠ q := ne_of_none hu3 hq
    have npq : p ≠ q := ne_of_none (show H3 p = some _ from lp3) hq
    have eQ := Ex.new (o := .lst (nI (natI zs))) hq
    have lq : ListN (upd H3 q (.lst (nI (natI zs)))) q (natI zs) := upd_same
    have hu4 := eQ _ _ hu3
    have lp4 := lp3.ex eQ
    have fq : H q = none := by
      cases z : H q with
      | none => rfl
      | some o => rw [k3 _ _ (Ne.symm nuq) (eP _ _ (e1 _ _ z))] at hq; cases hq
    generalize upd H3 q (.lst (nI (natI zs))) = H4 at eQ lq hu4 lp4 ⊢
    refine ⟨_, rfl, u, _, dx, _, rfl, hu4, T.cR, T.nc_after, (by show 1 < 1000; decide), ?_⟩
    have k5 : ∀ x o, x ≠ u → H4 x = some o → upd H4 u (.ins A.Update dx [("before", .ref p), ("after", .ref q)]) x = some o := fun x o h1 h => by rw [upd_ne h1]; exact h
    exact kq p q (upd H4 u (.ins A.Update dx [("before", .ref p), ("after", .ref q)])) (back_none e1 hp) fq npq (fun x o h1 h => k5 _ _ h1 (eQ _ _ (k3 _ _ h1 (eP _ _ (e1 _ _ h))))) upd_same (k5 _ _ (Ne.symm nup) lp4) (k5 _ _ (Ne.symm nuq) lq)

end

section
variable {P : Program} {w : World} {K : PySem.W.Frag} {mg : Str → Option Value} {base : Heap} {A : Ad}
theorem ok_law_unsettled (T : Txt K mg A)   : Okd P w K mg base CX0 1 A.law_unsettled P_law_unsettled spUn := by
  obtain ⟨fd, F⟩ := T.d_law_unsettled

  refine ⟨fd, F.ok sc_law_unsettled (fun vs H Q E h => ?_) (fun cdv A' outer s H vs Q E hr h => ?_), F.binds fun _ _ _ _ _ _ us hl => match us, hl with | [_], _ => rfl⟩
  · obtain ⟨a, xs, rfl, _⟩ := h
    rfl
  · obtain ⟨a, xs, rfl, ha, h0, hl, k⟩ := h
    refine ⟨_, (pss_cons (ps_for PassesOwn.never rfl (pi_range1 (by rfl) T.n_range (pa_cons (pe_callB call_len_seq (by rfl) T.n_len PySem.boot_len (pa_cons (pv 0) pa_nil)) pa_nil)) (pg_name (i := 1) sc_law_unsettled.nd rfl (Or.inl rfl)) (pss_one (ps_if (pt_cmpR op_ne (pe_ix ix_list (pv 0) (pe_ix ix_list (pv 0) (pv 1) (fun _ _ => rfl)) (fun _ _ => rfl)) (pv 1) (nomark _)) (pss_one (ps_ret (pv 1))) pss_nil)))
      (pss_one (ps_ret (pe_un un_neg pe_int)))), ?_⟩
    have na := ha.nat h0
    have nl : (natI xs).length = xs.length := natI_len
    have rcd : ∀ j, j < (natI xs).length → gt (natI xs) j < (natI xs).length := fun j hj => by rw [nl] at hj ⊢; exact (natI_at h0 hj).2
    rw [← nl] at hl
    generalize natI xs = ys at na rcd hl k
    refine ⟨_, rfl, a, _, rfl, .inl na.sz, _, rfl, by rw [nI_len]; omega, by rw [nI_len]; omega, ?_⟩
    rw [nI_len, Int.toNat_natCast]
    refine for_range (lo := 0) (n := ys.length) (fun i σ G => ∃ v1, σ = [some (.ref a), v1] ∧ Ex H G ∧ ∀ j, j < i → gt ys (gt ys j) = j) ⟨none, rfl, Ex.refl H, fun j hj => absurd hj (Nat.not_lt_zero _)⟩ ?_ ?_
    · rintro i σ G hi ⟨v1, rfl, e, nb⟩
      rw [Int.zero_add]
      refine ⟨_, rfl, _, rfl, _, rfl, a, _, _, _, rfl, rfl, (na.ex e).sz, atN hi, a, _, _, _, rfl, rfl, (na.ex e).sz, atN (rcd i hi), _, rfl, rfl, _, rfl, ?_⟩
      rw [dne]
      refine ite_b (fun c => ?_) (fun c => ?_)
      · have c := of_decide_eq_true c
        have s : unset ys = some i := firstOf_some hi (decide_eq_true c) fun j hj => decide_eq_false fun h => h (nb j hj)
        have kk := k G e
        rw [s] at kk
        exact ⟨_, rfl, kk⟩
      · have c := Decidable.not_not.mp (of_decide_eq_false c)
        refine ⟨_, rfl, e, fun j hj => ?_⟩
        by_cases z : j = i
        · rw [z]; exact c
        · exact nb j (by omega)
    rintro σ G ⟨v1, rfl, e, nb⟩
    have s : unset ys = none := firstOf_none fun j hj => decide_eq_false fun h => h (nb j hj)
    have kk := k G e
    rw [s] at kk
    exact ⟨_, rfl, kk⟩

end

section
variable {P : Program} {w : World} {K : PySem.W.Frag} {mg : Str → Option Value} {base : Heap} {A : Ad}
theorem okh_law_unsettled (T : Txt K mg A)   : Okh P w K mg base CX0 1 A.law_unsettled P_law_unsettled spUn := by
  obtain ⟨fd, F⟩ := T.d_law_unsettled

  refine ⟨fd, F.okH sc_law_unsettled (fun vs H Q E h => ?_) (fun cdv A' outer s H vs Q E p hot hr h => ?_), F.binds fun _ _ _ _ _ _ us hl => match us, hl with | [_], _ => rfl⟩
  · obtain ⟨a, xs, rfl, _⟩ := h
    rfl
  · obtain ⟨a, xs, rfl, ha, h0, hl, k⟩ := h
    refine ⟨_, (pss_cons (L2H.ps_forH PassesOwn.never ⟨p, ⟨hot.1, hot.2⟩, List.mem_cons_self⟩ (L2H.pi_range1H (by rfl) T.n_range (pa_cons (pe_callB call_len_seq (by rfl) T.n_len PySem.boot_len (pa_cons (pv 0) pa_nil)) pa_nil)) (pg_name (i := 1) sc_law_unsettled.nd rfl (Or.inl rfl)) (pss_one (ps_if (pt_cmpR op_ne (pe_ix ix_list (pv 0) (pe_ix ix_list (pv 0) (pv 1) (fun _ _ => rfl)) (fun _ _ => rfl)) (pv 1) (nomark _)) (pss_one (ps_ret (pv 1))) pss_nil)))
      (pss_one (ps_ret (pe_un un_neg pe_int)))), ?_⟩
    have na := ha.nat h0
    have nl : (natI xs).length = xs.length := natI_len
    have rcd : ∀ j, j < (natI xs).length → gt (natI xs) j < (natI xs).length := fun j hj => by rw [nl] at hj ⊢; exact (natI_at h0 hj).2
    rw [← nl] at hl
    generalize natI xs = ys at na rcd hl k
    refine ⟨_, rfl, a, _, rfl, .inl na.sz, _, rfl, by rw [nI_len]; omega, by rw [nI_len]; omega, ?_⟩
    rw [nI_len, Int.toNat_natCast]
    refine for_range (lo := 0) (n := ys.length) (fun i σ G => ∃ v1, σ = [some (.ref a), v1] ∧ Ex H G ∧ ∀ j, j < i → gt ys (gt ys j) = j) ⟨none, rfl, Ex.refl H, fun j hj => absurd hj (Nat.not_lt_zero _)⟩ ?_ ?_
    · rintro i σ G hi ⟨v1, rfl, e, nb⟩
      rw [Int.zero_add]
      refine ⟨_, rfl, _, rfl, _, rfl, a, _, _, _, rfl, rfl, (na.ex e).sz, atN hi, a, _, _, _, rfl, rfl, (na.ex e).sz, atN (rcd i hi), _, rfl, rfl, _, rfl, ?_⟩
      rw [dne]
      refine ite_b (fun c => ?_) (fun c => ?_)
      · have c := of_decide_eq_true c
        have s : unset ys = some i := firstOf_some hi (decide_eq_true c) fun j hj => decide_eq_false fun h => h (nb j hj)
        have kk := k G e
        rw [s] at kk
        exact ⟨_, rfl, kk⟩
      · have c := Decidable.not_not.mp (of_decide_eq_false c)
        refine ⟨_, rfl, e, fun j hj => ?_⟩
        by_cases z : j = i
        · rw [z]; exact c
        · exact nb j (by omega)
    rintro σ G ⟨v1, rfl, e, nb⟩
    have s : unset ys = none := firstOf_none fun j hj => decide_eq_false fun h => h (nb j hj)
    have kk := k G e
    rw [s] at kk
    exact ⟨_, rfl, kk⟩


end

section
variable {P : Program} {w : World} {K : PySem.W.Frag} {mg : Str → Option Value} {base : Heap} {A : Ad}
theorem ok_law_update (T : Txt K mg A)  (g_law_row : Okd P w K mg base CX0 2 A.law_row P_law_row spRw) (g_m_records : Okd P w K mg base CX0 1 A.m_records P_m_records (spRec A)) : Okd P w K mg base CX0 3 A.law_update P_law_update (spUpd A) := by
  obtain ⟨fd, F⟩ := T.d_law_update
  obtain ⟨fd_law_row, G_law_row, b_law_row⟩ := g_law_row
  obtain ⟨fd_m_records, G_m_records, b_m_records⟩ := g_m_records
  refine ⟨fd, F.ok sc_law_update (fun vs H Q E h => ?_) (fun cdv A' outer s H vs Q E hr h => ?_), F.binds fun _ _ _ _ _ _ us hl => match us, hl with | [_, _, _], _ => rfl⟩
  · obtain ⟨u, p, q, ys, zs, rfl, _⟩ := h
    rfl
  · obtain ⟨u, p, q, ys, zs, rfl, hu, hp, hq, lz, l65, k⟩ := h
    refine ⟨_, (pss_cons (ps_if (pt_not (pt_val (pe_callB call_isi (by rfl) T.n_isinstance (by decide +kernel) (pa_cons (pv 0) (pa_cons (pe_glob (v := .ref A.Update) rfl T.g_Update rfl) pa_nil))))) (pss_one (ps_ret pe_bl)) pss_nil)
      (pss_cons (ps_setLc (i := 3) (own := [("x", 4)]) (tt := _) (by rfl) sc_law_update.nd rfl rfl (sw_true rfl rfl rfl (by decide +kernel)) (pi_range1 (by rfl) T.n_range (pa_cons (pe_callB call_len_seq (by rfl) T.n_len PySem.boot_len (pa_cons (pv 1) pa_nil)) pa_nil)) (blkOk_by (own := [("x", 4)]) (N := N_law_update) (sc := defScope s_law_update) (by decide +kernel)) (fun _ _ _ _ _ => (pg_name (i := 4) sc_law_update.nd rfl (Or.inl rfl))) (fun _ _ _ _ _ => (pts_one (pt_cmpR op_ne (pe_ix (ix_listK (K := K) rfl) (pv 1) (pv 4) (fun _ _ => rfl)) (pe_ix (ix_listK (K := K) rfl) (pv 2) (pv 4) (fun _ _ => rfl)) (nomark _)))) (fun _ _ _ _ _ => (pv 4)))
      (pss_one (ps_ret (pe_and (pe_call G_law_row (hr.mono (by decide)) (by rfl) T.g_law_row T.k_law_row b_law_row .nil pass0 (pa_cons (pe_fld (pv 0) rfl) (pa_cons (pv 1) pa_nil))) (pe_and (pe_call G_law_row (hr.mono (by decide)) (by rfl) T.g_law_row T.k_law_row b_law_row .nil pass0 (pa_cons (pe_fld (pv 0) rfl) (pa_cons (pv 2) pa_nil))) (pe_one (pe_call G_law_row (hr.mono (by decide)) (by rfl) T.g_law_row T.k_law_row b_law_row .nil pass0 (pa_cons (pe_prop (pv 0) T.cR T.pp_records G_m_records (hr.mono (by decide)) b_m_records .nil pass0 rfl) (pa_cons (pv 3) pa_nil)))))))))), ?_⟩
    obtain ⟨dx, p2, q2, h1, hp2, hq2, np2, nq2⟩ := id hu
    refine ⟨_, rfl, _, _, _, _, true, rfl, ClsV.own _, TyX.base (TyOf.ins h1 T.cR T.cc T.cn T.ct T.co), kit_self, ?_⟩
    refine ⟨_, rfl, iteF ?_⟩
    refine ⟨_, rfl, p, _, rfl, .inl hp.sz, _, rfl, by rw [nI_len]; omega, by rw [nI_len]; omega, fun D hD => ?_⟩
    rw [nI_len, Int.toNat_natCast]
    refine lc_range (lo := 0) (n := ys.length) (fun j G => Ex H G ∧ ListN G D (recsK ys zs j)) ⟨Ex.new hD, upd_same⟩ ?_ ?_
    · rintro j G hj ⟨e, hd⟩
      rw [Int.zero_add]
      refine ⟨rfl, ?_⟩
      refine ⟨_, rfl, _, rfl, p, _, _, _, rfl, rfl, (hp.ex e).sz, atN hj, _, rfl, _, rfl, q, _, _, _, rfl, rfl, (hq.ex e).sz, atN (by rw [lz]; exact hj), rfl, _, rfl, ?_⟩
      rw [dec_ints]
      by_cases c : ys.getD j 0 = zs.getD j 0
      · rw [decide_eq_true c]
        refine iteF ⟨e, ?_⟩
        rw [recsK_neg c]
        exact hd
      · rw [decide_eq_false c]
        refine iteT ⟨_, rfl, _, hd, small1000 (by have := recsK_len (ys := ys) (zs := zs) (j := j); rw [nI_len]; omega), fun y o hy => by rw [upd_ne (ne_of_none hy hD)]; exact e y o hy, ?_⟩
        show upd G D _ D = _
        rw [upd_same, recsK_pos c, nI_app]
    rintro H1 ⟨e1, gD⟩
    refine ⟨_, rfl, u, _, dx, _, _, rfl, e1 _ _ h1, T.cR, T.nc_before, rfl, _, rfl, p2, p, ys, rfl, hp2.ex e1, hp.ex e1, by omega, fun H2 e2 => ?_⟩
    refine ⟨true, rfl, ifT rfl ?_⟩
    have e12 := e1.trans e2
    refine ⟨_, rfl, u, _, dx, _, _, rfl, e12 _ _ h1, T.cR, T.nc_after, rfl, _, rfl, q2, q, zs, rfl, hq2.ex e12, hq.ex e12, by omega, fun H3 e3 => ?_⟩
    refine ⟨true, rfl, ifT rfl ?_⟩
    have e13 := e12.trans e3
    refine ⟨_, rfl, u, dx, _, rfl, e13 _ _ h1, u, ys, zs, rfl, hu.ex e13, lz, l65, fun r H4 hr4 e4 g4 => ?_⟩
    have rl := recs_len (ys := ys) (zs := zs)
    exact ⟨_, rfl, r, D, recsF ys zs, rfl, g4, (gD.ex (e2.trans e3)).ex e4, by omega, fun H5 e5 => k H5 ((e13.trans e4).trans e5)⟩

end

section
variable {P : Program} {w : World} {K : PySem.W.Frag} {mg : Str → Option Value} {base : Heap} {A : Ad}
theorem ok_law_whole (T : Txt K mg A)   : Okd P w K mg base CX0 1 A.law_whole P_law_whole spWh := by
  obtain ⟨fd, F⟩ := T.d_law_whole

  refine ⟨fd, F.ok sc_law_whole (fun vs H Q E h => ?_) (fun cdv A' outer s H vs Q E hr h => ?_), F.binds fun _ _ _ _ _ _ us hl => match us, hl with | [_, _], _ => rfl⟩
  · obtain ⟨i, j, rfl, _⟩ := h
    rfl
  · obtain ⟨i, j, rfl, k⟩ := h
    refine ⟨_, (pss_one (ps_ret (pe_and (pe_callB call_isi (by rfl) T.n_isinstance (by decide +kernel) (pa_cons (pv 0) (pa_cons (pe_bltn (v := .ty "int") (u := .type "int") (by rfl) T.n_int (by decide +kernel) rfl) pa_nil))) (pe_and (pe_not (pe_callB call_isi (by rfl) T.n_isinstance (by decide +kernel) (pa_cons (pv 0) (pa_cons (pe_bltn (v := .ty "bool") (u := .type "bool") (by rfl) T.n_bool (by decide +kernel) rfl) pa_nil)))) (pe_one (pe_cmpR op_eq (pv 0) (pv 1) (nomark _))))))), ?_⟩
    refine ⟨_, rfl, _, _, _, _, true, rfl, ClsV.ty "int", TyX.base (TyOf.int _), kit_ty (by decide +kernel), ?_⟩
    refine ⟨true, rfl, ?_⟩
    refine iteT ?_
    refine ⟨_, rfl, _, _, _, _, false, rfl, ClsV.ty "bool", TyX.base (TyOf.int _), kit_ty (by decide +kernel), ?_⟩
    refine ⟨false, rfl, ?_⟩
    refine ⟨_, rfl, iteT ?_⟩
    exact ⟨_, rfl, _, rfl, rfl, by rw [show decide (V.int i = V.int j) = decide (i = j) from by
      by_cases c : i = j
      · rw [c, decide_eq_true rfl, decide_eq_true rfl]
      · rw [decide_eq_false c, decide_eq_false (fun h => by injection h with h; exact c h)]]; exact k⟩

end

section
variable {P : Program} {w : World} {K : PySem.W.Frag} {mg : Str → Option Value} {base : Heap} {A : Ad}
theorem okh_law_whole (T : Txt K mg A)   : Okh P w K mg base CX0 1 A.law_whole P_law_whole spWh := by
  obtain ⟨fd, F⟩ := T.d_law_whole

  refine ⟨fd, F.okH sc_law_whole (fun vs H Q E h => ?_) (fun cdv A' outer s H vs Q E p hot hr h => ?_), F.binds fun _ _ _ _ _ _ us hl => match us, hl with | [_, _], _ => rfl⟩
  · obtain ⟨i, j, rfl, _⟩ := h
    rfl
  · obtain ⟨i, j, rfl, k⟩ := h
    refine ⟨_, (pss_one (ps_ret (pe_and (pe_callB call_isi (by rfl) T.n_isinstance (by decide +kernel) (pa_cons (pv 0) (pa_cons (pe_bltn (v := .ty "int") (u := .type "int") (by rfl) T.n_int (by decide +kernel) rfl) pa_nil))) (pe_and (pe_not (pe_callB call_isi (by rfl) T.n_isinstance (by decide +kernel) (pa_cons (pv 0) (pa_cons (pe_bltn (v := .ty "bool") (u := .type "bool") (by rfl) T.n_bool (by decide +kernel) rfl) pa_nil)))) (pe_one (pe_cmpR op_eq (pv 0) (pv 1) (nomark _))))))), ?_⟩
    refine ⟨_, rfl, _, _, _, _, true, rfl, ClsV.ty "int", TyX.base (TyOf.int _), kit_ty (by decide +kernel), ?_⟩
    refine ⟨true, rfl, ?_⟩
    refine iteT ?_
    refine ⟨_, rfl, _, _, _, _, false, rfl, ClsV.ty "bool", TyX.base (TyOf.int _), kit_ty (by decide +kernel), ?_⟩
    refine ⟨false, rfl, ?_⟩
    refine ⟨_, rfl, iteT ?_⟩
    exact ⟨_, rfl, _, rfl, rfl, by rw [show decide (V.int i = V.int j) = decide (i = j) from by
      by_cases c : i = j
      · rw [c, decide_eq_true rfl, decide_eq_true rfl]
      · rw [decide_eq_false c, decide_eq_false (fun h => by injection h with h; exact c h)]]; exact k⟩


end

section
variable {P : Program} {w : World} {K : PySem.W.Frag} {mg : Str → Option Value} {base : Heap} {A : Ad}
theorem ok_written (T : Txt K mg A)   : Okd P w K mg base CX0 1 A.written P_written spWr := by
  obtain ⟨fd, F⟩ := T.d_written

  refine ⟨fd, F.ok sc_written (fun vs H Q E h => ?_) (fun cdv A' outer s H vs Q E hr h => ?_), F.binds fun _ _ _ _ _ _ us hl => match us, hl with | [_, _, _], _ => rfl⟩
  · obtain ⟨a, b, d, ys, zs, ls, rfl, _⟩ := h
    rfl
  · obtain ⟨a, b, d, ys, zs, ls, rfl, ha, hb, hd, lz, l65, k⟩ := h
    refine ⟨_, (pss_one (ps_ret (pe_lc (own := [("record", 4), ("name", 3)]) (g := gTup K 2 (gCons (gName 4) (gCons (gName 3) gNil))) (tt := tYes) (by rfl) sc_written.nd (pi_enum (by rfl) T.n_enumerate (pa_cons (pv 0) pa_nil)) (blkOk_by (own := [("record", 4), ("name", 3)]) (N := N_written) (sc := defScope s_written) (by decide +kernel)) (fun _ _ _ _ _ => (pg_tup (by rfl) (pgs_cons (pg_name (i := 4) sc_written.nd rfl (Or.inl rfl)) (pgs_cons (pg_name (i := 3) sc_written.nd rfl (Or.inl rfl)) pgs_nil)))) (fun _ _ _ _ _ => pts_nil) (fun _ _ _ _ _ => (pe_ifExp (pt_cmpR (OwI.op_inKK (K := K) rfl) (pv 4) (pv 2) (by with_unfolding_all rfl)) (pe_ix (ix_listK (K := K) rfl) (pv 1) (pv 4) (fun _ _ => rfl)) (pv 3)))))), ?_⟩
    refine ⟨_, rfl, a, nI ys, rfl, SqL.of ha, fun D hD => ?_⟩
    refine lc_it (walk_enum (K := K) (a := a) (xs := nI ys)) (fun j G => Ex H G ∧ ListN G D (wrF ys zs ls j)) ⟨Ex.new hD, upd_same⟩ (fun j G _ z => SqL.of (z.1 _ _ ha)) ?_ ?_
    · rintro j x G G' hj ⟨eG, gD⟩ ⟨t, x1, y1, rfl, ht, rfl, e1, e2⟩
      cases e1
      obtain ⟨jl, rfl⟩ := nat_at e2
      have eT := Ex.new (o := .tup [V.int (j : Int), V.int ((ys.getD j 0 : Nat) : Int)]) ht
      have gT : upd G t (.tup [V.int (j : Int), V.int ((ys.getD j 0 : Nat) : Int)]) t = some (.tup [V.int (j : Int), V.int ((ys.getD j 0 : Nat) : Int)]) := upd_same
      have gD2 := eT _ _ gD
      have eG2 := eG.trans eT
      have rs : wrF ys zs ls (j + 1) = wrF ys zs ls j ++ [if ls.contains j then zs.getD j 0 else ys.getD j 0] := by
        unfold wrF
        rw [List.range_succ, List.map_append]
        rfl
      have wl : (wrF ys zs ls j).length = j := by unfold wrF; rw [List.length_map, List.length_range]
      generalize upd G t (.tup [V.int (j : Int), V.int ((ys.getD j 0 : Nat) : Int)]) = G2 at gT gD2 eG2 ⊢
      have fin : ∀ v : Nat, v = (if ls.contains j then zs.getD j 0 else ys.getD j 0) → ∃ acc, G2 D = some (.lst acc) ∧ acc.length < sizeLine ∧ (Ex H (upd G2 D (.lst (acc ++ [V.int (v : Int)]))) ∧ ListN (upd G2 D (.lst (acc ++ [V.int (v : Int)]))) D (wrF ys zs ls (j + 1))) := by
        rintro v rfl
        refine ⟨_, gD2, small1000 (by rw [nI_len, wl]; omega), fun y o ho => by rw [upd_ne (ne_of_none ho hD)]; exact eG2 _ _ ho, ?_⟩
        show upd G2 D _ D = _
        rw [upd_same, rs, nI_app]
      refine ⟨t, _, rfl, SqT.of gT, rfl, _, _, rfl, _, _, rfl, rfl, rfl, _, rfl, _, rfl, d, _, rfl, .inl (SqL.of (eG2 _ _ hd)), rfl, flat_nI _, _, rfl, ?_⟩
      show if inV _ _ = true then _ else _
      rw [inV_nI]
      by_cases c : ls.contains j = true
      · refine ifT c ⟨_, rfl, _, rfl, b, _, _, _, rfl, rfl, SqL.of (eG2 _ _ hb), atN (by omega), fin _ ?_⟩
        rw [if_pos c]
      · refine ifF (Bool.eq_false_iff.mpr c) ⟨_, rfl, fin _ ?_⟩
        rw [if_neg c]
    · rintro G ⟨eG, gD⟩
      rw [nI_len] at gD
      exact k D G hD eG gD

end

section
variable {P : Program} {w : World} {K : PySem.W.Frag} {mg : Str → Option Value} {base : Heap} {A : Ad}
theorem ok_law {fd : FuncData} (T : Txt K mg A) (F : Fun K "law" "law" s_law A.law fd)  (g_law_box : Okd P w K mg base CX0 1 A.law_box P_law_box (spBox K)) (g_law_rows : Okd P w K mg base CX0 6 A.law_rows P_law_rows spRws) (g_law_size : Okd P w K mg base CX0 3 A.law_size P_law_size spSz) (g_law_made : Okd P w K mg base CX0 8 A.law_made P_law_made (spMd A)) (g_law_one : OkdG P w K mg base CX0 9 A.law_one P_law_one (spOne A)) (g_law_draw : Okd P w K mg base CX0 2 A.law_draw P_law_draw spDw) (g_law_plus_kept : Okd P w K mg base CX0 9 A.law_plus_kept P_law_plus_kept (spPk A)) (g_law_sum : Okd P w K mg base CX0 1 A.law_sum P_law_sum spSum) (g_law_answer : Okd P w K mg base CX0 1 A.law_answer P_law_answer spAns) (g_m_eq : Okd P w K mg base CX0 1 A.m_eq P_m_eq (spEq A)) (g_law_equal_kept : Okd P w K mg base CX0 10 A.law_equal_kept P_law_equal_kept (spEk A)) (g_law_joint_kept : Okd P w K mg base CX0 12 A.law_joint_kept P_law_joint_kept (spJk A)) (g_law_sum_of_all : Okd P w K mg base CX0 2 A.law_sum_of_all P_law_sum_of_all spAll) (g_law_rest_kept : Okd P w K mg base CX0 12 A.law_rest_kept P_law_rest_kept spRk) (g_law_update : Okd P w K mg base CX0 3 A.law_update P_law_update (spUpd A)) (g_law_paired : Okd P w K mg base CX0 4 A.law_paired P_law_paired spPd) : GdR.FnG P w K mg base CX0 13 A.law fd P_law (spLaw K) := by
  obtain ⟨fd_law_box, G_law_box, b_law_box⟩ := g_law_box
  obtain ⟨fd_law_rows, G_law_rows, b_law_rows⟩ := g_law_rows
  obtain ⟨fd_law_size, G_law_size, b_law_size⟩ := g_law_size
  obtain ⟨fd_law_made, G_law_made, b_law_made⟩ := g_law_made
  obtain ⟨fd_law_one, G_law_one, b_law_one⟩ := g_law_one
  obtain ⟨fd_law_draw, G_law_draw, b_law_draw⟩ := g_law_draw
  obtain ⟨fd_law_plus_kept, G_law_plus_kept, b_law_plus_kept⟩ := g_law_plus_kept
  obtain ⟨fd_law_sum, G_law_sum, b_law_sum⟩ := g_law_sum
  obtain ⟨fd_law_answer, G_law_answer, b_law_answer⟩ := g_law_answer
  obtain ⟨fd_m_eq, G_m_eq, b_m_eq⟩ := g_m_eq
  obtain ⟨fd_law_equal_kept, G_law_equal_kept, b_law_equal_kept⟩ := g_law_equal_kept
  obtain ⟨fd_law_joint_kept, G_law_joint_kept, b_law_joint_kept⟩ := g_law_joint_kept
  obtain ⟨fd_law_sum_of_all, G_law_sum_of_all, b_law_sum_of_all⟩ := g_law_sum_of_all
  obtain ⟨fd_law_rest_kept, G_law_rest_kept, b_law_rest_kept⟩ := g_law_rest_kept
  obtain ⟨fd_law_update, G_law_update, b_law_update⟩ := g_law_update
  obtain ⟨fd_law_paired, G_law_paired, b_law_paired⟩ := g_law_paired
  refine GdR.okG F sc_law (fun vs H Q E h => ?_) (fun cdv A' outer s H vs Q E gd hr h => ?_)
  · obtain ⟨a, ns, rfl, _⟩ := h
    rfl
  · obtain ⟨a, ns, rfl, hs, hl, k⟩ := h
    refine ⟨_, (pss_cons (ps_set (i := 1) sc_law.nd rfl (Or.inr rfl) (pe_call G_law_box (hr.mono (by decide)) (by rfl) T.g_law_box T.k_law_box b_law_box .nil pass0 (pa_cons (pv 0) pa_nil)))
      (pss_cons (ps_set (i := 2) sc_law.nd rfl (Or.inr rfl) (pe_call G_law_rows (hr.mono (by decide)) (by rfl) T.g_law_rows T.k_law_rows b_law_rows .nil pass0 (pa_cons (pv 1) (pa_cons (pe_call G_law_size (hr.mono (by decide)) (by rfl) T.g_law_size T.k_law_size b_law_size .nil pass0 (pa_cons (pv 1) pa_nil)) pa_nil))))
      (pss_cons (ps_set (i := 3) sc_law.nd rfl (Or.inr rfl) (pe_lc (own := [("row", 10)]) (tt := tYes) (by rfl) sc_law.nd (pi_list (pv 2)) (blkOk_by (own := [("row", 10)]) (N := N_law) (sc := defScope s_law) (by decide +kernel)) (fun _ _ _ _ _ => (pg_name (i := 10) sc_law.nd rfl (Or.inl rfl))) (fun _ _ _ _ _ => pts_nil) (fun _ _ _ _ _ => (pe_call G_law_made (hr.mono (by decide)) (by rfl) T.g_law_made T.k_law_made b_law_made .nil pass0 (pa_cons (pv 10) pa_nil)))))
      (pss_cons (ps_set (i := 4) sc_law.nd rfl (Or.inr rfl) (pe_callB call_len_seq (by rfl) T.n_len PySem.boot_len (pa_cons (pv 2) pa_nil)))
      (pss_cons (ps_for PassesOwn.never rfl (pi_range1 (by rfl) T.n_range (pa_cons (pv 4) pa_nil)) (pg_name (i := 5) sc_law.nd rfl (Or.inl rfl)) (pss_one (ps_if (pt_not (pt_val (GdR.pe_callG G_law_one gd (hr.mono (by decide)) (by rfl) T.g_law_one T.k_law_one b_law_one .nil pass0 (pa_cons (pe_ix ix_list (pv 3) (pv 5) (fun _ _ => rfl)) (pa_cons (pe_ix ix_list (pv 2) (pv 5) (fun _ _ => rfl)) pa_nil))))) (pss_one (ps_ret pe_bl)) pss_nil)))
      (pss_cons (ps_for PassesOwn.never rfl (pi_range1 (by rfl) T.n_range (pa_cons pe_int pa_nil)) (pg_name (i := 6) sc_law.nd rfl (Or.inl rfl)) (pss_one (ps_if (pt_cmpR op_gt (pv 4) pe_int (nomark _)) (pss_cons (ps_set (i := 7) sc_law.nd rfl (Or.inl rfl) (pe_call G_law_draw (hr.mono (by decide)) (by rfl) T.g_law_draw T.k_law_draw b_law_draw .nil pass0 (pa_cons (pv 1) (pa_cons (pv 4) pa_nil))))
      (pss_cons (ps_set (i := 8) sc_law.nd rfl (Or.inl rfl) (pe_call G_law_draw (hr.mono (by decide)) (by rfl) T.g_law_draw T.k_law_draw b_law_draw .nil pass0 (pa_cons (pv 1) (pa_cons (pv 4) pa_nil))))
      (pss_cons (ps_if (pt_not (pt_val (pe_call G_law_plus_kept (hr.mono (by decide)) (by rfl) T.g_law_plus_kept T.k_law_plus_kept b_law_plus_kept .nil pass0 (pa_cons (pe_ix ix_list (pv 3) (pv 7) (fun _ _ => rfl)) (pa_cons (pe_ix ix_list (pv 3) (pv 8) (fun _ _ => rfl)) (pa_cons (pe_call G_law_sum (hr.mono (by decide)) (by rfl) T.g_law_sum T.k_law_sum b_law_sum .nil pass0 (pa_cons (pe_ix ix_list (pv 2) (pv 7) (fun _ _ => rfl)) (pa_cons (pe_ix ix_list (pv 2) (pv 8) (fun _ _ => rfl)) pa_nil))) pa_nil)))))) (pss_one (ps_ret pe_bl)) pss_nil)
      (pss_cons (ps_if (pt_not (pt_val (pe_call G_law_answer (hr.mono (by decide)) (by rfl) T.g_law_answer T.k_law_answer b_law_answer .nil pass0 (pa_cons (pe_cmpR (OwI.op_ownI (fun _ _ => rfl) T.o_eq.1 T.o_eq.2 (raw0 G_m_eq b_m_eq) (hr.mono (by decide)) pass0) (pe_ix ix_list (pv 3) (pv 7) (fun _ _ => rfl)) (pe_ix ix_list (pv 3) (pv 8) (fun _ _ => rfl)) (nomark _)) (pa_cons (pe_cmpR (op_eqD hr.units) (pe_ix ix_list (pv 2) (pv 7) (fun _ _ => rfl)) (pe_ix ix_list (pv 2) (pv 8) (fun _ _ => rfl)) (nomark _)) pa_nil))))) (pss_one (ps_ret pe_bl)) pss_nil)
      (pss_one (ps_if (pt_not (pt_val (pe_call G_law_equal_kept (hr.mono (by decide)) (by rfl) T.g_law_equal_kept T.k_law_equal_kept b_law_equal_kept .nil pass0 (pa_cons (pv 1) (pa_cons (pe_ix ix_list (pv 3) (pv 8) (fun _ _ => rfl)) (pa_cons (pe_ix ix_list (pv 2) (pv 8) (fun _ _ => rfl)) pa_nil)))))) (pss_one (ps_ret pe_bl)) pss_nil)))))) pss_nil)))
      (pss_cons (ps_if (pt_not (pt_val (pe_call G_law_joint_kept (hr.mono (by decide)) (by rfl) T.g_law_joint_kept T.k_law_joint_kept b_law_joint_kept .nil pass0 (pa_cons (pv 3) (pa_cons (pe_call G_law_sum_of_all (hr.mono (by decide)) (by rfl) T.g_law_sum_of_all T.k_law_sum_of_all b_law_sum_of_all .nil pass0 (pa_cons (pv 2) pa_nil)) pa_nil))))) (pss_one (ps_ret pe_bl)) pss_nil)
      (pss_cons (ps_setLc (i := 9) (own := [("k", 5)]) (tt := _) (by rfl) sc_law.nd rfl rfl (sw_true rfl rfl rfl (by decide +kernel)) (pi_range1 (by rfl) T.n_range (pa_cons (pe_call G_law_draw (hr.mono (by decide)) (by rfl) T.g_law_draw T.k_law_draw b_law_draw .nil pass0 (pa_cons (pv 1) (pa_cons pe_int pa_nil))) pa_nil)) (blkOk_by (own := [("k", 5)]) (N := N_law) (sc := defScope s_law) (by decide +kernel)) (fun _ _ _ _ _ => (pg_name (i := 5) sc_law.nd rfl (Or.inl rfl))) (fun _ _ _ _ _ => (pts_one (pt_cmpR op_gt (pv 4) pe_int (nomark _)))) (fun _ _ _ _ _ => (pe_call G_law_draw (hr.mono (by decide)) (by rfl) T.g_law_draw T.k_law_draw b_law_draw .nil pass0 (pa_cons (pv 1) (pa_cons (pv 4) pa_nil)))))
      (pss_cons (ps_if (pt_not (pt_val (pe_call G_law_joint_kept (hr.mono (by decide)) (by rfl) T.g_law_joint_kept T.k_law_joint_kept b_law_joint_kept .nil pass0 (pa_cons (pe_lc (own := [("k", 5)]) (tt := tYes) (by rfl) sc_law.nd (pi_list (pv 9)) (blkOk_by (own := [("k", 5)]) (N := N_law) (sc := defScope s_law) (by decide +kernel)) (fun _ _ _ _ _ => (pg_name (i := 5) sc_law.nd rfl (Or.inl rfl))) (fun _ _ _ _ _ => pts_nil) (fun _ _ _ _ _ => (pe_ix (ix_listK (K := K) rfl) (pv 3) (pv 5) (fun _ _ => rfl)))) (pa_cons (pe_call G_law_sum_of_all (hr.mono (by decide)) (by rfl) T.g_law_sum_of_all T.k_law_sum_of_all b_law_sum_of_all .nil pass0 (pa_cons (pe_lc (own := [("k", 5)]) (tt := tYes) (by rfl) sc_law.nd (pi_list (pv 9)) (blkOk_by (own := [("k", 5)]) (N := N_law) (sc := defScope s_law) (by decide +kernel)) (fun _ _ _ _ _ => (pg_name (i := 5) sc_law.nd rfl (Or.inl rfl))) (fun _ _ _ _ _ => pts_nil) (fun _ _ _ _ _ => (pe_ix (ix_listK (K := K) rfl) (pv 2) (pv 5) (fun _ _ => rfl)))) pa_nil)) pa_nil))))) (pss_one (ps_ret pe_bl)) pss_nil)
      (pss_cons (ps_for PassesOwn.never rfl (pi_list (pe_slice sl_list (pv 2) po_none (po_some pe_int))) (pg_name (i := 10) sc_law.nd rfl (Or.inl rfl)) (pss_one (ps_if (pt_not (pt_val (pe_call G_law_rest_kept (hr.mono (by decide)) (by rfl) T.g_law_rest_kept T.k_law_rest_kept b_law_rest_kept .nil pass0 (pa_cons (pv 1) (pa_cons (pe_ix ix_list (pv 10) pe_int (fun _ _ => rfl)) pa_nil))))) (pss_one (ps_ret pe_bl)) pss_nil)))
      (pss_cons (ps_for PassesOwn.never rfl (pi_range1 (by rfl) T.n_range (pa_cons (pv 4) pa_nil)) (pg_name (i := 5) sc_law.nd rfl (Or.inl rfl)) (pss_one (ps_if (pt_not (pt_val (pe_call G_law_update (hr.mono (by decide)) (by rfl) T.g_law_update T.k_law_update b_law_update .nil pass0 (pa_cons (pe_ix ix_list (pv 3) (pv 5) (fun _ _ => rfl)) (pa_cons (pe_ix ix_list (pe_ix ix_list (pv 2) (pv 5) (fun _ _ => rfl)) pe_int (fun _ _ => rfl)) (pa_cons (pe_ix ix_list (pe_ix ix_list (pv 2) (pv 5) (fun _ _ => rfl)) pe_int (fun _ _ => rfl)) pa_nil)))))) (pss_one (ps_ret pe_bl)) pss_nil)))
      (pss_one (ps_ret (pe_call G_law_rest_kept (hr.mono (by decide)) (by rfl) T.g_law_rest_kept T.k_law_rest_kept b_law_rest_kept .nil pass0 (pa_cons (pv 1) (pa_cons (pe_call G_law_paired (hr.mono (by decide)) (by rfl) T.g_law_paired T.k_law_paired b_law_paired .nil pass0 (pa_cons (pv 1) (pa_cons (pe_listRg (by rfl) (by rfl) T.n_list (prg_1 (by rfl) T.n_range pe_int)) (pa_cons (pe_listRg (by rfl) (by rfl) T.n_list (prg_1 (by rfl) T.n_range pe_int)) pa_nil)))) pa_nil)))))))))))))))), ?_⟩
    refine ⟨_, rfl, a, ns, rfl, hs, hl, fun b c H1 hb hc e1 B1 => ?_⟩
    refine ⟨_, rfl, _, rfl, b, c, rfl, B1, fun n H2 n64 B2 M2 => ⟨b, c, n, rfl, n64, B2, fun r rs H3 B3 M3 R3 gr r6 => ?_⟩⟩
    obtain ⟨ps, hr1, at_⟩ := id R3
    have at_ : AtL (RwAt H3) ps rs := at_
    have lps : ps.length = rs.length := at_.1
    refine ⟨_, rfl, r, rfl, ⟨_, SqL.of hr1⟩, fun m hm => ?_⟩
    refine lc_list (K := K) (a := r) (xs := ps.map V.ref) (fun j G => ∃ us : List Addr, Ex H3 G ∧ G m = some (.lst (us.map V.ref)) ∧ AtL (UpD m A G) us (rs.take j)) ⟨[], Ex.new hm, upd_same, AtL.nil⟩ (fun j G _ ⟨_, e, _⟩ => SqL.of (e _ _ hr1)) ?_ ?_
    · rintro j x G hx ⟨us, e, gm, atu⟩
      obtain ⟨pj, hpj, rfl⟩ := ref_at hx
      obtain ⟨aj, haj, gj, ajm⟩ := at_.get hpj
      refine ⟨rfl, _, rfl, pj, aj, rfl, gj.ex e, gr aj ajm, fun u G2 hu e2 fr => ?_⟩
      obtain ⟨dx, p, q, h1, h2, h3, h4, h5, h6, h7⟩ := fr
      have gm2 := e2 _ _ gm
      have nu : u ≠ m := (ne_of_none gm hu).symm
      have np : p ≠ m := (ne_of_none gm h6).symm
      have nq : q ≠ m := (ne_of_none gm h7).symm
      have kD : ∀ (l : List V) x o, x ≠ m → G2 x = some o → upd G2 m (.lst l) x = some o := fun l x o n z => by rw [upd_ne n]; exact z
      have il := (List.getElem?_eq_some_iff.mp haj).1
      refine ⟨_, gm2, small1000 (by rw [List.length_map, atu.1, List.length_take]; omega), us ++ [u], fun y o hy => by rw [upd_ne (ne_of_none hy hm)]; exact e2 _ _ (e _ _ hy), by rw [upd_same, List.map_append]; rfl, ?_⟩
      rw [List.take_add_one, haj]
      exact AtL.snoc ((atu.mono fun a b h => h.keep fun x o _ z => e2 _ _ z).mono fun a b h => h.keep (kD _)) ⟨dx, p, q, nu, np, nq, kD _ _ _ nu h1, kD _ _ _ np h2, kD _ _ _ nq h3, h4, h5⟩
    rintro G ⟨us, e, gm, atu⟩
    rw [List.length_map, lps, List.take_length] at atu
    have L0 : Liv A b c r m rs G := ⟨B3.ex e, R3.ex e, us, gm, atu.1, fun i u a h1 h2 => (atu.2 i u a h1 h2).at⟩
    have hrG := e _ _ hr1
    clear atu gm e R3 hr1 at_ B3 M3 B2 M2 B1 hs hb hc e1 hm
    refine ⟨_, rfl, r, _, rfl, .inl (SqL.of hrG), ?_⟩
    rw [List.length_map, lps]
    refine ⟨_, rfl, _, rfl, by omega, by omega, ?_⟩
    rw [Int.toNat_natCast]
    refine for_range (lo := 0) (n := rs.length) (fun i σ G => ∃ v5 : Option V, σ = [some (.ref a), some (.ref b), some (.ref r), some (.ref m), some (.int (rs.length : Nat)), v5, none, none, none, none, none] ∧ Liv A b c r m rs G) ⟨none, rfl, L0⟩ ?_ ?_
    · rintro i σ G hi ⟨v5, rfl, L⟩
      rw [Int.zero_add]
      obtain ⟨ps, us, p, u, w, hr1, hm, hip, hiu, hiw, gw, gu, wm⟩ := L.get hi
      refine ⟨_, rfl, _, rfl, m, _, _, _, rfl, rfl, SqL.of hm, atR (i := i) hiu,  _, rfl, _, rfl, r, _, _, _, rfl, rfl, SqL.of hr1, atR (i := i) hip,  u, p, w, rfl, gu, gw, gr w wm, fun G2 e2 => ⟨_, rfl, iteF ⟨_, rfl, L.ex e2⟩⟩⟩
    clear L0 hrG
    rintro σ G ⟨v5, rfl, L⟩
    refine ⟨_, rfl, by decide, by decide, for_range (lo := 0) (n := 3) (fun i σ G => ∃ v5 v6 v7 v8 : Option V, σ = [some (.ref a), some (.ref b), some (.ref r), some (.ref m), some (.int (rs.length : Nat)), v5, v6, v7, v8, none, none] ∧ Liv A b c r m rs G) ⟨v5, none, none, none, rfl, L⟩ ?_ ?_⟩
    · rintro x σ G hx ⟨v5, v6, v7, v8, rfl, L⟩
      refine ⟨_, rfl, _, _, rfl, rfl, _, rfl, ?_⟩
      refine ite_b (fun c1 => ?_) (fun c1 => ⟨_, _, _, _, rfl, L⟩)
      have r0 : 0 < rs.length := by have := of_decide_eq_true c1; omega
      refine ⟨_, rfl, _, rfl, b, c, (rs.length : Nat), rfl, by omega, by omega, L.bx, fun i G2 il B2 M2 => ?_⟩
      replace L := L.mut B2 M2
      refine ⟨_, rfl, _, rfl, b, c, (rs.length : Nat), rfl, by omega, by omega, L.bx, fun j G3 jl B3 M3 => ?_⟩
      replace L := L.mut B3 M3
      obtain ⟨ps, us, p, u, w, hr1, hm, hip, hiu, hiw, gw, gu, wm⟩ := L.get (i := i) (by omega)
      obtain ⟨ps2, us2, p2, u2, w2, hr2, hm2, hjp, hju, hjw, gw2, gu2, wm2⟩ := L.get (i := j) (by omega)
      refine ⟨_, rfl, _, rfl, m, _, _, _, rfl, rfl, SqL.of hm, atR (i := i) hiu, _, rfl, _, rfl, m, _, _, _, rfl, rfl, SqL.of hm2, atR (i := j) hju, _, rfl, _, rfl, r, _, _, _, rfl, rfl, SqL.of hr1, atR (i := i) hip, _, rfl, _, rfl, r, _, _, _, rfl, rfl, SqL.of hr2, atR (i := j) hjp, p, p2, w, w2, rfl, gw, gw2, gr w wm, gr w2 wm2, fun d G4 e4 gd => ⟨u, u2, d, w, w2, rfl, gu.ex e4, gu2.ex e4, gr w wm, gr w2 wm2, gd, fun G5 e5 => ⟨_, rfl, iteF ?_⟩⟩⟩
      have e45 := e4.trans e5
      replace L := L.ex e45
      replace hr1 := e45 _ _ hr1
      replace hm := e45 _ _ hm
      replace hr2 := e45 _ _ hr2
      replace hm2 := e45 _ _ hm2
      replace gw := gw.ex e45
      replace gu := gu.ex e45
      replace gw2 := gw2.ex e45
      replace gu2 := gu2.ex e45
      obtain ⟨dxl, _, _, hl1, _⟩ := id gu
      obtain ⟨dxr, _, _, hl2, _⟩ := id gu2
      refine ⟨_, rfl, _, rfl, m, _, _, _, rfl, rfl, SqL.of hm, atR (i := i) hiu, _, rfl, _, rfl, m, _, _, _, rfl, rfl, SqL.of hm2, atR (i := j) hju, u, dxl, _, u2, dxr, _, rfl, rfl, hl1, hl2, T.o_nf, u, u2, w.1, w.2, w2.1, w2.2, rfl, gu, gu2, ?_⟩
      refine ⟨_, rfl, _, rfl, r, _, _, _, rfl, rfl, SqL.of hr1, atR (i := i) hip, _, rfl, _, rfl, r, _, _, _, rfl, rfl, SqL.of hr2, atR (i := j) hjp, dR w, dR w2, dp_R gw, dp_R gw2, (lay_R _).shaped (by decide), (lay_R _).shaped (by decide), ?_⟩
      rw [eqv_R]
      refine ⟨_, _, rfl, ?_⟩
      rw [decide_eq_true rfl]
      refine ⟨_, rfl, iteF ?_⟩
      exact ⟨_, rfl, _, rfl, _, rfl, m, _, _, _, rfl, rfl, SqL.of hm2, atR (i := j) hju, _, rfl, _, rfl, r, _, _, _, rfl, rfl, SqL.of hr2, atR (i := j) hjp, b, c, u2, p2, w2, rfl, L.bx, gu2, gw2, gr w2 wm2, fun G6 B6 M6 => ⟨_, rfl, iteF ⟨_, _, _, _, rfl, L.mut B6 M6⟩⟩⟩
    clear L
    rintro σ G ⟨v5, v6, v7, v8, rfl, L⟩
    refine ⟨_, rfl, _, rfl, r, rs, rfl, L.rows, gr, r6, fun d G2 e2 gd => ⟨m, d, rs, rfl, (L.ex e2).ups, gr, r6, gd, fun G3 e3 => ⟨_, rfl, iteF ?_⟩⟩⟩
    replace L := L.ex (e2.trans e3)
    clear gd e2 e3
    refine ⟨_, rfl, b, c, 6, rfl, by decide, by decide, L.bx, fun d G4 dl B4 M4 => ⟨_, rfl, by omega, by omega, fun D hD => ?_⟩⟩
    replace L := L.mut B4 M4
    have nDb := (B4.ne hD).1
    have nDc := (B4.ne hD).2
    rw [Int.toNat_natCast]
    refine lc_range (lo := 0) (n := d) (fun j G => ∃ tk : List Nat, Bx G b c ∧ Mut b G4 G ∧ ListN G D tk ∧ tk.length ≤ j ∧ ∀ x ∈ tk, x < rs.length) ⟨[], B4.ex (Ex.new hD), Mut.of_ex (Ex.new hD), upd_same, Nat.le_refl _, (fun x h => by cases h)⟩ ?_ ?_
    · rintro j G hj ⟨tk, B5, M5, gD, tl, tr⟩
      refine ⟨rfl, _, rfl, _, _, rfl, rfl, _, rfl, ?_⟩
      refine ite_b (fun c1 => ?_) (fun c1 => ⟨tk, B5, M5, gD, by omega, tr⟩)
      have r0 : 0 < rs.length := by have := of_decide_eq_true c1; omega
      refine ⟨_, rfl, _, rfl, b, c, (rs.length : Nat), rfl, by omega, by omega, B5, fun x G6 xl B6 M6 => ?_⟩
      have gD6 := M6 _ _ nDb gD
      refine ⟨_, gD6, small1000 (by rw [nI_len]; omega), tk ++ [x], B6.keep (fun o h => by rw [upd_ne nDb.symm]; exact h) (fun o h => by rw [upd_ne nDc.symm]; exact h), fun y o n1 h => by rw [upd_ne (ne_of_none h hD)]; exact M6 _ _ n1 (M5 _ _ n1 h), ?_, by rw [List.length_append]; show tk.length + 1 ≤ _; omega, fun y hy => ?_⟩
      · show upd G6 D _ D = _
        rw [upd_same, nI_app]
      · rcases List.mem_append.mp hy with hy | hy
        · exact tr y hy
        · rw [List.mem_singleton.mp hy]
          omega
    rintro G5 ⟨tk, B5, M5, gD, tl, tr⟩
    replace L := L.mut B5 M5
    clear M5 hD M4 B4 G4
    obtain ⟨ps, hr1, at_⟩ := id L.rows
    have at_ : AtL (RwAt G5) ps rs := at_
    obtain ⟨us, hm, atu⟩ := id L.ups
    have atu : AtL (fun u (a : PP) => UpAt A G5 u a.1 a.2) us rs := atu
    have gtk : ∀ w ∈ tk.map (fun x => rs.getD x ([], [])), GoodP w := fun w hw => by
      obtain ⟨x, hx, rfl⟩ := List.mem_map.mp hw
      have xl := tr x hx
      rw [List.getD_eq_getElem?_getD, List.getElem?_eq_getElem xl]
      exact gr _ (List.getElem_mem xl)
    have ltk : (tk.map (fun x => rs.getD x ([], []))).length = tk.length := List.length_map ..
    refine ⟨_, rfl, D, rfl, ⟨_, gD.sz⟩, fun D2 hD2 => ?_⟩
    refine lc_list (K := K) (a := D) (xs := nI tk) (fun j G => ∃ vs : List Addr, Ex G5 G ∧ G D2 = some (.lst (vs.map V.ref)) ∧ AtL (fun u (a : PP) => UpAt A G5 u a.1 a.2) vs ((tk.take j).map fun x => rs.getD x ([], []))) ⟨[], Ex.new hD2, upd_same, AtL.nil⟩ (fun j G _ ⟨_, e, _⟩ => SqL.of (e _ _ gD)) ?_ ?_
    · rintro j x G hx ⟨vs, e, g2, atv⟩
      obtain ⟨jl, rfl⟩ := nat_at hx
      have xl := tr _ (gt_mem jl)
      unfold gt at xl
      obtain ⟨u, w, hu, hw, gu, wm⟩ := atu.ex_at xl
      have wd : rs.getD (tk.getD j 0) ([], []) = w := by rw [List.getD_eq_getElem?_getD, hw]; rfl
      refine ⟨rfl, _, rfl, _, rfl, m, _, _, _, rfl, rfl, SqL.of (e _ _ hm), atR hu, _, g2, small1000 (by rw [List.length_map, atv.1, List.length_map, List.length_take]; omega), vs ++ [u], fun y o hy => by rw [upd_ne (ne_of_none hy hD2)]; exact e _ _ hy, by rw [upd_same, List.map_append]; rfl, ?_⟩
      rw [take_succ jl, List.map_append]
      exact atv.snoc (by dsimp only; rw [wd]; exact gu)
    rintro G6 ⟨vs, e6, g2, atv⟩
    rw [nI_len, List.take_length] at atv
    refine ⟨_, rfl, D, rfl, ⟨_, (gD.ex e6).sz⟩, fun D3 hD3 => ?_⟩
    refine lc_list (K := K) (a := D) (xs := nI tk) (fun j G => ∃ ws : List Addr, Ex G6 G ∧ G D3 = some (.lst (ws.map V.ref)) ∧ AtL (RwAt G5) ws ((tk.take j).map fun x => rs.getD x ([], []))) ⟨[], Ex.new hD3, upd_same, AtL.nil⟩ (fun j G _ ⟨_, e, _⟩ => SqL.of (e _ _ (e6 _ _ gD))) ?_ ?_
    · rintro j x G hx ⟨ws, e, g3, atw⟩
      obtain ⟨jl, rfl⟩ := nat_at hx
      have xl := tr _ (gt_mem jl)
      unfold gt at xl
      obtain ⟨u, w, hu, hw, gu, wm⟩ := at_.ex_at xl
      have wd : rs.getD (tk.getD j 0) ([], []) = w := by rw [List.getD_eq_getElem?_getD, hw]; rfl
      refine ⟨rfl, _, rfl, _, rfl, r, _, _, _, rfl, rfl, SqL.of (e _ _ (e6 _ _ hr1)), atR hu, _, g3, small1000 (by rw [List.length_map, atw.1, List.length_map, List.length_take]; omega), ws ++ [u], fun y o hy => by rw [upd_ne (ne_of_none hy hD3)]; exact e _ _ hy, by rw [upd_same, List.map_append]; rfl, ?_⟩
      rw [take_succ jl, List.map_append]
      exact atw.snoc (by dsimp only; rw [wd]; exact gu)
    rintro G7 ⟨ws, e7, g3, atw⟩
    rw [nI_len, List.take_length] at atw
    have e57 := e6.trans e7
    refine ⟨D3, _, rfl, ⟨ws, g3, (atw.mono fun a b h => h.ex e57).1, (atw.mono fun a b h => h.ex e57).2⟩, gtk, by omega, fun d2 G8 e8 gd => ?_⟩
    have e58 := e57.trans e8
    refine ⟨D2, d2, _, rfl, ⟨vs, e8 _ _ (e7 _ _ g2), (atv.mono fun a (b : PP) h => UpAt.ex e58 h).1, (atv.mono fun a (b : PP) h => UpAt.ex e58 h).2⟩, gtk, by omega, gd, fun G9 e9 => ⟨_, rfl, iteF ?_⟩⟩
    have e59 := e58.trans e9
    replace L := L.ex e59
    replace hr1 := e59 _ _ hr1
    replace at_ := at_.mono fun a b (h : RwAt G5 a b) => h.ex e59
    clear atv atw g2 g3 gd atu hm gtk ltk hD2 hD3 gD B5 e59 e58 e57
    have cutA : cutV (ps.map V.ref) none (some (2 : Int)) = (ps.take 2).map V.ref := by
      unfold cutV
      rw [show HT.sIx (ps.map V.ref).length 0 none = 0 from rfl, show HT.sIx (ps.map V.ref).length (ps.map V.ref).length (some (2 : Int)) = min 2 (ps.map V.ref).length from HT.sIx_nat _ _ 2, List.drop_zero, Nat.sub_zero, List.map_take]
      rcases Nat.le_total 2 (ps.map V.ref).length with h | h
      · rw [Nat.min_eq_left h]
      · rw [Nat.min_eq_right h, List.take_of_length_le (Nat.le_refl _), List.take_of_length_le h]
    refine ⟨_, rfl, _, rfl, r, _, rfl, SqL.of hr1, fun l1 hl1 => ?_⟩
    rw [cutA]
    have e1 := Ex.new (o := .lst ((ps.take 2).map V.ref)) hl1
    have g1 : upd G9 l1 (.lst ((ps.take 2).map V.ref)) l1 = some (.lst ((ps.take 2).map V.ref)) := upd_same
    replace L := L.ex e1
    replace at_ := at_.mono fun a b (h : RwAt G9 a b) => h.ex e1
    generalize upd G9 l1 (.lst ((ps.take 2).map V.ref)) = GA at e1 g1 L at_ ⊢
    clear cutA hr1 e1 hl1
    have nl1 := L.bx.neR g1
    refine ⟨l1, rfl, ⟨_, SqL.of g1⟩, for_list (K := K) (a := l1) (xs := (ps.take 2).map V.ref) (fun i σ G => ∃ va : Option V, σ = [some (.ref a), some (.ref b), some (.ref r), some (.ref m), some (.int (rs.length : Nat)), v5, v6, v7, v8, some (.ref D), va] ∧ Bx G b c ∧ Mut b GA G) ⟨none, rfl, L.bx, fun x o _ h => h⟩ (fun i σ G _ ⟨_, _, _, M⟩ => SqL.of (M _ _ nl1 g1)) ?_ ?_⟩
    · rintro i x σ G hx ⟨va, rfl, B, M⟩
      obtain ⟨p, hp, rfl⟩ := ref_at hx
      have hp2 : ps[i]? = some p := by
        rw [List.getElem?_take] at hp
        split at hp
        · exact hp
        · cases hp
      obtain ⟨w, hw, gw, wm⟩ := at_.get hp2
      obtain ⟨s2, t2, h2, hs2, ht2⟩ := gw.mut L.bx M
      have gg := gr w wm
      have l64 := gg.l64
      have ll := gg.len
      exact ⟨_, rfl, _, rfl, p, _, _, _, rfl, rfl, SqL.of h2, atI_nat (j := 1) rfl, b, c, t2, w.2, rfl, B, ht2, gg.b, by omega, fun G2 B2 M2 => ⟨_, rfl, iteF ⟨_, rfl, B2, M.then M2⟩⟩⟩
    rintro σ G ⟨va, rfl, B, M⟩
    replace L := L.mut B M
    clear M B g1 at_ nl1
    refine ⟨_, rfl, _, rfl, by omega, by omega, ?_⟩
    rw [Int.toNat_natCast]
    refine for_range (lo := 0) (n := rs.length) (fun i σ G => ∃ v5 : Option V, σ = [some (.ref a), some (.ref b), some (.ref r), some (.ref m), some (.int (rs.length : Nat)), v5, v6, v7, v8, some (.ref D), va] ∧ Liv A b c r m rs G) ⟨v5, rfl, L⟩ ?_ ?_
    · rintro i σ G hi ⟨v5, rfl, L⟩
      rw [Int.zero_add]
      obtain ⟨ps, us, p, u, w, hr1, hm, hip, hiu, hiw, gw, gu, wm⟩ := L.get hi
      obtain ⟨s2, t2, h2, hs2, ht2⟩ := id gw
      have gg := gr w wm
      have l64 := gg.l64
      exact ⟨_, rfl, _, rfl, m, _, _, _, rfl, rfl, SqL.of hm, atR (i := i) hiu, _, rfl, _, rfl, r, _, _, _, rfl, rfl, SqL.of hr1, atR (i := i) hip, p, _, _, _, rfl, rfl, SqL.of h2, atI_nat (j := 0) rfl, _, rfl, _, rfl, r, _, _, _, rfl, rfl, SqL.of hr1, atR (i := i) hip, p, _, _, _, rfl, rfl, SqL.of h2, atI_nat (j := 1) rfl, u, s2, t2, w.1, w.2, rfl, gu, hs2, ht2, gg.len, by omega, fun G2 e2 => ⟨_, rfl, iteF ⟨_, rfl, L.ex e2⟩⟩⟩
    clear L
    rintro σ G ⟨v5, rfl, L⟩
    have r5 : rgV 0 (5 : Int) = nI (List.range 5) := rgN 5
    refine ⟨_, rfl, _, rfl, _, rfl, RgOk.of_le (by decide) (by decide) (by decide) (by decide), fun x1 hx1 => ?_⟩
    rw [r5]
    have e1 := Ex.new (o := .lst (nI (List.range 5))) hx1
    have g1 : ListN (upd G x1 (.lst (nI (List.range 5)))) x1 (List.range 5) := upd_same
    have B1 := L.bx.ex e1
    generalize upd G x1 (.lst (nI (List.range 5))) = G1 at e1 g1 B1 ⊢
    refine ⟨_, rfl, RgOk.of_le (by decide) (by decide) (by decide) (by decide), fun x2 hx2 => ?_⟩
    rw [r5]
    have e2 := Ex.new (o := .lst (nI (List.range 5))) hx2
    have g2 : ListN (upd G1 x2 (.lst (nI (List.range 5)))) x2 (List.range 5) := upd_same
    have B2 := B1.ex e2
    have g1b := g1.ex e2
    generalize upd G1 x2 (.lst (nI (List.range 5))) = G2 at e2 g2 B2 g1b ⊢
    have lr : (List.range 5).length = 5 := List.length_range
    have cr : Clo (List.range 5) (List.range 5) := by have := clo_rng (sta_rng 5); rw [lr] at this; exact this
    refine ⟨b, c, x1, x2, List.range 5, List.range 5, rfl, B2, g1b, g2, sta_rng 5, cr, by omega, fun o ys H3 ho B3 M3 go so lo => ?_⟩
    exact ⟨b, c, o, ys, rfl, B3, go, so, by omega, fun H' _ _ => k H'⟩

end
end Pv
namespace Pv
open PySem L2 Evl
theorem all_mk {l : PySem.W.OpenLaw} {w : World} {K : PySem.W.Frag} {h : Heap} {mg : Str → Option Value} {fa f_check_image f_check_state f_check_pair f_m_init f_m_records f_m_rest f_m_joint f_m_neg f_m_add f_m_eq f_m_len f_m_contains f_m_repr f_written f_law_mix f_law_box f_law_draw f_law_size f_law_paired f_law_other f_law_blocks f_law_touched f_law_whole f_law_row f_law_spoil f_law_entry f_law_unsettled f_law_update f_law_answer f_law_made f_law_rows f_law_one f_law_sum f_law_sum_of_all f_law_joint f_law_plus_kept f_law_joint_kept f_law_equal_kept f_law_rest_kept f_law c_MendError N_MendError_ c_InvalidImage N_InvalidImage_ i_InvalidImage c_NotState N_NotState_ i_NotState c_Busy N_Busy_ i_Busy c_UnequalSizes N_UnequalSizes_ c_InvalidUpdate N_InvalidUpdate_ c_Update p_records p_rest p_joint : Addr}
    {od_check_image an_check_image od_check_state an_check_state od_check_pair an_check_pair od_m_init an_m_init od_m_records an_m_records od_m_rest an_m_rest od_m_joint an_m_joint od_m_neg an_m_neg od_m_add an_m_add od_m_eq an_m_eq od_m_len an_m_len od_m_contains an_m_contains od_m_repr an_m_repr od_written an_written od_law_mix an_law_mix od_law_box an_law_box od_law_draw an_law_draw od_law_size an_law_size od_law_paired an_law_paired od_law_other an_law_other od_law_blocks an_law_blocks od_law_touched an_law_touched od_law_whole an_law_whole od_law_row an_law_row od_law_spoil an_law_spoil od_law_entry an_law_entry od_law_unsettled an_law_unsettled od_law_update an_law_update od_law_answer an_law_answer od_law_made an_law_made od_law_rows an_law_rows od_law_one an_law_one od_law_sum an_law_sum od_law_sum_of_all an_law_sum_of_all od_law_joint an_law_joint od_law_plus_kept an_law_plus_kept od_law_joint_kept an_law_joint_kept od_law_equal_kept an_law_equal_kept od_law_rest_kept an_law_rest_kept od_law an_law dd_MendError dd_InvalidImage od_i_InvalidImage an_i_InvalidImage dd_NotState od_i_NotState an_i_NotState dd_Busy od_i_Busy an_i_Busy dd_UnequalSizes dd_InvalidUpdate : Option Addr}
    {sl_check_image sl_check_state sl_check_pair sl_m_init sl_m_records sl_m_rest sl_m_joint sl_m_neg sl_m_add sl_m_eq sl_m_len sl_m_contains sl_m_repr sl_written sl_law_mix sl_law_box sl_law_draw sl_law_size sl_law_paired sl_law_other sl_law_blocks sl_law_touched sl_law_whole sl_law_row sl_law_spoil sl_law_entry sl_law_unsettled sl_law_update sl_law_answer sl_law_made sl_law_rows sl_law_one sl_law_sum sl_law_sum_of_all sl_law_joint sl_law_plus_kept sl_law_joint_kept sl_law_equal_kept sl_law_rest_kept sl_law sl_i_InvalidImage sl_i_NotState sl_i_Busy : Array (Option Value)}
    {oc_check_image doc_check_image pm_check_image cd_check_image ct_check_image kV_check_image oc_check_state doc_check_state pm_check_state cd_check_state ct_check_state kV_check_state oc_check_pair doc_check_pair pm_check_pair cd_check_pair ct_check_pair kV_check_pair oc_m_init doc_m_init pm_m_init cd_m_init ct_m_init kV_m_init oc_m_records doc_m_records pm_m_records cd_m_records ct_m_records kV_m_records oc_m_rest doc_m_rest pm_m_rest cd_m_rest ct_m_rest kV_m_rest oc_m_joint doc_m_joint pm_m_joint cd_m_joint ct_m_joint kV_m_joint oc_m_neg doc_m_neg pm_m_neg cd_m_neg ct_m_neg kV_m_neg oc_m_add doc_m_add pm_m_add cd_m_add ct_m_add kV_m_add oc_m_eq doc_m_eq pm_m_eq cd_m_eq ct_m_eq kV_m_eq oc_m_len doc_m_len pm_m_len cd_m_len ct_m_len kV_m_len oc_m_contains doc_m_contains pm_m_contains cd_m_contains ct_m_contains kV_m_contains oc_m_repr doc_m_repr pm_m_repr cd_m_repr ct_m_repr kV_m_repr oc_written doc_written pm_written cd_written ct_written kV_written oc_law_mix doc_law_mix pm_law_mix cd_law_mix ct_law_mix kV_law_mix oc_law_box doc_law_box pm_law_box cd_law_box ct_law_box kV_law_box oc_law_draw doc_law_draw pm_law_draw cd_law_draw ct_law_draw kV_law_draw oc_law_size doc_law_size pm_law_size cd_law_size ct_law_size kV_law_size oc_law_paired doc_law_paired pm_law_paired cd_law_paired ct_law_paired kV_law_paired oc_law_other doc_law_other pm_law_other cd_law_other ct_law_other kV_law_other oc_law_blocks doc_law_blocks pm_law_blocks cd_law_blocks ct_law_blocks kV_law_blocks oc_law_touched doc_law_touched pm_law_touched cd_law_touched ct_law_touched kV_law_touched oc_law_whole doc_law_whole pm_law_whole cd_law_whole ct_law_whole kV_law_whole oc_law_row doc_law_row pm_law_row cd_law_row ct_law_row kV_law_row oc_law_spoil doc_law_spoil pm_law_spoil cd_law_spoil ct_law_spoil kV_law_spoil oc_law_entry doc_law_entry pm_law_entry cd_law_entry ct_law_entry kV_law_entry oc_law_unsettled doc_law_unsettled pm_law_unsettled cd_law_unsettled ct_law_unsettled kV_law_unsettled oc_law_update doc_law_update pm_law_update cd_law_update ct_law_update kV_law_update oc_law_answer doc_law_answer pm_law_answer cd_law_answer ct_law_answer kV_law_answer oc_law_made doc_law_made pm_law_made cd_law_made ct_law_made kV_law_made oc_law_rows doc_law_rows pm_law_rows cd_law_rows ct_law_rows kV_law_rows oc_law_one doc_law_one pm_law_one cd_law_one ct_law_one kV_law_one oc_law_sum doc_law_sum pm_law_sum cd_law_sum ct_law_sum kV_law_sum oc_law_sum_of_all doc_law_sum_of_all pm_law_sum_of_all cd_law_sum_of_all ct_law_sum_of_all kV_law_sum_of_all oc_law_joint doc_law_joint pm_law_joint cd_law_joint ct_law_joint kV_law_joint oc_law_plus_kept doc_law_plus_kept pm_law_plus_kept cd_law_plus_kept ct_law_plus_kept kV_law_plus_kept oc_law_joint_kept doc_law_joint_kept pm_law_joint_kept cd_law_joint_kept ct_law_joint_kept kV_law_joint_kept oc_law_equal_kept doc_law_equal_kept pm_law_equal_kept cd_law_equal_kept ct_law_equal_kept kV_law_equal_kept oc_law_rest_kept doc_law_rest_kept pm_law_rest_kept cd_law_rest_kept ct_law_rest_kept kV_law_rest_kept oc_law doc_law pm_law cd_law ct_law kV_law oc_i_InvalidImage kV_i_InvalidImage doc_i_InvalidImage pm_i_InvalidImage cd_i_InvalidImage ct_i_InvalidImage oc_i_NotState kV_i_NotState doc_i_NotState pm_i_NotState cd_i_NotState ct_i_NotState oc_i_Busy kV_i_Busy doc_i_Busy pm_i_Busy cd_i_Busy ct_i_Busy : Value}
    {nm_MendError q_MendError nm_InvalidImage q_InvalidImage nm_NotState q_NotState nm_Busy q_Busy nm_UnequalSizes q_UnequalSizes nm_InvalidUpdate q_InvalidUpdate : Str}
    {bs_MendError sub_MendError bm_MendError bs_InvalidImage sub_InvalidImage bs_NotState sub_NotState bs_Busy sub_Busy bs_UnequalSizes sub_UnequalSizes bs_InvalidUpdate sub_InvalidUpdate rr_records rr_rest rr_joint : List Value}
    {sn_MendError sn_InvalidImage sn_NotState sn_Busy sn_UnequalSizes sn_InvalidUpdate : List Str}
    {ab_MendError ab_InvalidImage ab_NotState ab_Busy ab_UnequalSizes ab_InvalidUpdate : Bool}
    {col_MendError col_InvalidImage col_NotState col_Busy col_UnequalSizes col_InvalidUpdate : Option Bool}
    {k0_MendError k1_MendError k2_MendError k3_MendError k5_MendError k0_InvalidImage k1_InvalidImage k2_InvalidImage k3_InvalidImage k5_InvalidImage k0_NotState k1_NotState k2_NotState k3_NotState k5_NotState k0_Busy k1_Busy k2_Busy k3_Busy k5_Busy k0_UnequalSizes k1_UnequalSizes k2_UnequalSizes k3_UnequalSizes k5_UnequalSizes k0_InvalidUpdate k1_InvalidUpdate k2_InvalidUpdate k3_InvalidUpdate k5_InvalidUpdate : Option Value}
    (X : K.In h) (G : h.Ns mainGlobals mg) (hfa : mg "law" = some (.ref fa))
    (a_Update : PySem.W.nsIn K mainGlobals "Update" = some (some (.ref c_Update)))
    (rm2 : PySem.W.findIn K (.ref c_Update) "__init__" = some (some (.ref f_m_init)))
    (pa_records : PySem.W.findIn K (.ref c_Update) "records" = some (some (.ref p_records)))
    (pd_records : PySem.W.recIn K p_records "property" = some (.ref f_m_records :: rr_records))
    (u1 : PySem.W.findCls K (.ref c_Update) (.type "type") "rest" = some (.get (.builtin "classmethod.__get__") (.ref p_rest) .none (.ref c_Update)))
    (u2 : PySem.W.recIn K p_rest "classmethod" = some (.ref f_m_rest :: rr_rest))
    (s1 : PySem.W.findCls K (.ref c_Update) (.type "type") "joint" = some (.get (.builtin "staticmethod.__get__") (.ref p_joint) .none (.ref c_Update)))
    (s2 : PySem.W.recIn K p_joint "staticmethod" = some (.ref f_m_joint :: rr_joint))
    (of_neg : PySem.W.findIn K (.ref c_Update) "__neg__" = some (some (.ref f_m_neg)))
    (of_add : PySem.W.findIn K (.ref c_Update) "__add__" = some (some (.ref f_m_add)))
    (of_len : PySem.W.findIn K (.ref c_Update) "__len__" = some (some (.ref f_m_len)))
    (of_contains : PySem.W.findIn K (.ref c_Update) "__contains__" = some (some (.ref f_m_contains)))
    (of_eq : PySem.W.findIn K (.ref c_Update) "__eq__" = some (some (.ref f_m_eq)))
    (of_repr : PySem.W.findIn K (.ref c_Update) "__repr__" = some (some (.ref f_m_repr)))
    (a_check_image : PySem.W.nsIn K mainGlobals "check_image" = some (some (.ref f_check_image)))
    (l_check_image : K.lookup f_check_image = some ⟨oc_check_image, od_check_image, .func (PySem.W.fnOf "check_image" "check_image" (defArgs s_check_image) (defBody s_check_image) (defScope s_check_image) .none kV_check_image doc_check_image pm_check_image an_check_image cd_check_image ct_check_image), sl_check_image⟩)
    (cdis_check_image : PySem.W.codeIn K cd_check_image "check_image" = true)
    (k_check_image : PySem.W.keepIn K (.ref f_check_image) = true)
    (a_check_state : PySem.W.nsIn K mainGlobals "check_state" = some (some (.ref f_check_state)))
    (l_check_state : K.lookup f_check_state = some ⟨oc_check_state, od_check_state, .func (PySem.W.fnOf "check_state" "check_state" (defArgs s_check_state) (defBody s_check_state) (defScope s_check_state) .none kV_check_state doc_check_state pm_check_state an_check_state cd_check_state ct_check_state), sl_check_state⟩)
    (cdis_check_state : PySem.W.codeIn K cd_check_state "check_state" = true)
    (k_check_state : PySem.W.keepIn K (.ref f_check_state) = true)
    (a_check_pair : PySem.W.nsIn K mainGlobals "check_pair" = some (some (.ref f_check_pair)))
    (l_check_pair : K.lookup f_check_pair = some ⟨oc_check_pair, od_check_pair, .func (PySem.W.fnOf "check_pair" "check_pair" (defArgs s_check_pair) (defBody s_check_pair) (defScope s_check_pair) .none kV_check_pair doc_check_pair pm_check_pair an_check_pair cd_check_pair ct_check_pair), sl_check_pair⟩)
    (cdis_check_pair : PySem.W.codeIn K cd_check_pair "check_pair" = true)
    (k_check_pair : PySem.W.keepIn K (.ref f_check_pair) = true)
    (l_m_init : K.lookup f_m_init = some ⟨oc_m_init, od_m_init, .func (PySem.W.fnOf "__init__" "Update.__init__" (defArgs s_m_init) (defBody s_m_init) (defScope s_m_init) .none kV_m_init doc_m_init pm_m_init an_m_init cd_m_init ct_m_init), sl_m_init⟩)
    (cd_is_m_init : PySem.W.codeIn K cd_m_init "Update.__init__" = true)
    (k_m_init : PySem.W.keepIn K (.ref f_m_init) = true)
    (l_m_records : K.lookup f_m_records = some ⟨oc_m_records, od_m_records, .func (PySem.W.fnOf "records" "Update.records" (defArgs s_m_records) (defBody s_m_records) (defScope s_m_records) .none kV_m_records doc_m_records pm_m_records an_m_records cd_m_records ct_m_records), sl_m_records⟩)
    (cd_is_m_records : PySem.W.codeIn K cd_m_records "Update.records" = true)
    (k_m_records : PySem.W.keepIn K (.ref f_m_records) = true)
    (l_m_rest : K.lookup f_m_rest = some ⟨oc_m_rest, od_m_rest, .func (PySem.W.fnOf "rest" "Update.rest" (defArgs s_m_rest) (defBody s_m_rest) (defScope s_m_rest) .none kV_m_rest doc_m_rest pm_m_rest an_m_rest cd_m_rest ct_m_rest), sl_m_rest⟩)
    (cd_is_m_rest : PySem.W.codeIn K cd_m_rest "Update.rest" = true)
    (k_m_rest : PySem.W.keepIn K (.ref f_m_rest) = true)
    (l_m_joint : K.lookup f_m_joint = some ⟨oc_m_joint, od_m_joint, .func (PySem.W.fnOf "joint" "Update.joint" (defArgs s_m_joint) (defBody s_m_joint) (defScope s_m_joint) .none kV_m_joint doc_m_joint pm_m_joint an_m_joint cd_m_joint ct_m_joint), sl_m_joint⟩)
    (cd_is_m_joint : PySem.W.codeIn K cd_m_joint "Update.joint" = true)
    (k_m_joint : PySem.W.keepIn K (.ref f_m_joint) = true)
    (l_m_neg : K.lookup f_m_neg = some ⟨oc_m_neg, od_m_neg, .func (PySem.W.fnOf "__neg__" "Update.__neg__" (defArgs s_m_neg) (defBody s_m_neg) (defScope s_m_neg) .none kV_m_neg doc_m_neg pm_m_neg an_m_neg cd_m_neg ct_m_neg), sl_m_neg⟩)
    (cd_is_m_neg : PySem.W.codeIn K cd_m_neg "Update.__neg__" = true)
    (k_m_neg : PySem.W.keepIn K (.ref f_m_neg) = true)
    (l_m_add : K.lookup f_m_add = some ⟨oc_m_add, od_m_add, .func (PySem.W.fnOf "__add__" "Update.__add__" (defArgs s_m_add) (defBody s_m_add) (defScope s_m_add) .none kV_m_add doc_m_add pm_m_add an_m_add cd_m_add ct_m_add), sl_m_add⟩)
    (cd_is_m_add : PySem.W.codeIn K cd_m_add "Update.__add__" = true)
    (k_m_add : PySem.W.keepIn K (.ref f_m_add) = true)
    (l_m_eq : K.lookup f_m_eq = some ⟨oc_m_eq, od_m_eq, .func (PySem.W.fnOf "__eq__" "Update.__eq__" (defArgs s_m_eq) (defBody s_m_eq) (defScope s_m_eq) .none kV_m_eq doc_m_eq pm_m_eq an_m_eq cd_m_eq ct_m_eq), sl_m_eq⟩)
    (cd_is_m_eq : PySem.W.codeIn K cd_m_eq "Update.__eq__" = true)
    (k_m_eq : PySem.W.keepIn K (.ref f_m_eq) = true)
    (l_m_len : K.lookup f_m_len = some ⟨oc_m_len, od_m_len, .func (PySem.W.fnOf "__len__" "Update.__len__" (defArgs s_m_len) (defBody s_m_len) (defScope s_m_len) .none kV_m_len doc_m_len pm_m_len an_m_len cd_m_len ct_m_len), sl_m_len⟩)
    (cd_is_m_len : PySem.W.codeIn K cd_m_len "Update.__len__" = true)
    (k_m_len : PySem.W.keepIn K (.ref f_m_len) = true)
    (l_m_contains : K.lookup f_m_contains = some ⟨oc_m_contains, od_m_contains, .func (PySem.W.fnOf "__contains__" "Update.__contains__" (defArgs s_m_contains) (defBody s_m_contains) (defScope s_m_contains) .none kV_m_contains doc_m_contains pm_m_contains an_m_contains cd_m_contains ct_m_contains), sl_m_contains⟩)
    (cd_is_m_contains : PySem.W.codeIn K cd_m_contains "Update.__contains__" = true)
    (k_m_contains : PySem.W.keepIn K (.ref f_m_contains) = true)
    (l_m_repr : K.lookup f_m_repr = some ⟨oc_m_repr, od_m_repr, .func (PySem.W.fnOf "__repr__" "Update.__repr__" (defArgs s_m_repr) (defBody s_m_repr) (defScope s_m_repr) .none kV_m_repr doc_m_repr pm_m_repr an_m_repr cd_m_repr ct_m_repr), sl_m_repr⟩)
    (cd_is_m_repr : PySem.W.codeIn K cd_m_repr "Update.__repr__" = true)
    (k_m_repr : PySem.W.keepIn K (.ref f_m_repr) = true)
    (a_written : PySem.W.nsIn K mainGlobals "_written" = some (some (.ref f_written)))
    (l_written : K.lookup f_written = some ⟨oc_written, od_written, .func (PySem.W.fnOf "_written" "_written" (defArgs s_written) (defBody s_written) (defScope s_written) .none kV_written doc_written pm_written an_written cd_written ct_written), sl_written⟩)
    (cdis_written : PySem.W.codeIn K cd_written "_written" = true)
    (k_written : PySem.W.keepIn K (.ref f_written) = true)
    (a_law_mix : PySem.W.nsIn K mainGlobals "_law_mix" = some (some (.ref f_law_mix)))
    (l_law_mix : K.lookup f_law_mix = some ⟨oc_law_mix, od_law_mix, .func (PySem.W.fnOf "_law_mix" "_law_mix" (defArgs s_law_mix) (defBody s_law_mix) (defScope s_law_mix) .none kV_law_mix doc_law_mix pm_law_mix an_law_mix cd_law_mix ct_law_mix), sl_law_mix⟩)
    (cdis_law_mix : PySem.W.codeIn K cd_law_mix "_law_mix" = true)
    (k_law_mix : PySem.W.keepIn K (.ref f_law_mix) = true)
    (a_law_box : PySem.W.nsIn K mainGlobals "_law_box" = some (some (.ref f_law_box)))
    (l_law_box : K.lookup f_law_box = some ⟨oc_law_box, od_law_box, .func (PySem.W.fnOf "_law_box" "_law_box" (defArgs s_law_box) (defBody s_law_box) (defScope s_law_box) .none kV_law_box doc_law_box pm_law_box an_law_box cd_law_box ct_law_box), sl_law_box⟩)
    (cdis_law_box : PySem.W.codeIn K cd_law_box "_law_box" = true)
    (k_law_box : PySem.W.keepIn K (.ref f_law_box) = true)
    (a_law_draw : PySem.W.nsIn K mainGlobals "_law_draw" = some (some (.ref f_law_draw)))
    (l_law_draw : K.lookup f_law_draw = some ⟨oc_law_draw, od_law_draw, .func (PySem.W.fnOf "_law_draw" "_law_draw" (defArgs s_law_draw) (defBody s_law_draw) (defScope s_law_draw) .none kV_law_draw doc_law_draw pm_law_draw an_law_draw cd_law_draw ct_law_draw), sl_law_draw⟩)
    (cdis_law_draw : PySem.W.codeIn K cd_law_draw "_law_draw" = true)
    (k_law_draw : PySem.W.keepIn K (.ref f_law_draw) = true)
    (a_law_size : PySem.W.nsIn K mainGlobals "_law_size" = some (some (.ref f_law_size)))
    (l_law_size : K.lookup f_law_size = some ⟨oc_law_size, od_law_size, .func (PySem.W.fnOf "_law_size" "_law_size" (defArgs s_law_size) (defBody s_law_size) (defScope s_law_size) .none kV_law_size doc_law_size pm_law_size an_law_size cd_law_size ct_law_size), sl_law_size⟩)
    (cdis_law_size : PySem.W.codeIn K cd_law_size "_law_size" = true)
    (k_law_size : PySem.W.keepIn K (.ref f_law_size) = true)
    (a_law_paired : PySem.W.nsIn K mainGlobals "_law_paired" = some (some (.ref f_law_paired)))
    (l_law_paired : K.lookup f_law_paired = some ⟨oc_law_paired, od_law_paired, .func (PySem.W.fnOf "_law_paired" "_law_paired" (defArgs s_law_paired) (defBody s_law_paired) (defScope s_law_paired) .none kV_law_paired doc_law_paired pm_law_paired an_law_paired cd_law_paired ct_law_paired), sl_law_paired⟩)
    (cdis_law_paired : PySem.W.codeIn K cd_law_paired "_law_paired" = true)
    (k_law_paired : PySem.W.keepIn K (.ref f_law_paired) = true)
    (a_law_other : PySem.W.nsIn K mainGlobals "_law_other" = some (some (.ref f_law_other)))
    (l_law_other : K.lookup f_law_other = some ⟨oc_law_other, od_law_other, .func (PySem.W.fnOf "_law_other" "_law_other" (defArgs s_law_other) (defBody s_law_other) (defScope s_law_other) .none kV_law_other doc_law_other pm_law_other an_law_other cd_law_other ct_law_other), sl_law_other⟩)
    (cdis_law_other : PySem.W.codeIn K cd_law_other "_law_other" = true)
    (k_law_other : PySem.W.keepIn K (.ref f_law_other) = true)
    (a_law_blocks : PySem.W.nsIn K mainGlobals "_law_blocks" = some (some (.ref f_law_blocks)))
    (l_law_blocks : K.lookup f_law_blocks = some ⟨oc_law_blocks, od_law_blocks, .func (PySem.W.fnOf "_law_blocks" "_law_blocks" (defArgs s_law_blocks) (defBody s_law_blocks) (defScope s_law_blocks) .none kV_law_blocks doc_law_blocks pm_law_blocks an_law_blocks cd_law_blocks ct_law_blocks), sl_law_blocks⟩)
    (cdis_law_blocks : PySem.W.codeIn K cd_law_blocks "_law_blocks" = true)
    (k_law_blocks : PySem.W.keepIn K (.ref f_law_blocks) = true)
    (a_law_touched : PySem.W.nsIn K mainGlobals "_law_touched" = some (some (.ref f_law_touched)))
    (l_law_touched : K.lookup f_law_touched = some ⟨oc_law_touched, od_law_touched, .func (PySem.W.fnOf "_law_touched" "_law_touched" (defArgs s_law_touched) (defBody s_law_touched) (defScope s_law_touched) .none kV_law_touched doc_law_touched pm_law_touched an_law_touched cd_law_touched ct_law_touched), sl_law_touched⟩)
    (cdis_law_touched : PySem.W.codeIn K cd_law_touched "_law_touched" = true)
    (k_law_touched : PySem.W.keepIn K (.ref f_law_touched) = true)
    (a_law_whole : PySem.W.nsIn K mainGlobals "_law_whole" = some (some (.ref f_law_whole)))
    (l_law_whole : K.lookup f_law_whole = some ⟨oc_law_whole, od_law_whole, .func (PySem.W.fnOf "_law_whole" "_law_whole" (defArgs s_law_whole) (defBody s_law_whole) (defScope s_law_whole) .none kV_law_whole doc_law_whole pm_law_whole an_law_whole cd_law_whole ct_law_whole), sl_law_whole⟩)
    (cdis_law_whole : PySem.W.codeIn K cd_law_whole "_law_whole" = true)
    (k_law_whole : PySem.W.keepIn K (.ref f_law_whole) = true)
    (a_law_row : PySem.W.nsIn K mainGlobals "_law_row" = some (some (.ref f_law_row)))
    (l_law_row : K.lookup f_law_row = some ⟨oc_law_row, od_law_row, .func (PySem.W.fnOf "_law_row" "_law_row" (defArgs s_law_row) (defBody s_law_row) (defScope s_law_row) .none kV_law_row doc_law_row pm_law_row an_law_row cd_law_row ct_law_row), sl_law_row⟩)
    (cdis_law_row : PySem.W.codeIn K cd_law_row "_law_row" = true)
    (k_law_row : PySem.W.keepIn K (.ref f_law_row) = true)
    (a_law_spoil : PySem.W.nsIn K mainGlobals "_law_spoil" = some (some (.ref f_law_spoil)))
    (l_law_spoil : K.lookup f_law_spoil = some ⟨oc_law_spoil, od_law_spoil, .func (PySem.W.fnOf "_law_spoil" "_law_spoil" (defArgs s_law_spoil) (defBody s_law_spoil) (defScope s_law_spoil) .none kV_law_spoil doc_law_spoil pm_law_spoil an_law_spoil cd_law_spoil ct_law_spoil), sl_law_spoil⟩)
    (cdis_law_spoil : PySem.W.codeIn K cd_law_spoil "_law_spoil" = true)
    (k_law_spoil : PySem.W.keepIn K (.ref f_law_spoil) = true)
    (a_law_entry : PySem.W.nsIn K mainGlobals "_law_entry" = some (some (.ref f_law_entry)))
    (l_law_entry : K.lookup f_law_entry = some ⟨oc_law_entry, od_law_entry, .func (PySem.W.fnOf "_law_entry" "_law_entry" (defArgs s_law_entry) (defBody s_law_entry) (defScope s_law_entry) .none kV_law_entry doc_law_entry pm_law_entry an_law_entry cd_law_entry ct_law_entry), sl_law_entry⟩)
    (cdis_law_entry : PySem.W.codeIn K cd_law_entry "_law_entry" = true)
    (k_law_entry : PySem.W.keepIn K (.ref f_law_entry) = true)
    (a_law_unsettled : PySem.W.nsIn K mainGlobals "_law_unsettled" = some (some (.ref f_law_unsettled)))
    (l_law_unsettled : K.lookup f_law_unsettled = some ⟨oc_law_unsettled, od_law_unsettled, .func (PySem.W.fnOf "_law_unsettled" "_law_unsettled" (defArgs s_law_unsettled) (defBody s_law_unsettled) (defScope s_law_unsettled) .none kV_law_unsettled doc_law_unsettled pm_law_unsettled an_law_unsettled cd_law_unsettled ct_law_unsettled), sl_law_unsettled⟩)
    (cdis_law_unsettled : PySem.W.codeIn K cd_law_unsettled "_law_unsettled" = true)
    (k_law_unsettled : PySem.W.keepIn K (.ref f_law_unsettled) = true)
    (a_law_update : PySem.W.nsIn K mainGlobals "_law_update" = some (some (.ref f_law_update)))
    (l_law_update : K.lookup f_law_update = some ⟨oc_law_update, od_law_update, .func (PySem.W.fnOf "_law_update" "_law_update" (defArgs s_law_update) (defBody s_law_update) (defScope s_law_update) .none kV_law_update doc_law_update pm_law_update an_law_update cd_law_update ct_law_update), sl_law_update⟩)
    (cdis_law_update : PySem.W.codeIn K cd_law_update "_law_update" = true)
    (k_law_update : PySem.W.keepIn K (.ref f_law_update) = true)
    (a_law_answer : PySem.W.nsIn K mainGlobals "_law_answer" = some (some (.ref f_law_answer)))
    (l_law_answer : K.lookup f_law_answer = some ⟨oc_law_answer, od_law_answer, .func (PySem.W.fnOf "_law_answer" "_law_answer" (defArgs s_law_answer) (defBody s_law_answer) (defScope s_law_answer) .none kV_law_answer doc_law_answer pm_law_answer an_law_answer cd_law_answer ct_law_answer), sl_law_answer⟩)
    (cdis_law_answer : PySem.W.codeIn K cd_law_answer "_law_answer" = true)
    (k_law_answer : PySem.W.keepIn K (.ref f_law_answer) = true)
    (a_law_made : PySem.W.nsIn K mainGlobals "_law_made" = some (some (.ref f_law_made)))
    (l_law_made : K.lookup f_law_made = some ⟨oc_law_made, od_law_made, .func (PySem.W.fnOf "_law_made" "_law_made" (defArgs s_law_made) (defBody s_law_made) (defScope s_law_made) .none kV_law_made doc_law_made pm_law_made an_law_made cd_law_made ct_law_made), sl_law_made⟩)
    (cdis_law_made : PySem.W.codeIn K cd_law_made "_law_made" = true)
    (k_law_made : PySem.W.keepIn K (.ref f_law_made) = true)
    (a_law_rows : PySem.W.nsIn K mainGlobals "_law_rows" = some (some (.ref f_law_rows)))
    (l_law_rows : K.lookup f_law_rows = some ⟨oc_law_rows, od_law_rows, .func (PySem.W.fnOf "_law_rows" "_law_rows" (defArgs s_law_rows) (defBody s_law_rows) (defScope s_law_rows) .none kV_law_rows doc_law_rows pm_law_rows an_law_rows cd_law_rows ct_law_rows), sl_law_rows⟩)
    (cdis_law_rows : PySem.W.codeIn K cd_law_rows "_law_rows" = true)
    (k_law_rows : PySem.W.keepIn K (.ref f_law_rows) = true)
    (a_law_one : PySem.W.nsIn K mainGlobals "_law_one" = some (some (.ref f_law_one)))
    (l_law_one : K.lookup f_law_one = some ⟨oc_law_one, od_law_one, .func (PySem.W.fnOf "_law_one" "_law_one" (defArgs s_law_one) (defBody s_law_one) (defScope s_law_one) .none kV_law_one doc_law_one pm_law_one an_law_one cd_law_one ct_law_one), sl_law_one⟩)
    (cdis_law_one : PySem.W.codeIn K cd_law_one "_law_one" = true)
    (k_law_one : PySem.W.keepIn K (.ref f_law_one) = true)
    (a_law_sum : PySem.W.nsIn K mainGlobals "_law_sum" = some (some (.ref f_law_sum)))
    (l_law_sum : K.lookup f_law_sum = some ⟨oc_law_sum, od_law_sum, .func (PySem.W.fnOf "_law_sum" "_law_sum" (defArgs s_law_sum) (defBody s_law_sum) (defScope s_law_sum) .none kV_law_sum doc_law_sum pm_law_sum an_law_sum cd_law_sum ct_law_sum), sl_law_sum⟩)
    (cdis_law_sum : PySem.W.codeIn K cd_law_sum "_law_sum" = true)
    (k_law_sum : PySem.W.keepIn K (.ref f_law_sum) = true)
    (a_law_sum_of_all : PySem.W.nsIn K mainGlobals "_law_sum_of_all" = some (some (.ref f_law_sum_of_all)))
    (l_law_sum_of_all : K.lookup f_law_sum_of_all = some ⟨oc_law_sum_of_all, od_law_sum_of_all, .func (PySem.W.fnOf "_law_sum_of_all" "_law_sum_of_all" (defArgs s_law_sum_of_all) (defBody s_law_sum_of_all) (defScope s_law_sum_of_all) .none kV_law_sum_of_all doc_law_sum_of_all pm_law_sum_of_all an_law_sum_of_all cd_law_sum_of_all ct_law_sum_of_all), sl_law_sum_of_all⟩)
    (cdis_law_sum_of_all : PySem.W.codeIn K cd_law_sum_of_all "_law_sum_of_all" = true)
    (k_law_sum_of_all : PySem.W.keepIn K (.ref f_law_sum_of_all) = true)
    (a_law_joint : PySem.W.nsIn K mainGlobals "_law_joint" = some (some (.ref f_law_joint)))
    (l_law_joint : K.lookup f_law_joint = some ⟨oc_law_joint, od_law_joint, .func (PySem.W.fnOf "_law_joint" "_law_joint" (defArgs s_law_joint) (defBody s_law_joint) (defScope s_law_joint) .none kV_law_joint doc_law_joint pm_law_joint an_law_joint cd_law_joint ct_law_joint), sl_law_joint⟩)
    (cdis_law_joint : PySem.W.codeIn K cd_law_joint "_law_joint" = true)
    (k_law_joint : PySem.W.keepIn K (.ref f_law_joint) = true)
    (a_law_plus_kept : PySem.W.nsIn K mainGlobals "_law_plus_kept" = some (some (.ref f_law_plus_kept)))
    (l_law_plus_kept : K.lookup f_law_plus_kept = some ⟨oc_law_plus_kept, od_law_plus_kept, .func (PySem.W.fnOf "_law_plus_kept" "_law_plus_kept" (defArgs s_law_plus_kept) (defBody s_law_plus_kept) (defScope s_law_plus_kept) .none kV_law_plus_kept doc_law_plus_kept pm_law_plus_kept an_law_plus_kept cd_law_plus_kept ct_law_plus_kept), sl_law_plus_kept⟩)
    (cdis_law_plus_kept : PySem.W.codeIn K cd_law_plus_kept "_law_plus_kept" = true)
    (k_law_plus_kept : PySem.W.keepIn K (.ref f_law_plus_kept) = true)
    (a_law_joint_kept : PySem.W.nsIn K mainGlobals "_law_joint_kept" = some (some (.ref f_law_joint_kept)))
    (l_law_joint_kept : K.lookup f_law_joint_kept = some ⟨oc_law_joint_kept, od_law_joint_kept, .func (PySem.W.fnOf "_law_joint_kept" "_law_joint_kept" (defArgs s_law_joint_kept) (defBody s_law_joint_kept) (defScope s_law_joint_kept) .none kV_law_joint_kept doc_law_joint_kept pm_law_joint_kept an_law_joint_kept cd_law_joint_kept ct_law_joint_kept), sl_law_joint_kept⟩)
    (cdis_law_joint_kept : PySem.W.codeIn K cd_law_joint_kept "_law_joint_kept" = true)
    (k_law_joint_kept : PySem.W.keepIn K (.ref f_law_joint_kept) = true)
    (a_law_equal_kept : PySem.W.nsIn K mainGlobals "_law_equal_kept" = some (some (.ref f_law_equal_kept)))
    (l_law_equal_kept : K.lookup f_law_equal_kept = some ⟨oc_law_equal_kept, od_law_equal_kept, .func (PySem.W.fnOf "_law_equal_kept" "_law_equal_kept" (defArgs s_law_equal_kept) (defBody s_law_equal_kept) (defScope s_law_equal_kept) .none kV_law_equal_kept doc_law_equal_kept pm_law_equal_kept an_law_equal_kept cd_law_equal_kept ct_law_equal_kept), sl_law_equal_kept⟩)
    (cdis_law_equal_kept : PySem.W.codeIn K cd_law_equal_kept "_law_equal_kept" = true)
    (k_law_equal_kept : PySem.W.keepIn K (.ref f_law_equal_kept) = true)
    (a_law_rest_kept : PySem.W.nsIn K mainGlobals "_law_rest_kept" = some (some (.ref f_law_rest_kept)))
    (l_law_rest_kept : K.lookup f_law_rest_kept = some ⟨oc_law_rest_kept, od_law_rest_kept, .func (PySem.W.fnOf "_law_rest_kept" "_law_rest_kept" (defArgs s_law_rest_kept) (defBody s_law_rest_kept) (defScope s_law_rest_kept) .none kV_law_rest_kept doc_law_rest_kept pm_law_rest_kept an_law_rest_kept cd_law_rest_kept ct_law_rest_kept), sl_law_rest_kept⟩)
    (cdis_law_rest_kept : PySem.W.codeIn K cd_law_rest_kept "_law_rest_kept" = true)
    (k_law_rest_kept : PySem.W.keepIn K (.ref f_law_rest_kept) = true)
    (a_law : PySem.W.nsIn K mainGlobals "law" = some (some (.ref f_law)))
    (l_law : K.lookup f_law = some ⟨oc_law, od_law, .func (PySem.W.fnOf "law" "law" (defArgs s_law) (defBody s_law) (defScope s_law) .none kV_law doc_law pm_law an_law cd_law ct_law), sl_law⟩)
    (cdis_law : PySem.W.codeIn K cd_law "law" = true)
    (k_law : PySem.W.keepIn K (.ref f_law) = true)
    (a_MendError : PySem.W.nsIn K mainGlobals "MendError" = some (some (.ref c_MendError)))
    (x_MendError : K.lookup c_MendError = some (excClassObj nm_MendError q_MendError c_MendError N_MendError_ bs_MendError bm_MendError true sn_MendError sub_MendError ab_MendError col_MendError dd_MendError k0_MendError k1_MendError k2_MendError k3_MendError k5_MendError "ValueError.__new__"))
    (a_InvalidImage : PySem.W.nsIn K mainGlobals "InvalidImage" = some (some (.ref c_InvalidImage)))
    (x_InvalidImage : K.lookup c_InvalidImage = some (excClassObj nm_InvalidImage q_InvalidImage c_InvalidImage N_InvalidImage_ bs_InvalidImage [.ref c_MendError, .type "ValueError", .type "Exception", .type "BaseException", .type "object"] true sn_InvalidImage sub_InvalidImage ab_InvalidImage col_InvalidImage dd_InvalidImage k0_InvalidImage k1_InvalidImage k2_InvalidImage k3_InvalidImage k5_InvalidImage "ValueError.__new__"))
    (kc_InvalidImage : PySem.W.keepIn K (.ref c_InvalidImage) = true)
    (sa_InvalidImage : PySem.W.findIn K (.ref c_InvalidImage) "__setattr__" = some (some (.builtin "object.__setattr__")))
    (ga_InvalidImage : PySem.W.findIn K (.ref c_InvalidImage) "__getattribute__" = some (some (.builtin "BaseException.__getattribute__")))
    (gg_InvalidImage : PySem.W.findIn K (.ref c_InvalidImage) "__getattr__" = some none)
    (ca_InvalidImage : PySem.W.findIn K (.ref c_InvalidImage) "__class__" = some (some (.builtin "object.__class__")))
    (i_is_InvalidImage : PySem.W.findIn K (.ref c_InvalidImage) "__init__" = some (some (.ref i_InvalidImage)))
    (t_InvalidImage : PySem.W.typeIn K (.ref i_InvalidImage) = some (.type "function"))
    (nf_InvalidImage : PySem.W.findIn K (.ref c_InvalidImage) "record" = some none)
    (l_i_InvalidImage : K.lookup i_InvalidImage = some ⟨oc_i_InvalidImage, od_i_InvalidImage, .func (PySem.W.fnOf "__init__" "InvalidImage.__init__" (defArgs s_InvalidImage) (defBody s_InvalidImage) (defScope s_InvalidImage) .none kV_i_InvalidImage doc_i_InvalidImage pm_i_InvalidImage an_i_InvalidImage cd_i_InvalidImage ct_i_InvalidImage), sl_i_InvalidImage⟩)
    (cdis_i_InvalidImage : PySem.W.codeIn K cd_i_InvalidImage "InvalidImage.__init__" = true)
    (k_i_InvalidImage : PySem.W.keepIn K (.ref i_InvalidImage) = true)
    (a_NotState : PySem.W.nsIn K mainGlobals "NotState" = some (some (.ref c_NotState)))
    (x_NotState : K.lookup c_NotState = some (excClassObj nm_NotState q_NotState c_NotState N_NotState_ bs_NotState [.ref c_MendError, .type "ValueError", .type "Exception", .type "BaseException", .type "object"] true sn_NotState sub_NotState ab_NotState col_NotState dd_NotState k0_NotState k1_NotState k2_NotState k3_NotState k5_NotState "ValueError.__new__"))
    (kc_NotState : PySem.W.keepIn K (.ref c_NotState) = true)
    (sa_NotState : PySem.W.findIn K (.ref c_NotState) "__setattr__" = some (some (.builtin "object.__setattr__")))
    (ga_NotState : PySem.W.findIn K (.ref c_NotState) "__getattribute__" = some (some (.builtin "BaseException.__getattribute__")))
    (gg_NotState : PySem.W.findIn K (.ref c_NotState) "__getattr__" = some none)
    (ca_NotState : PySem.W.findIn K (.ref c_NotState) "__class__" = some (some (.builtin "object.__class__")))
    (i_is_NotState : PySem.W.findIn K (.ref c_NotState) "__init__" = some (some (.ref i_NotState)))
    (t_NotState : PySem.W.typeIn K (.ref i_NotState) = some (.type "function"))
    (nf_NotState : PySem.W.findIn K (.ref c_NotState) "record" = some none)
    (l_i_NotState : K.lookup i_NotState = some ⟨oc_i_NotState, od_i_NotState, .func (PySem.W.fnOf "__init__" "NotState.__init__" (defArgs s_NotState) (defBody s_NotState) (defScope s_NotState) .none kV_i_NotState doc_i_NotState pm_i_NotState an_i_NotState cd_i_NotState ct_i_NotState), sl_i_NotState⟩)
    (cdis_i_NotState : PySem.W.codeIn K cd_i_NotState "NotState.__init__" = true)
    (k_i_NotState : PySem.W.keepIn K (.ref i_NotState) = true)
    (a_Busy : PySem.W.nsIn K mainGlobals "Busy" = some (some (.ref c_Busy)))
    (x_Busy : K.lookup c_Busy = some (excClassObj nm_Busy q_Busy c_Busy N_Busy_ bs_Busy [.ref c_MendError, .type "ValueError", .type "Exception", .type "BaseException", .type "object"] true sn_Busy sub_Busy ab_Busy col_Busy dd_Busy k0_Busy k1_Busy k2_Busy k3_Busy k5_Busy "ValueError.__new__"))
    (kc_Busy : PySem.W.keepIn K (.ref c_Busy) = true)
    (sa_Busy : PySem.W.findIn K (.ref c_Busy) "__setattr__" = some (some (.builtin "object.__setattr__")))
    (ga_Busy : PySem.W.findIn K (.ref c_Busy) "__getattribute__" = some (some (.builtin "BaseException.__getattribute__")))
    (gg_Busy : PySem.W.findIn K (.ref c_Busy) "__getattr__" = some none)
    (ca_Busy : PySem.W.findIn K (.ref c_Busy) "__class__" = some (some (.builtin "object.__class__")))
    (i_is_Busy : PySem.W.findIn K (.ref c_Busy) "__init__" = some (some (.ref i_Busy)))
    (t_Busy : PySem.W.typeIn K (.ref i_Busy) = some (.type "function"))
    (nf_Busy : PySem.W.findIn K (.ref c_Busy) "record" = some none)
    (l_i_Busy : K.lookup i_Busy = some ⟨oc_i_Busy, od_i_Busy, .func (PySem.W.fnOf "__init__" "Busy.__init__" (defArgs s_Busy) (defBody s_Busy) (defScope s_Busy) .none kV_i_Busy doc_i_Busy pm_i_Busy an_i_Busy cd_i_Busy ct_i_Busy), sl_i_Busy⟩)
    (cdis_i_Busy : PySem.W.codeIn K cd_i_Busy "Busy.__init__" = true)
    (k_i_Busy : PySem.W.keepIn K (.ref i_Busy) = true)
    (a_UnequalSizes : PySem.W.nsIn K mainGlobals "UnequalSizes" = some (some (.ref c_UnequalSizes)))
    (x_UnequalSizes : K.lookup c_UnequalSizes = some (excClassObj nm_UnequalSizes q_UnequalSizes c_UnequalSizes N_UnequalSizes_ bs_UnequalSizes [.ref c_MendError, .type "ValueError", .type "Exception", .type "BaseException", .type "object"] true sn_UnequalSizes sub_UnequalSizes ab_UnequalSizes col_UnequalSizes dd_UnequalSizes k0_UnequalSizes k1_UnequalSizes k2_UnequalSizes k3_UnequalSizes k5_UnequalSizes "ValueError.__new__"))
    (kc_UnequalSizes : PySem.W.keepIn K (.ref c_UnequalSizes) = true)
    (sa_UnequalSizes : PySem.W.findIn K (.ref c_UnequalSizes) "__setattr__" = some (some (.builtin "object.__setattr__")))
    (ga_UnequalSizes : PySem.W.findIn K (.ref c_UnequalSizes) "__getattribute__" = some (some (.builtin "BaseException.__getattribute__")))
    (gg_UnequalSizes : PySem.W.findIn K (.ref c_UnequalSizes) "__getattr__" = some none)
    (ca_UnequalSizes : PySem.W.findIn K (.ref c_UnequalSizes) "__class__" = some (some (.builtin "object.__class__")))
    (q_is_UnequalSizes : PySem.W.excIn K c_UnequalSizes [.type "ValueError", .type "Exception", .type "BaseException", .type "object"] "ValueError.__new__" = true)
    (a_InvalidUpdate : PySem.W.nsIn K mainGlobals "InvalidUpdate" = some (some (.ref c_InvalidUpdate)))
    (x_InvalidUpdate : K.lookup c_InvalidUpdate = some (excClassObj nm_InvalidUpdate q_InvalidUpdate c_InvalidUpdate N_InvalidUpdate_ bs_InvalidUpdate [.ref c_MendError, .type "ValueError", .type "Exception", .type "BaseException", .type "object"] true sn_InvalidUpdate sub_InvalidUpdate ab_InvalidUpdate col_InvalidUpdate dd_InvalidUpdate k0_InvalidUpdate k1_InvalidUpdate k2_InvalidUpdate k3_InvalidUpdate k5_InvalidUpdate "ValueError.__new__"))
    (kc_InvalidUpdate : PySem.W.keepIn K (.ref c_InvalidUpdate) = true)
    (sa_InvalidUpdate : PySem.W.findIn K (.ref c_InvalidUpdate) "__setattr__" = some (some (.builtin "object.__setattr__")))
    (ga_InvalidUpdate : PySem.W.findIn K (.ref c_InvalidUpdate) "__getattribute__" = some (some (.builtin "BaseException.__getattribute__")))
    (gg_InvalidUpdate : PySem.W.findIn K (.ref c_InvalidUpdate) "__getattr__" = some none)
    (ca_InvalidUpdate : PySem.W.findIn K (.ref c_InvalidUpdate) "__class__" = some (some (.builtin "object.__class__")))
    (q_is_InvalidUpdate : PySem.W.excIn K c_InvalidUpdate [.type "ValueError", .type "Exception", .type "BaseException", .type "object"] "ValueError.__new__" = true)
    (cn : PySem.W.specialIn K (.builtin "object.__class__") "__get__" = some (some (.builtin "getset_descriptor.__get__")))
    (ct : PySem.W.takesIn K (.builtin "object.__class__") = some true)
    (nd : [c_MendError, c_InvalidImage, c_NotState, c_Busy, c_UnequalSizes, c_InvalidUpdate].Nodup)
    (rc1 : PySem.W.plainGet K c_Update Str.empty = true)
    (rc2 : PySem.W.hasDictIn K c_Update = true)
    (rc3 : PySem.W.plainOver K c_Update = true)
    (rc4 : PySem.W.findIn K (.ref c_Update) "__setattr__" = some (some (.builtin "object.__setattr__")))
    (rm1 : PySem.W.makesIn K c_Update = true)
    (rm3 : PySem.W.isFn K (.ref f_m_init) = true)
    (rm4 : PySem.W.keepIn K (.ref c_Update) = true)
    (r_cc : PySem.W.findIn K (.ref c_Update) "__class__" = some (some (.builtin "object.__class__")))
    (r_co : PySem.W.mroIn K c_Update (.type "object") = some true)
    (pb_records : PySem.W.specialIn K (.ref p_records) "__get__" = some (some (.builtin "property.__get__")))
    (pc_records : PySem.W.takesIn K (.ref p_records) = some true)
    (rq1 : PySem.W.readsIn K c_Update (.type "type") = true)
    (rq2 : PySem.W.specialIn K (.ref c_Update) "__getattribute__" = some (some (.builtin "type.__getattribute__")))
    (u3 : PySem.W.fnIn K f_m_rest = true)
    (og_neg : PySem.W.isFn K (.ref f_m_neg) = true)
    (og_add : PySem.W.isFn K (.ref f_m_add) = true)
    (og_len : PySem.W.isFn K (.ref f_m_len) = true)
    (og_contains : PySem.W.isFn K (.ref f_m_contains) = true)
    (og_eq : PySem.W.isFn K (.ref f_m_eq) = true)
    (og_repr : PySem.W.isFn K (.ref f_m_repr) = true)
    (o3 : PySem.W.notFirst K c_Update (.ref c_Update) = true)
    (o6 : PySem.W.selfFirst K c_Update = true)
    (nc_is_before : PySem.W.findIn K (.ref c_Update) "before" = some none)
    (nc_is_after : PySem.W.findIn K (.ref c_Update) "after" = some none)
    (z_ValueError : PySem.W.nsIn K mainGlobals "ValueError" = some none)
    (z_int : PySem.W.nsIn K mainGlobals "int" = some none)
    (z_bool : PySem.W.nsIn K mainGlobals "bool" = some none)
    (z_str : PySem.W.nsIn K mainGlobals "str" = some none)
    (z_list : PySem.W.nsIn K mainGlobals "list" = some none)
    (z_tuple : PySem.W.nsIn K mainGlobals "tuple" = some none)
    (z_len : PySem.W.nsIn K mainGlobals "len" = some none)
    (z_range : PySem.W.nsIn K mainGlobals "range" = some none)
    (z_enumerate : PySem.W.nsIn K mainGlobals "enumerate" = some none)
    (z_isinstance : PySem.W.nsIn K mainGlobals "isinstance" = some none)
    (z_min : PySem.W.nsIn K mainGlobals "min" = some none)
    (z_abs : PySem.W.nsIn K mainGlobals "abs" = some none)
    (z_sorted : PySem.W.nsIn K mainGlobals "sorted" = some none)
    (z_all : PySem.W.nsIn K mainGlobals "all" = some none)
    (z_any : PySem.W.nsIn K mainGlobals "any" = some none)
    (z_sum : PySem.W.nsIn K mainGlobals "sum" = some none)
    (z_zip : PySem.W.nsIn K mainGlobals "zip" = some none)
    (z_reversed : PySem.W.nsIn K mainGlobals "reversed" = some none)
    (z_max : PySem.W.nsIn K mainGlobals "max" = some none)
    (z_set : PySem.W.nsIn K mainGlobals "set" = some none)
    (z_repr : PySem.W.nsIn K mainGlobals "repr" = some none)
    : ∃ fd : FuncData, (∀ (s : Shared) (v : Value), BindsTo s fd ⟨[v], []⟩ [("script", v)]) ∧ ∀ base : Heap, K.In base → base.Ns mainGlobals mg → GdR.FnG l.prog w K mg base CX0 13 fa fd ["script"] (spLaw K) := by
  have e := hfa.symm.trans (PySem.W.mg_of X G a_law)
  cases e
  obtain ⟨A, hA⟩ : ∃ A : Ad, A = ⟨f_check_image, f_check_state, f_check_pair, f_m_init, f_m_records, f_m_rest, f_m_joint, f_m_neg, f_m_add, f_m_eq, f_m_len, f_m_contains, f_m_repr, f_written, f_law_mix, f_law_box, f_law_draw, f_law_size, f_law_paired, f_law_other, f_law_blocks, f_law_touched, f_law_whole, f_law_row, f_law_spoil, f_law_entry, f_law_unsettled, f_law_update, f_law_answer, f_law_made, f_law_rows, f_law_one, f_law_sum, f_law_sum_of_all, f_law_joint, f_law_plus_kept, f_law_joint_kept, f_law_equal_kept, f_law_rest_kept, fa, c_MendError, c_InvalidImage, c_NotState, c_Busy, c_UnequalSizes, c_InvalidUpdate, i_InvalidImage, i_NotState, i_Busy, c_Update, p_records, p_rest, p_joint⟩ := ⟨_, rfl⟩
  have T : Txt K mg A := {
    g_check_image := by rw [hA]; exact PySem.W.mg_of X G a_check_image,
    k_check_image := by rw [hA]; exact k_check_image,
    d_check_image := by rw [hA]; exact ⟨_, fun_mk (st := s_check_image) l_check_image cdis_check_image k_check_image⟩,
    g_check_state := by rw [hA]; exact PySem.W.mg_of X G a_check_state,
    k_check_state := by rw [hA]; exact k_check_state,
    d_check_state := by rw [hA]; exact ⟨_, fun_mk (st := s_check_state) l_check_state cdis_check_state k_check_state⟩,
    g_check_pair := by rw [hA]; exact PySem.W.mg_of X G a_check_pair,
    k_check_pair := by rw [hA]; exact k_check_pair,
    d_check_pair := by rw [hA]; exact ⟨_, fun_mk (st := s_check_pair) l_check_pair cdis_check_pair k_check_pair⟩,
    d_m_init := by rw [hA]; exact ⟨_, fun_mk (st := s_m_init) l_m_init cd_is_m_init k_m_init⟩,
    d_m_records := by rw [hA]; exact ⟨_, fun_mk (st := s_m_records) l_m_records cd_is_m_records k_m_records⟩,
    d_m_rest := by rw [hA]; exact ⟨_, fun_mk (st := s_m_rest) l_m_rest cd_is_m_rest k_m_rest⟩,
    d_m_joint := by rw [hA]; exact ⟨_, fun_mk (st := s_m_joint) l_m_joint cd_is_m_joint k_m_joint⟩,
    d_m_neg := by rw [hA]; exact ⟨_, fun_mk (st := s_m_neg) l_m_neg cd_is_m_neg k_m_neg⟩,
    d_m_add := by rw [hA]; exact ⟨_, fun_mk (st := s_m_add) l_m_add cd_is_m_add k_m_add⟩,
    d_m_eq := by rw [hA]; exact ⟨_, fun_mk (st := s_m_eq) l_m_eq cd_is_m_eq k_m_eq⟩,
    d_m_len := by rw [hA]; exact ⟨_, fun_mk (st := s_m_len) l_m_len cd_is_m_len k_m_len⟩,
    d_m_contains := by rw [hA]; exact ⟨_, fun_mk (st := s_m_contains) l_m_contains cd_is_m_contains k_m_contains⟩,
    d_m_repr := by rw [hA]; exact ⟨_, fun_mk (st := s_m_repr) l_m_repr cd_is_m_repr k_m_repr⟩,
    g_written := by rw [hA]; exact PySem.W.mg_of X G a_written,
    k_written := by rw [hA]; exact k_written,
    d_written := by rw [hA]; exact ⟨_, fun_mk (st := s_written) l_written cdis_written k_written⟩,
    g_law_mix := by rw [hA]; exact PySem.W.mg_of X G a_law_mix,
    k_law_mix := by rw [hA]; exact k_law_mix,
    d_law_mix := by rw [hA]; exact ⟨_, fun_mk (st := s_law_mix) l_law_mix cdis_law_mix k_law_mix⟩,
    g_law_box := by rw [hA]; exact PySem.W.mg_of X G a_law_box,
    k_law_box := by rw [hA]; exact k_law_box,
    d_law_box := by rw [hA]; exact ⟨_, fun_mk (st := s_law_box) l_law_box cdis_law_box k_law_box⟩,
    g_law_draw := by rw [hA]; exact PySem.W.mg_of X G a_law_draw,
    k_law_draw := by rw [hA]; exact k_law_draw,
    d_law_draw := by rw [hA]; exact ⟨_, fun_mk (st := s_law_draw) l_law_draw cdis_law_draw k_law_draw⟩,
    g_law_size := by rw [hA]; exact PySem.W.mg_of X G a_law_size,
    k_law_size := by rw [hA]; exact k_law_size,
    d_law_size := by rw [hA]; exact ⟨_, fun_mk (st := s_law_size) l_law_size cdis_law_size k_law_size⟩,
    g_law_paired := by rw [hA]; exact PySem.W.mg_of X G a_law_paired,
    k_law_paired := by rw [hA]; exact k_law_paired,
    d_law_paired := by rw [hA]; exact ⟨_, fun_mk (st := s_law_paired) l_law_paired cdis_law_paired k_law_paired⟩,
    g_law_other := by rw [hA]; exact PySem.W.mg_of X G a_law_other,
    k_law_other := by rw [hA]; exact k_law_other,
    d_law_other := by rw [hA]; exact ⟨_, fun_mk (st := s_law_other) l_law_other cdis_law_other k_law_other⟩,
    g_law_blocks := by rw [hA]; exact PySem.W.mg_of X G a_law_blocks,
    k_law_blocks := by rw [hA]; exact k_law_blocks,
    d_law_blocks := by rw [hA]; exact ⟨_, fun_mk (st := s_law_blocks) l_law_blocks cdis_law_blocks k_law_blocks⟩,
    g_law_touched := by rw [hA]; exact PySem.W.mg_of X G a_law_touched,
    k_law_touched := by rw [hA]; exact k_law_touched,
    d_law_touched := by rw [hA]; exact ⟨_, fun_mk (st := s_law_touched) l_law_touched cdis_law_touched k_law_touched⟩,
    g_law_whole := by rw [hA]; exact PySem.W.mg_of X G a_law_whole,
    k_law_whole := by rw [hA]; exact k_law_whole,
    d_law_whole := by rw [hA]; exact ⟨_, fun_mk (st := s_law_whole) l_law_whole cdis_law_whole k_law_whole⟩,
    g_law_row := by rw [hA]; exact PySem.W.mg_of X G a_law_row,
    k_law_row := by rw [hA]; exact k_law_row,
    d_law_row := by rw [hA]; exact ⟨_, fun_mk (st := s_law_row) l_law_row cdis_law_row k_law_row⟩,
    g_law_spoil := by rw [hA]; exact PySem.W.mg_of X G a_law_spoil,
    k_law_spoil := by rw [hA]; exact k_law_spoil,
    d_law_spoil := by rw [hA]; exact ⟨_, fun_mk (st := s_law_spoil) l_law_spoil cdis_law_spoil k_law_spoil⟩,
    g_law_entry := by rw [hA]; exact PySem.W.mg_of X G a_law_entry,
    k_law_entry := by rw [hA]; exact k_law_entry,
    d_law_entry := by rw [hA]; exact ⟨_, fun_mk (st := s_law_entry) l_law_entry cdis_law_entry k_law_entry⟩,
    g_law_unsettled := by rw [hA]; exact PySem.W.mg_of X G a_law_unsettled,
    k_law_unsettled := by rw [hA]; exact k_law_unsettled,
    d_law_unsettled := by rw [hA]; exact ⟨_, fun_mk (st := s_law_unsettled) l_law_unsettled cdis_law_unsettled k_law_unsettled⟩,
    g_law_update := by rw [hA]; exact PySem.W.mg_of X G a_law_update,
    k_law_update := by rw [hA]; exact k_law_update,
    d_law_update := by rw [hA]; exact ⟨_, fun_mk (st := s_law_update) l_law_update cdis_law_update k_law_update⟩,
    g_law_answer := by rw [hA]; exact PySem.W.mg_of X G a_law_answer,
    k_law_answer := by rw [hA]; exact k_law_answer,
    d_law_answer := by rw [hA]; exact ⟨_, fun_mk (st := s_law_answer) l_law_answer cdis_law_answer k_law_answer⟩,
    g_law_made := by rw [hA]; exact PySem.W.mg_of X G a_law_made,
    k_law_made := by rw [hA]; exact k_law_made,
    d_law_made := by rw [hA]; exact ⟨_, fun_mk (st := s_law_made) l_law_made cdis_law_made k_law_made⟩,
    g_law_rows := by rw [hA]; exact PySem.W.mg_of X G a_law_rows,
    k_law_rows := by rw [hA]; exact k_law_rows,
    d_law_rows := by rw [hA]; exact ⟨_, fun_mk (st := s_law_rows) l_law_rows cdis_law_rows k_law_rows⟩,
    g_law_one := by rw [hA]; exact PySem.W.mg_of X G a_law_one,
    k_law_one := by rw [hA]; exact k_law_one,
    d_law_one := by rw [hA]; exact ⟨_, fun_mk (st := s_law_one) l_law_one cdis_law_one k_law_one⟩,
    g_law_sum := by rw [hA]; exact PySem.W.mg_of X G a_law_sum,
    k_law_sum := by rw [hA]; exact k_law_sum,
    d_law_sum := by rw [hA]; exact ⟨_, fun_mk (st := s_law_sum) l_law_sum cdis_law_sum k_law_sum⟩,
    g_law_sum_of_all := by rw [hA]; exact PySem.W.mg_of X G a_law_sum_of_all,
    k_law_sum_of_all := by rw [hA]; exact k_law_sum_of_all,
    d_law_sum_of_all := by rw [hA]; exact ⟨_, fun_mk (st := s_law_sum_of_all) l_law_sum_of_all cdis_law_sum_of_all k_law_sum_of_all⟩,
    g_law_joint := by rw [hA]; exact PySem.W.mg_of X G a_law_joint,
    k_law_joint := by rw [hA]; exact k_law_joint,
    d_law_joint := by rw [hA]; exact ⟨_, fun_mk (st := s_law_joint) l_law_joint cdis_law_joint k_law_joint⟩,
    g_law_plus_kept := by rw [hA]; exact PySem.W.mg_of X G a_law_plus_kept,
    k_law_plus_kept := by rw [hA]; exact k_law_plus_kept,
    d_law_plus_kept := by rw [hA]; exact ⟨_, fun_mk (st := s_law_plus_kept) l_law_plus_kept cdis_law_plus_kept k_law_plus_kept⟩,
    g_law_joint_kept := by rw [hA]; exact PySem.W.mg_of X G a_law_joint_kept,
    k_law_joint_kept := by rw [hA]; exact k_law_joint_kept,
    d_law_joint_kept := by rw [hA]; exact ⟨_, fun_mk (st := s_law_joint_kept) l_law_joint_kept cdis_law_joint_kept k_law_joint_kept⟩,
    g_law_equal_kept := by rw [hA]; exact PySem.W.mg_of X G a_law_equal_kept,
    k_law_equal_kept := by rw [hA]; exact k_law_equal_kept,
    d_law_equal_kept := by rw [hA]; exact ⟨_, fun_mk (st := s_law_equal_kept) l_law_equal_kept cdis_law_equal_kept k_law_equal_kept⟩,
    g_law_rest_kept := by rw [hA]; exact PySem.W.mg_of X G a_law_rest_kept,
    k_law_rest_kept := by rw [hA]; exact k_law_rest_kept,
    d_law_rest_kept := by rw [hA]; exact ⟨_, fun_mk (st := s_law_rest_kept) l_law_rest_kept cdis_law_rest_kept k_law_rest_kept⟩,
    g_law := by rw [hA]; exact PySem.W.mg_of X G a_law,
    k_law := by rw [hA]; exact k_law,
    d_law := by rw [hA]; exact ⟨_, fun_mk (st := s_law) l_law cdis_law k_law⟩,
    e_MendError := by rw [hA]; exact ⟨PySem.W.mg_of X G a_MendError, ⟨_, _, _, _, _, _, _, _, _, _, _, _, _, _, _, x_MendError⟩⟩,
    e_InvalidImage := by rw [hA]; exact ⟨PySem.W.mg_of X G a_InvalidImage, kc_InvalidImage, ⟨_, _, _, _, _, _, _, _, _, _, _, _, _, _, x_InvalidImage⟩, sa_InvalidImage, ga_InvalidImage, gg_InvalidImage, ca_InvalidImage⟩,
    f_InvalidImage := by rw [hA]; exact ⟨i_is_InvalidImage, t_InvalidImage, nf_InvalidImage, ⟨_, fun_mk (st := s_InvalidImage) l_i_InvalidImage cdis_i_InvalidImage k_i_InvalidImage⟩⟩,
    e_NotState := by rw [hA]; exact ⟨PySem.W.mg_of X G a_NotState, kc_NotState, ⟨_, _, _, _, _, _, _, _, _, _, _, _, _, _, x_NotState⟩, sa_NotState, ga_NotState, gg_NotState, ca_NotState⟩,
    f_NotState := by rw [hA]; exact ⟨i_is_NotState, t_NotState, nf_NotState, ⟨_, fun_mk (st := s_NotState) l_i_NotState cdis_i_NotState k_i_NotState⟩⟩,
    e_Busy := by rw [hA]; exact ⟨PySem.W.mg_of X G a_Busy, kc_Busy, ⟨_, _, _, _, _, _, _, _, _, _, _, _, _, _, x_Busy⟩, sa_Busy, ga_Busy, gg_Busy, ca_Busy⟩,
    f_Busy := by rw [hA]; exact ⟨i_is_Busy, t_Busy, nf_Busy, ⟨_, fun_mk (st := s_Busy) l_i_Busy cdis_i_Busy k_i_Busy⟩⟩,
    e_UnequalSizes := by rw [hA]; exact ⟨PySem.W.mg_of X G a_UnequalSizes, kc_UnequalSizes, ⟨_, _, _, _, _, _, _, _, _, _, _, _, _, _, x_UnequalSizes⟩, sa_UnequalSizes, ga_UnequalSizes, gg_UnequalSizes, ca_UnequalSizes⟩,
    q_UnequalSizes := by rw [hA]; exact q_is_UnequalSizes,
    e_InvalidUpdate := by rw [hA]; exact ⟨PySem.W.mg_of X G a_InvalidUpdate, kc_InvalidUpdate, ⟨_, _, _, _, _, _, _, _, _, _, _, _, _, _, x_InvalidUpdate⟩, sa_InvalidUpdate, ga_InvalidUpdate, gg_InvalidUpdate, ca_InvalidUpdate⟩,
    q_InvalidUpdate := by rw [hA]; exact q_is_InvalidUpdate,
    cn := cn,
    ct := ct,
    nd := by rw [hA]; exact nd,
    cc := by rw [hA]; exact r_cc,
    co := by rw [hA]; exact r_co,
    g_Update := by rw [hA]; exact PySem.W.mg_of X G a_Update,
    cR := by rw [hA]; exact ⟨rc1, rc2, rc3, rc4⟩,
    mkR := by rw [hA]; exact ⟨rm1, rm2, rm3, rm4⟩,
    pp_records := by rw [hA]; exact ⟨pa_records, pb_records, pc_records, _, pd_records⟩,
    rd := by rw [hA]; exact ⟨rq1, rq2⟩,
    cm := by rw [hA]; exact ⟨u1, ⟨_, u2⟩, u3⟩,
    sm := by rw [hA]; exact ⟨s1, ⟨_, s2⟩, k_m_joint⟩,
    o_neg := by rw [hA]; exact ⟨of_neg, og_neg⟩,
    o_add := by rw [hA]; exact ⟨of_add, og_add⟩,
    o_len := by rw [hA]; exact ⟨of_len, og_len⟩,
    o_in := by rw [hA]; exact ⟨of_contains, og_contains⟩,
    o_eq := by rw [hA]; exact ⟨of_eq, og_eq⟩,
    o_repr := by rw [hA]; exact ⟨of_repr, og_repr⟩,
    o_nf := by rw [hA]; exact o3,
    o_sf := by rw [hA]; exact o6,
    nc_before := by rw [hA]; exact nc_is_before,
    nc_after := by rw [hA]; exact nc_is_after,
    n_ValueError := PySem.W.mg_none_of X G z_ValueError,
    n_int := PySem.W.mg_none_of X G z_int,
    n_bool := PySem.W.mg_none_of X G z_bool,
    n_str := PySem.W.mg_none_of X G z_str,
    n_list := PySem.W.mg_none_of X G z_list,
    n_tuple := PySem.W.mg_none_of X G z_tuple,
    n_len := PySem.W.mg_none_of X G z_len,
    n_range := PySem.W.mg_none_of X G z_range,
    n_enumerate := PySem.W.mg_none_of X G z_enumerate,
    n_isinstance := PySem.W.mg_none_of X G z_isinstance,
    n_min := PySem.W.mg_none_of X G z_min,
    n_abs := PySem.W.mg_none_of X G z_abs,
    n_sorted := PySem.W.mg_none_of X G z_sorted,
    n_all := PySem.W.mg_none_of X G z_all,
    n_any := PySem.W.mg_none_of X G z_any,
    n_sum := PySem.W.mg_none_of X G z_sum,
    n_zip := PySem.W.mg_none_of X G z_zip,
    n_reversed := PySem.W.mg_none_of X G z_reversed,
    n_max := PySem.W.mg_none_of X G z_max,
    n_set := PySem.W.mg_none_of X G z_set,
    n_repr := PySem.W.mg_none_of X G z_repr }
  have FL := fun_mk (st := s_law) l_law cdis_law k_law
  have eL : A.law = fa := by rw [hA]
  refine ⟨PySem.W.fnOf "law" "law" (defArgs s_law) (defBody s_law) (defScope s_law) .none kV_law doc_law pm_law an_law cd_law ct_law, fun s v => .of_eq rfl, fun base _ _ => ?_⟩
  rw [← eL] at FL ⊢
  have g_Busy := ok_Busy (P := l.prog) (w := w) (base := base) T 
  have g_m_records := ok_m_records (P := l.prog) (w := w) (base := base) T 
  have g_written := ok_written (P := l.prog) (w := w) (base := base) T 
  have g_InvalidImage := ok_InvalidImage (P := l.prog) (w := w) (base := base) T 
  have g_check_image := ok_check_image (P := l.prog) (w := w) (base := base) T g_InvalidImage
  have g_NotState := ok_NotState (P := l.prog) (w := w) (base := base) T 
  have g_check_state := ok_check_state (P := l.prog) (w := w) (base := base) T g_check_image g_NotState
  have g_check_pair := ok_check_pair (P := l.prog) (w := w) (base := base) T g_check_state
  have g_m_init := ok_m_init (P := l.prog) (w := w) (base := base) T g_check_pair
  have g_m_add := ok_m_add (P := l.prog) (w := w) (base := base) T g_m_records g_Busy g_written g_m_init
  have g_law_sum := ok_law_sum (P := l.prog) (w := w) (base := base) T 
  have g_law_sum_of_all := ok_law_sum_of_all (P := l.prog) (w := w) (base := base) T g_law_sum
  have g_law_answer := ok_law_answer (P := l.prog) (w := w) (base := base) T 
  have g_law_blocks := ok_law_blocks (P := l.prog) (w := w) (base := base) T 
  have g_law_box := ok_law_box (P := l.prog) (w := w) (base := base) T 
  have g_m_contains := ok_m_contains (P := l.prog) (w := w) (base := base) T g_m_records
  have g_law_mix := ok_law_mix (P := l.prog) (w := w) (base := base) T 
  have g_law_draw := ok_law_draw (P := l.prog) (w := w) (base := base) T g_law_mix
  have g_law_paired := ok_law_paired (P := l.prog) (w := w) (base := base) T g_law_draw
  have g_law_touched := ok_law_touched (P := l.prog) (w := w) (base := base) T g_law_blocks g_law_draw
  have g_m_eq := ok_m_eq (P := l.prog) (w := w) (base := base) T 
  have g_law_made := ok_law_made (P := l.prog) (w := w) (base := base) T g_m_init
  have g_law_equal_kept := ok_law_equal_kept (P := l.prog) (w := w) (base := base) T g_law_paired g_law_touched g_law_answer g_m_eq g_law_made g_m_init
  have g_law_entry := ok_law_entry (P := l.prog) (w := w) (base := base) T 
  have g_m_rest := ok_m_rest (P := l.prog) (w := w) (base := base) T g_m_init
  have g_m_joint := ok_m_joint (P := l.prog) (w := w) (base := base) T g_m_rest g_m_add
  have g_law_joint := ok_law_joint (P := l.prog) (w := w) (base := base) T g_m_joint
  have g_law_whole := ok_law_whole (P := l.prog) (w := w) (base := base) T 
  have g_law_row := ok_law_row (P := l.prog) (w := w) (base := base) T g_law_whole
  have g_law_update := ok_law_update (P := l.prog) (w := w) (base := base) T g_law_row g_m_records
  have h_law_whole := okh_law_whole (P := l.prog) (w := w) (base := base) T 
  have g_law_joint_kept := ok_law_joint_kept (P := l.prog) (w := w) (base := base) T g_law_joint g_law_update h_law_whole
  have g_m_len := ok_m_len (P := l.prog) (w := w) (base := base) T g_m_records
  have g_m_neg := ok_m_neg (P := l.prog) (w := w) (base := base) T g_m_init
  have g_m_repr := ok_m_repr (P := l.prog) (w := w) (base := base) T 
  have g_law_one := ok_law_one (P := l.prog) (w := w) (base := base) T g_law_update g_law_whole g_m_len g_law_answer g_m_contains g_m_repr g_m_neg g_m_eq
  have g_law_other := ok_law_other (P := l.prog) (w := w) (base := base) T g_law_paired
  have g_law_plus_kept := ok_law_plus_kept (P := l.prog) (w := w) (base := base) T g_m_add g_law_update h_law_whole
  have g_law_spoil := ok_law_spoil (P := l.prog) (w := w) (base := base) T 
  have g_law_unsettled := ok_law_unsettled (P := l.prog) (w := w) (base := base) T 
  have h_law_unsettled := okh_law_unsettled (P := l.prog) (w := w) (base := base) T 
  have g_law_rest_kept := ok_law_rest_kept (P := l.prog) (w := w) (base := base) T g_m_rest g_law_row g_law_spoil g_law_whole g_m_len g_law_update g_law_draw g_law_entry g_law_unsettled h_law_whole h_law_unsettled
  have g_law_rows := ok_law_rows (P := l.prog) (w := w) (base := base) T g_law_paired g_law_draw g_law_blocks g_law_other
  have g_law_size := ok_law_size (P := l.prog) (w := w) (base := base) T g_law_draw
  exact ok_law T FL g_law_box g_law_rows g_law_size g_law_made g_law_one g_law_draw g_law_plus_kept g_law_sum g_law_answer g_m_eq g_law_equal_kept g_law_joint_kept g_law_sum_of_all g_law_rest_kept g_law_update g_law_paired
theorem walk {l : PySem.W.OpenLaw} {q : Program} {loose : List Str} {XP : (Str → Option Value) → Heap → Prop} {YP : World → Heap → Prop} {d : DefRec} {K : Params → PySem.W.Frag} (hn : l.most = some 63) (hdf : d.params.defaults = [])
    (hY : ∀ (w : World) (h : Heap), YP w h → (K w.params).In h)
    (F : ∀ (w : World) (mg : Str → Option Value) (fa : Addr) (h : Heap), (K w.params).In h → h.Ns mainGlobals mg → mg d.name = some (.ref fa) →
      ∃ fd : FuncData, (∀ (s : Shared) (u : Value), BindsTo s fd ⟨[u], []⟩ [("script", u)]) ∧ ∀ base : Heap, (K w.params).In base → base.Ns mainGlobals mg → GdR.FnG l.prog w (K w.params) mg base CX0 13 fa fd ["script"] (spLaw (K w.params))) :
    PySem.W.WalkO q loose XP YP l.row.toRowW d [] (fun f vs => PySem.call f vs) :=
  GdR.walk_ofG (n := 63) (k := 13) (x := "script") (CX := fun _ => CX0) (sp := fun w => spLaw (K w.params)) hn (by decide) hdf ⟨rfl, by decide, by decide⟩ hY F (fun _ _ a ns hl _ hS => ⟨a, ns, rfl, hS, hl, fun _ => rfl⟩) fun _ _ _ _ _ z => z
end Pv

open PySem PySem.W PyProof.Rows
set_option maxRecDepth 100000 in
set_option maxHeartbeats 0 in
theorem PySem.Challenge.cw_peermend_k06_operators_of_updates_holds : PySem.Challenge.rw_peermend_k06_operators_of_updates.Holds := by
  w_on; o_law; k_head; (case hw => w_witness2)
  k_fill
  refine Pv.walk (l := PySem.Challenge.rw_peermend_k06_operators_of_updates) rfl rfl (fun w h Y => PySem.W.kIn_of Y) ?F
  case F =>
    intro w mg fa h KX G hmg
    refine' Pv.all_mk KX G hmg ?qa_Update ?qrm2 ?qpa_records ?qpd_records ?qu1 ?qu2 ?qs1 ?qs2 ?qof_neg ?qof_add ?qof_len ?qof_contains ?qof_eq ?qof_repr ?qa_check_image ?ql_check_image ?qcdis_check_image ?qk_check_image ?qa_check_state ?ql_check_state ?qcdis_check_state ?qk_check_state ?qa_check_pair ?ql_check_pair ?qcdis_check_pair ?qk_check_pair ?ql_m_init ?qcd_is_m_init ?qk_m_init ?ql_m_records ?qcd_is_m_records ?qk_m_records ?ql_m_rest ?qcd_is_m_rest ?qk_m_rest ?ql_m_joint ?qcd_is_m_joint ?qk_m_joint ?ql_m_neg ?qcd_is_m_neg ?qk_m_neg ?ql_m_add ?qcd_is_m_add ?qk_m_add ?ql_m_eq ?qcd_is_m_eq ?qk_m_eq ?ql_m_len ?qcd_is_m_len ?qk_m_len ?ql_m_contains ?qcd_is_m_contains ?qk_m_contains ?ql_m_repr ?qcd_is_m_repr ?qk_m_repr ?qa_written ?ql_written ?qcdis_written ?qk_written ?qa_law_mix ?ql_law_mix ?qcdis_law_mix ?qk_law_mix ?qa_law_box ?ql_law_box ?qcdis_law_box ?qk_law_box ?qa_law_draw ?ql_law_draw ?qcdis_law_draw ?qk_law_draw ?qa_law_size ?ql_law_size ?qcdis_law_size ?qk_law_size ?qa_law_paired ?ql_law_paired ?qcdis_law_paired ?qk_law_paired ?qa_law_other ?ql_law_other ?qcdis_law_other ?qk_law_other ?qa_law_blocks ?ql_law_blocks ?qcdis_law_blocks ?qk_law_blocks ?qa_law_touched ?ql_law_touched ?qcdis_law_touched ?qk_law_touched ?qa_law_whole ?ql_law_whole ?qcdis_law_whole ?qk_law_whole ?qa_law_row ?ql_law_row ?qcdis_law_row ?qk_law_row ?qa_law_spoil ?ql_law_spoil ?qcdis_law_spoil ?qk_law_spoil ?qa_law_entry ?ql_law_entry ?qcdis_law_entry ?qk_law_entry ?qa_law_unsettled ?ql_law_unsettled ?qcdis_law_unsettled ?qk_law_unsettled ?qa_law_update ?ql_law_update ?qcdis_law_update ?qk_law_update ?qa_law_answer ?ql_law_answer ?qcdis_law_answer ?qk_law_answer ?qa_law_made ?ql_law_made ?qcdis_law_made ?qk_law_made ?qa_law_rows ?ql_law_rows ?qcdis_law_rows ?qk_law_rows ?qa_law_one ?ql_law_one ?qcdis_law_one ?qk_law_one ?qa_law_sum ?ql_law_sum ?qcdis_law_sum ?qk_law_sum ?qa_law_sum_of_all ?ql_law_sum_of_all ?qcdis_law_sum_of_all ?qk_law_sum_of_all ?qa_law_joint ?ql_law_joint ?qcdis_law_joint ?qk_law_joint ?qa_law_plus_kept ?ql_law_plus_kept ?qcdis_law_plus_kept ?qk_law_plus_kept ?qa_law_joint_kept ?ql_law_joint_kept ?qcdis_law_joint_kept ?qk_law_joint_kept ?qa_law_equal_kept ?ql_law_equal_kept ?qcdis_law_equal_kept ?qk_law_equal_kept ?qa_law_rest_kept ?ql_law_rest_kept ?qcdis_law_rest_kept ?qk_law_rest_kept ?qa_law ?ql_law ?qcdis_law ?qk_law ?qa_MendError ?qx_MendError ?qa_InvalidImage ?qx_InvalidImage ?qkc_InvalidImage ?qsa_InvalidImage ?qga_InvalidImage ?qgg_InvalidImage ?qca_InvalidImage ?qi_is_InvalidImage ?qt_InvalidImage ?qnf_InvalidImage ?ql_i_InvalidImage ?qcdis_i_InvalidImage ?qk_i_InvalidImage ?qa_NotState ?qx_NotState ?qkc_NotState ?qsa_NotState ?qga_NotState ?qgg_NotState ?qca_NotState ?qi_is_NotState ?qt_NotState ?qnf_NotState ?ql_i_NotState ?qcdis_i_NotState ?qk_i_NotState ?qa_Busy ?qx_Busy ?qkc_Busy ?qsa_Busy ?qga_Busy ?qgg_Busy ?qca_Busy ?qi_is_Busy ?qt_Busy ?qnf_Busy ?ql_i_Busy ?qcdis_i_Busy ?qk_i_Busy ?qa_UnequalSizes ?qx_UnequalSizes ?qkc_UnequalSizes ?qsa_UnequalSizes ?qga_UnequalSizes ?qgg_UnequalSizes ?qca_UnequalSizes ?qq_is_UnequalSizes ?qa_InvalidUpdate ?qx_InvalidUpdate ?qkc_InvalidUpdate ?qsa_InvalidUpdate ?qga_InvalidUpdate ?qgg_InvalidUpdate ?qca_InvalidUpdate ?qq_is_InvalidUpdate ?qcn ?qct ?qnd ?qrc1 ?qrc2 ?qrc3 ?qrc4 ?qrm1 ?qrm3 ?qrm4 ?qr_cc ?qr_co ?qpb_records ?qpc_records ?qrq1 ?qrq2 ?qu3 ?qog_neg ?qog_add ?qog_len ?qog_contains ?qog_eq ?qog_repr ?qo3 ?qo6 ?qnc_is_before ?qnc_is_after ?qz_ValueError ?qz_int ?qz_bool ?qz_str ?qz_list ?qz_tuple ?qz_len ?qz_range ?qz_enumerate ?qz_isinstance ?qz_min ?qz_abs ?qz_sorted ?qz_all ?qz_any ?qz_sum ?qz_zip ?qz_reversed ?qz_max ?qz_set ?qz_repr
    (case qa_Update => k_is)
    (case qrm2 => k_is)
    (case qpa_records => k_is)
    (case qpd_records => k_is)
    (case qu1 => k_is)
    (case qu2 => k_is)
    (case qs1 => k_is)
    (case qs2 => k_is)
    (case qof_neg => k_is)
    (case qof_add => k_is)
    (case qof_len => k_is)
    (case qof_contains => k_is)
    (case qof_eq => k_is)
    (case qof_repr => k_is)
    (case qa_check_image => k_is)
    (case ql_check_image => k_is)
    (case qcdis_check_image => k_is)
    (case qk_check_image => k_is)
    (case qa_check_state => k_is)
    (case ql_check_state => k_is)
    (case qcdis_check_state => k_is)
    (case qk_check_state => k_is)
    (case qa_check_pair => k_is)
    (case ql_check_pair => k_is)
    (case qcdis_check_pair => k_is)
    (case qk_check_pair => k_is)
    (case ql_m_init => k_is)
    (case qcd_is_m_init => k_is)
    (case qk_m_init => k_is)
    (case ql_m_records => k_is)
    (case qcd_is_m_records => k_is)
    (case qk_m_records => k_is)
    (case ql_m_rest => k_is)
    (case qcd_is_m_rest => k_is)
    (case qk_m_rest => k_is)
    (case ql_m_joint => k_is)
    (case qcd_is_m_joint => k_is)
    (case qk_m_joint => k_is)
    (case ql_m_neg => k_is)
    (case qcd_is_m_neg => k_is)
    (case qk_m_neg => k_is)
    (case ql_m_add => k_is)
    (case qcd_is_m_add => k_is)
    (case qk_m_add => k_is)
    (case ql_m_eq => k_is)
    (case qcd_is_m_eq => k_is)
    (case qk_m_eq => k_is)
    (case ql_m_len => k_is)
    (case qcd_is_m_len => k_is)
    (case qk_m_len => k_is)
    (case ql_m_contains => k_is)
    (case qcd_is_m_contains => k_is)
    (case qk_m_contains => k_is)
    (case ql_m_repr => k_is)
    (case qcd_is_m_repr => k_is)
    (case qk_m_repr => k_is)
    (case qa_written => k_is)
    (case ql_written => k_is)
    (case qcdis_written => k_is)
    (case qk_written => k_is)
    (case qa_law_mix => k_is)
    (case ql_law_mix => k_is)
    (case qcdis_law_mix => k_is)
    (case qk_law_mix => k_is)
    (case qa_law_box => k_is)
    (case ql_law_box => k_is)
    (case qcdis_law_box => k_is)
    (case qk_law_box => k_is)
    (case qa_law_draw => k_is)
    (case ql_law_draw => k_is)
    (case qcdis_law_draw => k_is)
    (case qk_law_draw => k_is)
    (case qa_law_size => k_is)
    (case ql_law_size => k_is)
    (case qcdis_law_size => k_is)
    (case qk_law_size => k_is)
    (case qa_law_paired => k_is)
    (case ql_law_paired => k_is)
    (case qcdis_law_paired => k_is)
    (case qk_law_paired => k_is)
    (case qa_law_other => k_is)
    (case ql_law_other => k_is)
    (case qcdis_law_other => k_is)
    (case qk_law_other => k_is)
    (case qa_law_blocks => k_is)
    (case ql_law_blocks => k_is)
    (case qcdis_law_blocks => k_is)
    (case qk_law_blocks => k_is)
    (case qa_law_touched => k_is)
    (case ql_law_touched => k_is)
    (case qcdis_law_touched => k_is)
    (case qk_law_touched => k_is)
    (case qa_law_whole => k_is)
    (case ql_law_whole => k_is)
    (case qcdis_law_whole => k_is)
    (case qk_law_whole => k_is)
    (case qa_law_row => k_is)
    (case ql_law_row => k_is)
    (case qcdis_law_row => k_is)
    (case qk_law_row => k_is)
    (case qa_law_spoil => k_is)
    (case ql_law_spoil => k_is)
    (case qcdis_law_spoil => k_is)
    (case qk_law_spoil => k_is)
    (case qa_law_entry => k_is)
    (case ql_law_entry => k_is)
    (case qcdis_law_entry => k_is)
    (case qk_law_entry => k_is)
    (case qa_law_unsettled => k_is)
    (case ql_law_unsettled => k_is)
    (case qcdis_law_unsettled => k_is)
    (case qk_law_unsettled => k_is)
    (case qa_law_update => k_is)
    (case ql_law_update => k_is)
    (case qcdis_law_update => k_is)
    (case qk_law_update => k_is)
    (case qa_law_answer => k_is)
    (case ql_law_answer => k_is)
    (case qcdis_law_answer => k_is)
    (case qk_law_answer => k_is)
    (case qa_law_made => k_is)
    (case ql_law_made => k_is)
    (case qcdis_law_made => k_is)
    (case qk_law_made => k_is)
    (case qa_law_rows => k_is)
    (case ql_law_rows => k_is)
    (case qcdis_law_rows => k_is)
    (case qk_law_rows => k_is)
    (case qa_law_one => k_is)
    (case ql_law_one => k_is)
    (case qcdis_law_one => k_is)
    (case qk_law_one => k_is)
    (case qa_law_sum => k_is)
    (case ql_law_sum => k_is)
    (case qcdis_law_sum => k_is)
    (case qk_law_sum => k_is)
    (case qa_law_sum_of_all => k_is)
    (case ql_law_sum_of_all => k_is)
    (case qcdis_law_sum_of_all => k_is)
    (case qk_law_sum_of_all => k_is)
    (case qa_law_joint => k_is)
    (case ql_law_joint => k_is)
    (case qcdis_law_joint => k_is)
    (case qk_law_joint => k_is)
    (case qa_law_plus_kept => k_is)
    (case ql_law_plus_kept => k_is)
    (case qcdis_law_plus_kept => k_is)
    (case qk_law_plus_kept => k_is)
    (case qa_law_joint_kept => k_is)
    (case ql_law_joint_kept => k_is)
    (case qcdis_law_joint_kept => k_is)
    (case qk_law_joint_kept => k_is)
    (case qa_law_equal_kept => k_is)
    (case ql_law_equal_kept => k_is)
    (case qcdis_law_equal_kept => k_is)
    (case qk_law_equal_kept => k_is)
    (case qa_law_rest_kept => k_is)
    (case ql_law_rest_kept => k_is)
    (case qcdis_law_rest_kept => k_is)
    (case qk_law_rest_kept => k_is)
    (case qa_law => k_is)
    (case ql_law => k_is)
    (case qcdis_law => k_is)
    (case qk_law => k_is)
    (case qa_MendError => k_is)
    (case qx_MendError => k_is)
    (case qa_InvalidImage => k_is)
    (case qx_InvalidImage => k_is)
    (case qkc_InvalidImage => k_is)
    (case qsa_InvalidImage => k_is)
    (case qga_InvalidImage => k_is)
    (case qgg_InvalidImage => k_is)
    (case qca_InvalidImage => k_is)
    (case qi_is_InvalidImage => k_is)
    (case qt_InvalidImage => k_is)
    (case qnf_InvalidImage => k_is)
    (case ql_i_InvalidImage => k_is)
    (case qcdis_i_InvalidImage => k_is)
    (case qk_i_InvalidImage => k_is)
    (case qa_NotState => k_is)
    (case qx_NotState => k_is)
    (case qkc_NotState => k_is)
    (case qsa_NotState => k_is)
    (case qga_NotState => k_is)
    (case qgg_NotState => k_is)
    (case qca_NotState => k_is)
    (case qi_is_NotState => k_is)
    (case qt_NotState => k_is)
    (case qnf_NotState => k_is)
    (case ql_i_NotState => k_is)
    (case qcdis_i_NotState => k_is)
    (case qk_i_NotState => k_is)
    (case qa_Busy => k_is)
    (case qx_Busy => k_is)
    (case qkc_Busy => k_is)
    (case qsa_Busy => k_is)
    (case qga_Busy => k_is)
    (case qgg_Busy => k_is)
    (case qca_Busy => k_is)
    (case qi_is_Busy => k_is)
    (case qt_Busy => k_is)
    (case qnf_Busy => k_is)
    (case ql_i_Busy => k_is)
    (case qcdis_i_Busy => k_is)
    (case qk_i_Busy => k_is)
    (case qa_UnequalSizes => k_is)
    (case qx_UnequalSizes => k_is)
    (case qkc_UnequalSizes => k_is)
    (case qsa_UnequalSizes => k_is)
    (case qga_UnequalSizes => k_is)
    (case qgg_UnequalSizes => k_is)
    (case qca_UnequalSizes => k_is)
    (case qq_is_UnequalSizes => k_exc)
    (case qa_InvalidUpdate => k_is)
    (case qx_InvalidUpdate => k_is)
    (case qkc_InvalidUpdate => k_is)
    (case qsa_InvalidUpdate => k_is)
    (case qga_InvalidUpdate => k_is)
    (case qgg_InvalidUpdate => k_is)
    (case qca_InvalidUpdate => k_is)
    (case qq_is_InvalidUpdate => k_exc)
    (case qcn => k_is)
    (case qct => k_is)
    (case qnd => decide)
    (case qrc1 => k_is)
    (case qrc2 => k_is)
    (case qrc3 => k_is)
    (case qrc4 => k_is)
    (case qrm1 => k_is)
    (case qrm3 => k_is)
    (case qrm4 => k_is)
    (case qr_cc => k_is)
    (case qr_co => k_is)
    (case qpb_records => k_is)
    (case qpc_records => k_is)
    (case qrq1 => k_is)
    (case qrq2 => k_is)
    (case qu3 => k_is)
    (case qog_neg => k_is)
    (case qog_add => k_is)
    (case qog_len => k_is)
    (case qog_contains => k_is)
    (case qog_eq => k_is)
    (case qog_repr => k_is)
    (case qo3 => k_is)
    (case qo6 => k_is)
    (case qnc_is_before => k_is)
    (case qnc_is_after => k_is)
    (case qz_ValueError => k_is)
    (case qz_int => k_is)
    (case qz_bool => k_is)
    (case qz_str => k_is)
    (case qz_list => k_is)
    (case qz_tuple => k_is)
    (case qz_len => k_is)
    (case qz_range => k_is)
    (case qz_enumerate => k_is)
    (case qz_isinstance => k_is)
    (case qz_min => k_is)
    (case qz_abs => k_is)
    (case qz_sorted => k_is)
    (case qz_all => k_is)
    (case qz_any => k_is)
    (case qz_sum => k_is)
    (case qz_zip => k_is)
    (case qz_reversed => k_is)
    (case qz_max => k_is)
    (case qz_set => k_is)
    (case qz_repr => k_is)
